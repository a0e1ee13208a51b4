import PyProof.Rows.All
import Wide.All
import OpenK.AllK
import Wide.FinOn
import Lean
import PyProof.EqAt
import PyProof.EqKinds
import PyProof.TupleCall
import PySem.Challenge.RW_renamehall_k07_rules_asked
import KE.IntTextLaws
import KE.KIsAll
import PyProof.ExcArgsOwn
import PyProof.ExcBaseAll.ValueError
import PyProof.ExcClass2
import PyProof.ExcInit
import PyProof.InstStore
import PyProof.Rows.CatchBare
import PyProof.Rows.CatchOwn
import PyProof.StationsW
import PyProof.SumWalk
import PyProof.ReprRoads
set_option Elab.async false
set_option linter.all false
set_option maxRecDepth 100000
local macro_rules|`(tactic|trivial)=>`(tactic|first|exact Or.inl rfl|exact Or.inr rfl|fail)
local macro_rules|`(tactic|trivial)=>`(tactic|first|(refine⟨rfl,rfl,rfl,?_,rfl,?_,?_⟩<;>decide +kernel)|fail)
open Array renaming getElem?_eq_some_iff→Dj,length_toList→Jg,find?_toList→Jp,mem_toList_iff→Mo,append_assoc→Nh,toList_map→Oz
open Bool renaming false_ne_true→Bf,and_self→Dv,and_eq_true→Gq,eq_iff_iff→Il,or_true→Jb,and_eq_true_iff→Mw
open Classical renaming byContradiction→Cv
open Eq renaming trans→Ky
open Int renaming emod_lt_of_pos→Hi,emod_nonneg→Iv,toNat_natCast→Kd,natAbs_natCast→Nv
open List renaming length_append→Ae,length_map→Ai,getElem?_eq_some_iff→Ak,mem_of_getElem?→Am,getElem?_eq_getElem→Ap,length_singleton→Aq,size_toArray→Ar,mem_singleton→Au,mem_cons_of_mem→Av,getElem?_append_left→Ba,mem_cons→Bd,length_cons→Be,mem_append→Bh,map_append→Bi,length_take→Bk,getElem?_append_right→Bl,mem_cons_self→Bo,dropLast_concat_getLast→Bq,not_mem_nil→Br,length_drop→Bx,mem_append_right→Cg,map_cons→Cj,take_of_length_le→Cs,length_pos_iff→Cw,getElem?_map→Cy,append_nil→Dd,mem_append_left→Dh,getElem?_eq_none→Ed,append_assoc→Ek,take_length→Ep,contains_cons→Ex,getD_eq_getElem?_getD→Ff,take_sublist→Fh,filter_append→Fz,find?_cons→Ga,getElem?_drop→Ge,drop_of_length_le→Gf,lookup_cons→Gr,drop_length→Gw,mem_iff_getElem→Gx,drop_eq_getElem_cons→He,getLast?_eq_getElem?→Hf,map_map→Hj,append_eq_nil_iff→Hy,getElem?_set_ne→Ik,nodup_cons→Im,length_dropLast→Iq,length_nil→Iw,mem_of_mem_take→Jd,getLast?_eq_some_getLast→Je,filterMap_cons→Jf,replicate_succ→Ji,flatten_cons→Kb,getElem?_take_of_lt→Kt,filter_cons_of_pos→La,getLast_eq_getElem→Lc,of_mem_zip→Lh,foldl_cons→Li,getElem?_set_self→Lm,length_replicate→Ly,take_succ→Mb,take_append_drop→Mc,getLast?_concat→Mv,any_cons→Mx,length_reverse→Nc,mem_filterMap→Nm,mem_map→Nr,reverse_cons→Ob,all_eq_true→Oq,cons_append→Ov,filter_cons→Ow,getLast_mem→Oy,mem_filter→Pa
open List.Sublist renaming length_le→Ia
open Nat renaming le_refl→Ah,le_trans→Aw,lt_of_lt_of_le→Bb,zero_le→Bg,ne_of_lt→By,min_le_right→Dm,sub_self→Du,lt_irrefl→Fb,ne_of_gt→Fq,not_lt→Gd,pow_le_pow_right→Gu,le_succ→Hc,le_of_not_lt→Ie,lt_or_ge→Jc,lt_of_le_of_lt→Js,add_sub_cancel→Ju,eq_zero_or_pos→Jv,le_of_eq→Kq,not_lt_zero→Ll,le_of_ble_eq_true→Mk,mul_le_mul_right→Mu,le_of_lt→Ni,pow_succ→Nt,add_zero→Nw,lt_or_eq_of_le→Nx,le_of_lt_succ→Oh,log2_lt→Ol
open Ne renaming symm→Cu
open Option renaming bind_some→Dx,isSome_iff_exists→Ei,map_eq_some_iff→Hz,isSome_map→Kc,map_some→Lj,getD_none→Oo
open Option.some renaming inj→Cf
open PyProof.Rows renaming callWith_type1→Ck,slot_tuple_getitem→Fv,envOfC→Fy,AllBare→Hl,callWith_builtin1→Io,subscriptTail_builtinR→Lp,IntsAre→Ny,Subscript_→Pd
open PySem renaming wpAny_bind→Ac,Shared→Ag,wpAny_pure→Aj,boot_len→Ax,starEach→Ay,NameKind→Az,wpAny_field→Bm,mainGlobals→Bt,wpAny_mono→Cc,compareOp→Cd,excClassObj→Ce,wpAny_setField_rec→Ci,wpAny_standAt→Co,wpAny_loadPart_at→Cz,wpAny_callSpecial?_slot→Dg,wpAny_holding→Dp,wpAny_newObj_type→Dq,importedModules→Dr,mem_of_lookup→Ds,wpAny_call_entry→Dw,Builtin→Dz,wpAny_Call_Name_kw→Ea,bootBuiltins→Eg,rawInt→Eh,codeAny_call_builtin→Ej,wpAny_attempt→El,sysModules→Er,sizeLine_eq→Es,wpAny_call→Et,wpAny_passesOwn→Ez,binaryOp→Fc,Paired→Fg,strIterType→Fm,wpAny_seqItems→Fo,backTo→Fp,wpAny_isSubtype_exc→Fu,behindInMarks→Fx,wpAny_truthy_bool→Gg,codeAny_mono→Gj,builtinLookup_eq_fast→Gm,isSubtype_type→Gn,assignEach→Gp,attributeBase→Gy,find?_eq_fast→Gz,sliceBounds→Hb,wpAny_execs_nil→Hd,tupleKind_room_in1→Hk,codeAny→Hm,wpAny_setField→Hn,intText?→Ho,IsPair→Hw,FuncData→Ib,OsState→Ih,call_meets→Ip,wpAny_updateSeq_pair→Ir,typeLookup_type→Iy,ExcBaseFacts→Ja,compEnvC→Jj,OwnTail→Jk,wpAny_of_eq→Jn,tupleKind→Jo,DictEntry→Jq,IsPart→Jr,treeTable→Jt,wpAny_onRaise→Jx,wpAny_pyIter_list→Jz,foldedSetIterable→Ka,typeLookup→Kf,codeAny_call_builtin_code→Kj,wpAny_check_type_call_sub→Kk,holding→Kl,callerA→Km,wpAny_execs_cons→Kn,pyIter→Ko,wpAny_comprehension_free→Kv,wpAny_isInstance→Kw,GenState→Kx,codeAny_call_builtin_at→Lb,swapsWith→Le,letOwnedTupleGo→Lf,codeAny_of_tree→Lk,seqIndex_of→Ln,subscripted→Lo,wpAny_getItem_list_neg→Lq,wpAny_letGo→Ls,wpAny_isTrue_Compare1→Lv,BindsTo→Lx,isSubtype_stop→Ma,wpAny_typeLookup_tail→Me,wpAny_loadPart→Mg,wpAny_loadName_local→Mn,PlainAttrs→Mp,wpAny_rule→Mq,wpAny_check_new_subT→Mr,codeAny_exc_new_subT→Ms,wpAny_loadName_cell→Nb,Within→Ng,inplaceOp→Nj,PassesOwn→Nk,pyNext→Nl,wpAny_assign_Name→Nz,wpAny_pyIter_strU→Od,wpAny_pyIter_enum→Oe,keywordEach→Oj,entryFor→Ox,wpAny_Name→Pb,typeIs_str→Pe,typeIs_int→Pf,call→Ph,closureFor→Pj,refuseLoop→Pk,standAt→Pm,Keyword→Pn,PyData→Pq
open PySem.Around renaming under→Kr
open PySem.Builtin.List renaming listTooLong→Hh
open PySem.Builtin.Slice renaming slicePlaces→Fj,sliceAdjust→Ke
open PySem.Builtin.SmallTypes renaming nextOf→Kh
open PySem.Builtin.Str renaming strSliceIndices→De,occurrences→En
open PySem.Calls renaming Name_function_global→Jw,callWith_builtin→Lr
open PySem.Code renaming quiet_builtin→Gb,isFrame→Np
open PySem.F renaming plainAttrs_list→Bc,slot_list_append→Bv,type_list_append→Bw,plainAttrs_str→Eu,slot_list_extend→Fs,type_list_extend→Ft,slot_enumerate_next→Gk,slot_list_reversed→Gs,excBase_ValueError→Ha,slot_zip_next→Iu,excAttr_ValueError→Jy,slot_dict_getitem→Ki,args_enumerate_next_1→Kz,entry_enumerate_next→Lu,entry_bexc_ga→Mh,slot_str_join→Mi,type_str_join→Mj,slot_list_pop→Ml,type_list_pop→Mm,args_bexc_ga→Mt,args_zip_next_1→Oc,entry_zip_next→Ou,slot_int_rmul→Pg
open PySem.Heap renaming get?_push_of_some→Ad,lt_size→An,get?_push_size→As,get?_update_other→Bz,get?_update_self→Dl,get?_none_of_le→Fi,SameBut→Gh,size_push→Gi,MadeExcOf→Jl,get?_push_at→Of
open PySem.Heap.Ns1 renaming of_empty→Oa
open PySem.NumText renaming digitsVal→Dk
open PySem.Obj renaming mapFields→Em,data_mapFields→Ew,isFreed_of_fields→Ig,mapSeq→Kg
open PySem.Paired renaming length→Fw
open PySem.PassesOwn renaming never→Ca
open PySem.PyData renaming canLayAll0→Bj,strOk→Bp,canLay0→Cq,eqv→Fl,keyHash→Jm,eqvAll→Na
open PySem.SeqAt renaming EqAt→Di
open PySem.SeqAt.EqAt renaming int_str→Nd,str_int→Nf
open PySem.Str renaming ofString→Ab,empty→Lg
open PySem.StrLaws renaming sliceText→Bs,sliceText_nat→Md
open PySem.Txt renaming slice→Iz,slice→Nq,join→Ot,rjustF→Pl
open PySem.W renaming Frag→Af,findIn→Bu,emptyDict→Dc,kitOne→Dy,keepIn→Eo,nsIn→Ey,kitAny→Fe,fnOf→Hg,looks_findIn→Hq,specialIn→Hv,InstAt→Ic,clsIn→Ii,mg_of→Ij,Frag→Kp,callWith_K→Ks,codeIn→Ku,instObj→Ld,mroIn→Lw,Looks→Mf,looks_mroIn→My,looks_clsIn→Mz,takesIn→Nn,check_slot→Nu,hasDictIn→Oi,cellsFrom_some→Om,OpenLaw→Po,findObj→Pp
open PySem.W.Fast renaming te10110043849684766642→Hr,te14364793385576792824→Hs,te4187177175401517315→Ht,te5923862056798008813→Hu
open PySem.Within renaming cons→Og
namespace L2
open PySem PySem.Spec PyProof.Rows
abbrev Key:=Sum Int Str
def keyIs:Key->Value->Bool
 |.inl k,v=>Value.isInt k v
 |.inr x,v=>Value.isStrOf x v
def keyH(w:World):Key->Int
 |.inl k=>hashInt k
 |.inr x=>hashStr w x
theorem q1i:∀{k:Key} {v:Value},keyIs k v=true->(∃i t,k=Sum.inl i/\v=Value.int i t)\/(∃x t,k=Sum.inr x/\v=Value.str x t)
 |.inl i,v,h=>by
  obtain⟨t,e⟩:=Value.isInt_shape (k:=i) (v:=v) h;exact .inl ⟨i,t,rfl,e⟩
 |.inr x,v,h=>by
  obtain⟨t,e⟩:=Value.isStrOf_shape h;exact .inr ⟨x,t,rfl,e⟩
theorem z4k(i:Int)(t:Tok):keyIs (.inl i) (.int i t)=true:=by simp[keyIs,Value.isInt]
theorem q6b(x:Str)(t:Tok):keyIs (.inr x) (.str x t)=true:=by simp[keyIs,Value.isStrOf]
theorem key_ll(a b:Int):decide ((Sum.inl a:Key)=Sum.inl b)=(a==b):=by grind
theorem key_rr(a b:Str):decide ((Sum.inr a:Key)=Sum.inr b)=decide (a=b):=by grind
theorem key_lr(a:Int)(b:Str):decide ((Sum.inl a:Key)=Sum.inr b)=false:=decide_eq_false (fun q=>nomatch q)
theorem key_rl(a:Str)(b:Int):decide ((Sum.inr a:Key)=Sum.inl b)=false:=decide_eq_false (fun q=>nomatch q)
def mixKind(prog:Program)(w:World):PySem.KeyKind prog w Key where
 is:=keyIs
 hash:=keyH w
 inj:=fun v a b ha hb=>by
  rcases q1i ha with⟨i,t,rfl,rfl⟩|⟨x,t,rfl,rfl⟩
  ·rcases q1i hb with⟨j,u,rfl,e⟩|⟨y,u,rfl,e⟩
   ·injection e with e1 _;rw[e1]
   ·exact nomatch e
  ·rcases q1i hb with⟨j,u,rfl,e⟩|⟨y,u,rfl,e⟩
   ·exact nomatch e
   ·injection e with e1 _;rw[e1]
 byValue:=fun k v h=>by
  rcases q1i h with⟨i,t,rfl,rfl⟩|⟨x,t,rfl,rfl⟩<;>rfl
 pyHash:=fun hv h=>by
  rcases q1i hv with⟨i,t,rfl,rfl⟩|⟨x,t,rfl,rfl⟩
  ·exact wpAny_pyHash_int h
  ·exact wpAny_pyHash_str h
 eqBool:=fun hu hv h=>by
  rcases q1i hu with⟨i,t,rfl,rfl⟩|⟨x,t,rfl,rfl⟩
  ·rcases q1i hv with⟨j,u,rfl,rfl⟩|⟨y,u,rfl,rfl⟩
   ·rw[key_ll] at h;exact wpAny_eqBool_int h
   ·rw[key_lr] at h;exact Nd i t y u _ _ _ _ h
  ·rcases q1i hv with⟨j,u,rfl,rfl⟩|⟨y,u,rfl,rfl⟩
   ·rw[key_rl] at h;exact Nf x t j u _ _ _ _ h
   ·rw[key_rr] at h;exact wpAny_eqBool_str h
 «strs» := fun k x t v h=>by
  rcases q1i h with⟨i,u,rfl,e⟩|⟨y,u,rfl,e⟩
  ·exact nomatch e
  ·injection e with e1 _
   subst e1
   cases v<;>rfl
theorem z0z(prog:Program)(w:World)(i:Int)(t:Tok):(mixKind prog w).is (.inl i) (.int i t)=true:=z4k i t
theorem z1a(prog:Program)(w:World)(x:Str)(t:Tok):(mixKind prog w).is (.inr x) (.str x t)=true:=q6b x t
inductive V where
 |non|bl (b:Bool)|int (i:Int)|str (x:Str)|byt (b:Array UInt8)|flt (b:UInt64)|ref (a:Addr)|ty (n:String)
 deriving DecidableEq
def RelV:V->Value->Prop
 |.non,u=>u=Value.none
 |.bl b,u=>u=Value.bool b
 |.int i,u=>∃t,u=Value.int i t
 |.str x,u=>∃t,u=Value.str x t
 |.byt b,u=>∃t,u=Value.bytes b t
 |.flt b,u=>∃t,u=Value.float b t
 |.ref a,u=>u=Value.ref a
 |.ty n,u=>u=Value.type n
abbrev Vals:List V->List Value->Prop:=Fg RelV
theorem Vals.length(r:Vals xs us):xs.length=us.length:=Fw r
theorem Vals.get:∀{xs:List V} {us:List Value} {i:Nat} {x:V},Vals xs us->xs[i]?=some x->∃u,us[i]?=some u/\RelV x u
 |_,_,_,_,.nil,e=>by simp at e
 |_,_,0,_,.cons r _,e=>by simp at e;subst e;exact⟨_,rfl,r⟩
 |_,_,i+1,x,.cons _ t,e=>by
  obtain⟨u,h1,h2⟩:=Vals.get (i:=i) (x:=x) t (by simpa using e);exact⟨u,by simpa using h1,h2⟩
theorem Vals.set{x:V}{u:Value}(r:RelV x u):∀{xs:List V} {us:List Value} (i:Nat),Vals xs us->Vals (xs.set i x) (us.set i u)
 |_,_,_,.nil=>.nil
 |_,_,0,.cons _ t=>.cons r t
 |_,_,i+1,.cons q t=>.cons q (Vals.set r i t)
theorem Vals.append:∀{xs ys:List V} {us ws:List Value},Vals xs us->Vals ys ws->Vals (xs++ys) (us++ws)
 |_,_,_,_,.nil,s=>s
 |_,_,_,_,.cons r t,s=>.cons r (Vals.append t s)
theorem Vals.take:∀{xs:List V} {us:List Value} (n:Nat),Vals xs us->Vals (xs.take n) (us.take n)
 |_,_,0,_=>.nil
 |_,_,_+1,.nil=>.nil
 |_,_,n+1,.cons r t=>.cons r (Vals.take n t)
theorem Vals.drop:∀{xs:List V} {us:List Value} (n:Nat),Vals xs us->Vals (xs.drop n) (us.drop n)
 |_,_,0,r=>r
 |_,_,_+1,.nil=>.nil
 |_,_,n+1,.cons _ t=>Vals.drop n t
def RelO:Option V->Option Value->Prop
 |some v,some u=>RelV v u
 |none,none=>True
 |_,_=>False
def KV{κ:Type}:List (κ×V)->List (κ×Value)->Prop:=Fg fun(p:κ×V) (q:κ×Value)=>p.1=q.1/\RelV p.2 q.2
def kV:Key->V
 |.inl i=>.int i
 |.inr x=>.str x
inductive HO where
 |lst (xs:List V)
 |tup (xs:List V)
 |dK (kvs:List (Key×V))|dT (kvs:List (List Key×V))
 |set (S:Int->Bool) (n:Nat)
 |ins (C dx:Addr) (fs:List (Str×V))
 |own (x:Addr)
 |xd (fs:List (Str×V))
 |met (f x:Addr)
 |rng (lo hi:Int)
 |frz (o:Obj) (u:HO)
 |tbl (ps:Array Value)
 |ext (φ:Heap->Prop)
abbrev Hp:=Addr->Option HO
def upd(H:Hp)(a:Addr)(o:HO):Hp:=fun b=>if b=a then some o else H b
theorem q0d:upd H a o a=some o:=by unfold upd;rw[if_pos rfl]
theorem q0l(h:b≠a):upd H a o b=H b:=by unfold upd;rw[if_neg h]
theorem z9v:upd (upd H a o) a u=upd H a u:=by
 funext b;unfold upd;split<;>rfl
theorem z4l{H:Hp}(h:H a=some o)(h':H b=some u)(d:o≠u):a≠b:=by grind
theorem q0w{H:Hp}(h:H a=some o)(h':H b=none):a≠b:=by
 intro e;subst e;rw[h] at h';cases h'
section
variable(P:Program)(w:World)
def ObjOk(H:Hp)(h:Heap)(a:Addr):HO->Prop
 |.lst xs=>xs.length<=sizeLine/\∃(its:List Value) (n:Nat),Vals xs its/\h.get? a=some { cls:=.type "list",data:=.seq its.toArray n }
 |.tup xs=>xs.length<=sizeLine/\∃its:List Value,Vals xs its/\IsTup h a its.toArray
 |.dK kvs=>kvs.length<=sizeLine/\(a==Er)=false/\∃vs,KV kvs vs/\h.DictOf (mixKind P w) a vs
 |.dT kvs=>kvs.length<=sizeLine/\(a==Er)=false/\∃xs:List (List Key×Addr×Value),
   Fg (fun(p:List Key×V) (q:List Key×Addr×Value)=>p.1=q.1/\H q.2.1=some (.tup (p.1.map kV))/\RelV p.2 q.2.2) kvs xs /\
   ∃o es ep,h.get? a=some o/\o.ExactDict/\o.data=.dict es ep/\es.toList=xs.map (entryOfKey (Jo (mixKind P w)))/\(xs.map (·.1)).Nodup
 |.set S n=>h.SetOf (intKind P w) a S n
 |.ins C dx fs=>H dx=some (.own a)/\fs.length<=1000/\dx≠a/\h.get? a=some (Ld C dx) /\
   ∃mA,h.Ns1 dx mA/\(∀f,RelO (fs.lookup f) (mA f))/\Ng mA (fs.map (·.1))
 |.own _=>∃o,h.get? a=some o
 |.xd fs=>∃mA,h.Ns1 a mA/\∀f,RelO (fs.lookup f) (mA f)
 |.rng lo hi=>∃t u v,h.get? a=some { cls:=.type "range",data:=.fields #[.int lo t,.int hi u,.int 1 v] }
 |.frz o u=>h.get? a=some o/\ObjOk H h a u
 |.tbl ps=>h.get? a=some { cls:=.none,data:=.fields ps }
 |.met f x=>h.get? a=some (W.methodObj (.ref f) (.ref x))
 |.ext φ=>φ h/\(∃o,h.get? a=some o)/\∀h1 h2:Heap,φ h1->(∀o,h1.get? a=some o->h2.get? a=some o)->φ h2
def HOk(H:Hp)(h:Heap):Prop:=∀a o,H a=some o->ObjOk P w H h a o
end
section
variable{P:Program}{w:World}{H H':Hp}{h h':Heap}{a:Addr}{o:HO}
theorem ObjOk.lt(x:ObjOk P w H h a o):a<h.objs.size:=by
 cases o with
 |lst xs=>obtain⟨_,_,_,_,e⟩:=x;exact An e
 |tup xs=>obtain⟨_,_,_,p⟩:=x;exact p.lt
 |dK kvs=>obtain⟨_,_,_,_,o,_,_,e,_⟩:=x;exact An e
 |dT kvs=>obtain⟨_,_,_,_,o,_,_,e,_⟩:=x;exact An e
 |set S n=>obtain⟨o,_,_,_,e,_⟩:=x;exact An e
 |ins C dx fs=>obtain⟨_,_,_,e,_⟩:=x;exact An e
 |own y=>obtain⟨_,e⟩:=x;exact An e
 |xd fs=>obtain⟨_,⟨_,_,_,e,_⟩,_⟩:=x;exact An e
 |rng lo hi=>obtain⟨_,_,_,e⟩:=x;exact An e
 |frz ob u=>obtain⟨e,_⟩:=x;exact An e
 |tbl ps=>exact An (show h.get? a=some _ from x)
 |met f y=>exact An (show h.get? a=some _ from x)
 |ext φ=>obtain⟨_,⟨_,e⟩,_⟩:=x;exact An e
theorem Fg.mapP{α β:Type}{F G:α->β->Prop}:∀{l₁:List α} {l₂:List β},Fg F l₁ l₂->(∀a b,F a b->G a b)->Fg G l₁ l₂
 |_,_,.nil,_=>.nil
 |_,_,.cons r t,f=>.cons (f _ _ r) (Fg.mapP t f)
theorem ObjOk.stay(x:ObjOk P w H h a o)(k:∀b u,(b=a\/H b=some (.own a))->h.get? b=some u->h'.get? b=some u)(ho:∀b,H b=some (.own a)->H' b=some (.own a))(ht:∀b xs,H b=some (.tup xs)->H' b=some (.tup xs)):ObjOk P w H' h' a o:=by
 induction o with
 |lst xs=>obtain⟨z,its,n,r,e⟩:=x;exact⟨z,its,n,r,k _ _ (.inl rfl) e⟩
 |tup xs=>obtain⟨z,its,r,ob,e,c⟩:=x;exact⟨z,its,r,ob,k _ _ (.inl rfl) e,c⟩
 |dK kvs=>obtain⟨z,y,vs,r,ob,es,ep,e,c⟩:=x;exact⟨z,y,vs,r,ob,es,ep,k _ _ (.inl rfl) e,c⟩
 |dT kvs =>
  obtain⟨z,y,xs,r,ob,es,ep,e,c⟩:=x;exact⟨z,y,xs,Fg.mapP r fun p q z=>⟨z.1,ht _ _ z.2.1,z.2.2⟩,ob,es,ep,k _ _ (.inl rfl) e,c⟩
 |set S n=>obtain⟨ob,es,ep,t,e,c⟩:=x;exact⟨ob,es,ep,t,k _ _ (.inl rfl) e,c⟩
 |ins C dx fs =>
  obtain⟨d,z,ne,e,mA,⟨od,es,ep,e2,c⟩,r⟩:=x;exact⟨ho _ d,z,ne,k _ _ (.inl rfl) e,mA,⟨od,es,ep,k _ _ (.inr d) e2,c⟩,r⟩
 |own y=>obtain⟨ob,e⟩:=x;exact⟨ob,k _ _ (.inl rfl) e⟩
 |xd fs=>obtain⟨mA,⟨od,es,ep,e,c⟩,r⟩:=x;exact⟨mA,⟨od,es,ep,k _ _ (.inl rfl) e,c⟩,r⟩
 |rng lo hi=>obtain⟨t,u,v,e⟩:=x;exact⟨t,u,v,k _ _ (.inl rfl) e⟩
 |frz ob u ih=>obtain⟨e,q⟩:=x;exact⟨k _ _ (.inl rfl) e,ih q⟩
 |tbl ps =>
  have e:h.get? a=some { cls:=.none,data:=.fields ps }:=x;exact k a _ (.inl rfl) e
 |met f y =>
  have e:=x;exact k a _ (.inl rfl) e
 |ext φ=>obtain⟨p,⟨o,e⟩,st⟩:=x;exact⟨st _ _ p fun o q=>k _ _ (.inl rfl) q,⟨o,k _ _ (.inl rfl) e⟩,st⟩
theorem HOk.lt(x:HOk P w H h)(e:H a=some o):a<h.objs.size:=(x a o e).lt
theorem HOk.fresh(x:HOk P w H h)(e:h.objs.size<=a):H a=none:=by
 cases q:H a with
 |none=>rfl
 |some u=>exact absurd (Bb (x.lt q) e) (Fb _)
theorem HOk.kept(x:HOk P w H h)(k:∀b u,h.get? b=some u->h'.get? b=some u):HOk P w H h':=fun a o e =>
 (x a o e).stay (fun b u _ q=>k b u q) (fun _ q=>q) fun _ _ q=>q
theorem HOk.laid(x:HOk P w H h)(k:∀b u,h.get? b=some u->h'.get? b=some u)(hp:h.objs.size<=a)(new:ObjOk P w (upd H a o) h' a o):HOk P w (upd H a o) h':=fun b u e=>by
 have hn:=x.fresh hp;by_cases hb:b=a
 ·subst hb;rw[q0d] at e;cases e;exact new
 ·rw[q0l hb] at e;exact(x b u e).stay (fun c v _ q=>k c v q) (fun c q=>by rw[q0l (q0w q hn)];exact q) fun c xs q=>by rw[q0l (q0w q hn)];exact q
end
def Rd(H:Hp)(a:Addr)(u:HO):Prop:=H a=some u\/∃o,H a=some (.frz o u)
theorem Rd.of(h:H a=some u):Rd H a u:=.inl h
theorem Rd.ok(r:Rd H a u)(x:HOk P w H h):ObjOk P w H h a u:=by
 rcases r with r|⟨o,r⟩
 ·exact x a u r
 ·obtain⟨_,q⟩:=x a _ r;exact q
def Mut:Option HO->Prop
 |some (.lst _)=>True
 |some (.dK _)=>True
 |some (.dT _)=>True
 |some (.set _ _)=>True
 |some (.ins _ _ _)=>True
 |some (.ext _)=>True
 |_=>False
section
variable{P:Program}{w:World}{H:Hp}{h h':Heap}{x e:Addr}{o':HO}
theorem HOk.write(ok:HOk P w H h)(mu:Mut (H x))(he:e=x\/H e=some (.own x))(k:∀b u,b≠e->h.get? b=some u->h'.get? b=some u)(heo:∃u,h'.get? e=some u)(new:ObjOk P w (upd H x o') h' x o'):HOk P w (upd H x o') h':=fun b u q=>by
 have nown:∀c y,H c=some (.own y)->c≠x:=fun c y r z=>by subst z;rw[r] at mu;exact mu
 have ntup:∀c xs,H c=some (.tup xs)->c≠x:=fun c xs r z=>by subst z;rw[r] at mu;exact mu
 by_cases hb:b=x
 ·subst hb;rw[q0d] at q;cases q;exact new
 ·rw[q0l hb] at q;by_cases hbe:b=e
  ·have q':H b=some (.own x):=by
    rcases he with z|z
    ·grind
    ·rw[hbe];exact z
   rw[q] at q';cases q';obtain⟨v,hv⟩:=heo;exact⟨v,by rw[hbe];exact hv⟩
  ·refine(ok b u q).stay (fun c v hc r=>k c v ?_ r) (fun c r=>by rw[q0l (nown c b r)];exact r) fun c xs r=>by rw[q0l (ntup c xs r)];exact r
   rcases hc with rfl|hc
   ·exact hbe
   ·grind
end
structure Un (fs ex:List Addr) (H H':Hp) (h h':Heap):Prop where
 keep:∀b o,h.get? b=some o->H b=none->b∉fs->b∉ex->h'.get? b=some o
 slot:∀b o,h.get? b=some o->H b=none->b∈fs->b∉ex->∃sl,h'.get? b=some { o with slots:=sl }
 free:∀b o,h.get? b=some o->H b=none->b∉ex->H' b=none
 there:∀b o,h.get? b=some o->b∉ex->∃o',h'.get? b=some o'
 tups:∀b xs,H b=some (.tup xs)->H' b=some (.tup xs)
 frzs:∀b o u,H b=some (.frz o u)->H' b=some (.frz o u)
 tbls:∀b ps,H b=some (.tbl ps)->∃more,H' b=some (.tbl (ps++more))
section
variable{fs fs' ex ex':List Addr}{H H1 H2:Hp}{h h1 h2 h':Heap}{a x e:Addr}{o:HO}
theorem Un.any(u:Un fs ex H H1 h h1)(q:h.get? b=some ob)(n:H b=none)(hx:b∉ex):∃sl,h1.get? b=some { ob with slots:=sl }:=by
 by_cases hb:b∈fs
 ·exact u.slot b ob q n hb hx
 ·exact⟨ob.slots,u.keep b ob q n hb hx⟩
theorem Un.trans(a:Un fs ex H H1 h h1)(b:Un fs ex H1 H2 h1 h2):Un fs ex H H2 h h2 where
 keep:=fun c ob q n hc hx=>b.keep c ob (a.keep c ob q n hc hx) (a.free c ob q n hx) hc hx
 slot:=fun c ob q n hc hx=>by
  obtain⟨sl,e1⟩:=a.slot c ob q n hc hx;obtain⟨sl',e2⟩:=b.slot c _ e1 (a.free c ob q n hx) hc hx;exact⟨sl',e2⟩
 free:=fun c ob q n hx=>by
  obtain⟨o',e1⟩:=a.there c ob q hx;exact b.free c o' e1 (a.free c ob q n hx) hx
 there:=fun c ob q hx=>by
  obtain⟨o',e1⟩:=a.there c ob q hx;exact b.there c o' e1 hx
 tups:=fun c xs q=>b.tups c xs (a.tups c xs q)
 frzs:=fun c ob xs q=>b.frzs c ob xs (a.frzs c ob xs q)
 tbls:=fun c ps q=>by
  obtain⟨m1,e1⟩:=a.tbls c ps q;obtain⟨m2,e2⟩:=b.tbls c _ e1;exact⟨m1++m2,by rw[e2,Nh]⟩
theorem Un.kept(k:∀b u,h.get? b=some u->h'.get? b=some u):Un fs ex H H h h' :=
 ⟨fun b ob q _ _ _=>k b ob q,fun b ob q _ _ _=>⟨ob.slots,k b ob q⟩,fun _ _ _ n _=>n,fun b ob q _=>⟨ob,k b ob q⟩,fun _ _ q=>q,fun _ _ _ q=>q,fun _ ps q=>⟨#[],by rw[q];simp⟩⟩
theorem Un.refl:Un fs ex H H h h:=Un.kept fun _ _ q=>q
theorem Un.laid(k:∀b u,h.get? b=some u->h'.get? b=some u)(hp:h.objs.size<=a)(hn:H a=none):Un fs ex H (upd H a o) h h' where
 keep:=fun b u q _ _ _=>k b u q
 slot:=fun b u q _ _ _=>⟨u.slots,k b u q⟩
 free:=fun b u q n _=>by rw[q0l (By (Bb (An q) hp))];exact n
 there:=fun b u q _=>⟨u,k b u q⟩
 tups:=fun b xs q=>by rw[q0l (q0w q hn)];exact q
 frzs:=fun b u xs q=>by rw[q0l (q0w q hn)];exact q
 tbls:=fun b ps q=>⟨#[],by rw[q0l (q0w q hn),q];simp⟩
theorem Un.write(mu:Mut (H x))(he:e=x\/H e=some (.own x))(k:∀b u,b≠e->h.get? b=some u->h'.get? b=some u)(heo:∃u,h'.get? e=some u):Un fs ex H (upd H x o) h h':=by
 have hx:∀b,H b=none->b≠x:=fun b n z=>by subst z;rw[n] at mu;exact mu
 have hb:∀b,H b=none->b≠e:=fun b n z=>by
  subst z;rcases he with r|r
  ·exact hx b n r
  ·rw[n] at r;cases r
 have hm:∀b u,H b=some u->¬Mut (some u)->b≠x:=fun b u q nm z=>by subst z;rw[q] at mu;exact nm mu
 refine⟨fun b u q n _ _=>k b u (hb b n) q,fun b u q n _ _=>⟨u.slots,k b u (hb b n) q⟩,fun b u q n _=>by rw[q0l (hx b n)];exact n,fun b u q _=>?_,
  fun b xs q=>by rw[q0l (hm b _ q fun z=>z)];exact q,fun b u xs q=>by rw[q0l (hm b _ q fun z=>z)];exact q,fun b ps q=>⟨#[],by rw[q0l (hm b _ q fun z=>z),q];simp⟩⟩
 by_cases hbe:b=e
 ·subst hbe;exact heo
 ·grind
theorem Un.mono(u:Un fs ex H H1 h h1)(hs:∀b∈fs,b∈fs')(hx:∀b∈ex,b∈ex'):Un fs' ex' H H1 h h1 :=
 ⟨fun b ob q n hb he=>u.keep b ob q n (fun z=>hb (hs b z)) fun z=>he (hx b z),fun _ _ q n _ he=>u.any q n fun z=>he (hx _ z),fun b ob q n he=>u.free b ob q n fun z=>he (hx b z),fun b ob q he=>u.there b ob q fun z=>he (hx b z),u.tups,u.frzs,u.tbls⟩
end
def trk(h:Heap)(H:Hp):List Addr:=(List.range h.objs.size).filter fun a=>(H a).isSome
def hidT(h:Heap)(H:Hp):Heap:=W.hideAll h (trk h H)
theorem z4m(h:Heap)(H:Hp):(hidT h H).objs.size=h.objs.size:=W.hideAll_size _ _
theorem z7a(e:h.get? b=some o)(n:H b=none):(hidT h H).get? b=some o :=
 W.hideAll_get _ e fun hm=>by
  have q:=(Pa.mp hm).2;rw[n] at q;simp at q
theorem z9w(e:(hidT h H).get? b=some o):h.get? b=some o/\H b=none:=by
 have e':=W.of_hideAll (trk h H) e;refine⟨e',?_⟩;cases q:H b with
 |none=>rfl
 |some x =>
  have hm:b∈trk h H:=Pa.mpr ⟨List.mem_range.mpr (An e'),by simp[q]⟩;have z:(hidT h H).get? b=none:=W.hideAll_none (trk h H) hm;rw[z] at e;cases e
def allNews(g h:Heap)(L:Addr):List (Addr×Obj):=(List.range h.objs.size).filterMap fun a=>if a=L\/(g.get? a).isSome=true then none else(h.get? a).map fun o=>(a,o)
def rest(g h:Heap)(L d:Addr):List (Addr×Obj):=(allNews g h L).filter fun p=>decide (p.1≠d)
open PySem PySem.Spec PyProof.Rows
structure Mod (K:Af) (mg:Str->Option Value) (base:Heap):Prop where
 kin:K.In base
 glob:base.Ns Bt mg
 blt:∃mb,base.Ns builtinsNs mb/\∀x:Str,x ≠ "__name__" -> mb x=Eg x
 nolimit:base.NoLimit
structure Cx where
 prog:Program
 w:World
 K:Af
 mg:Str->Option Value
 base:Heap
 A:Around
 N:List Str
 s₀:Ag
 H₀:Hp
 env:Env
 outer:List Env
 stack:List Env
 ex:List Addr
 fn:Str->Bool
 calm:Bool
 pn:List (Addr×Obj)
 xe:Value->Ag->Prop
def frs(l:List Env):List Addr:=l.filterMap (·.frame)
abbrev Cx.fs(X:Cx):List Addr:=frs X.outer
def Vis(sc:Scope)(x:Str):Prop:=sc.names.lookup x=some .local\/sc.names.lookup x=some .cell\/sc.names.lookup x=some .free
def Loc(sc:Scope)(x:Str):Prop:=sc.names.lookup x=some .local\/sc.names.lookup x=some .cell
def Look(env:Env)(h:Heap)(m:Str->Option Value)(x:Str)(u:Value):Prop :=
 (env.kindOf x=some .local/\m x=some u)\/((env.kindOf x=some .cell\/env.kindOf x=some .free)/\∃c,env.cells.lookup x=some c/\h.IsCell c (some u))
structure Cx.Ok (X:Cx):Prop where
 mod:Mod X.K X.mg X.base
 kind:X.env.scope.kind=.function
 glob:X.env.globals=Bt
 blt:X.env.builtins=builtinsNs
 above:X.s₀.heap.objs.size<=X.env.locals
 inj:∀x y c,X.env.cells.lookup x=some c->X.env.cells.lookup y=some c->x=y
 has:∀x,(X.env.kindOf x=some .cell\/X.env.kindOf x=some .free)->∃c,X.env.cells.lookup x=some c
 cab:∀x c,X.fn x=true->X.env.cells.lookup x=some c->X.s₀.heap.objs.size<=c
 hd:X.calm=true->X.A.handled=none
 frames:X.A.frames=some X.stack
 stk:X.stack=X.outer\/(X.stack=X.env::X.outer/\X.env.frame=some X.env.locals)
 exf:∀b∈X.ex,b≠X.env.locals/\∀x c,X.env.cells.lookup x=some c->c≠b
 bs:∀b o,X.base.get? b=some o->X.s₀.heap.get? b=some o/\X.H₀ b=none
 bsz:X.base.objs.size<=X.s₀.heap.objs.size
 noex:∀b o,X.base.get? b=some o->b∉X.ex
 exfs:∀b∈X.ex,b∉X.fs
 funs:X.s₀.heap.FunFrames X.base X.outer
 frf:∀b∈X.fs,X.H₀ b=none
structure Inv (X:Cx) (pins:List (Addr×Obj)) (σ:List (Option V)) (H:Hp) (s:Ag):Prop where
 ok:X.Ok
 os:s.os=X.s₀.os
 bare:Hl s.gens
 base:Un X.fs X.ex X.H₀ H X.s₀.heap s.heap
 loc:∃m,s.heap.Ns X.env.locals m/\∀(i:Nat) (x:Str) (v:V),X.N[i]?=some x->σ[i]?=some (some v)->Vis X.env.scope x->∃u,RelV v u/\Look X.env s.heap m x u
 cell:∀x c,X.env.cells.lookup x=some c->∃v,s.heap.IsCell c v
 free:H X.env.locals=none
 freeC:∀x c,X.env.cells.lookup x=some c->H c=none
 pin:∀p∈X.pn++pins,s.heap.get? p.1=some p.2/\H p.1=none/\p.1≠X.env.locals/\p.1∉X.fs/\∀v,p.2.data≠.cell v
 hok:HOk X.prog X.w H s.heap
 len:σ.length=X.N.length
section
variable{X:Cx}{pins:List (Addr×Obj)}{σ:List (Option V)}{H H':Hp}{s:Ag}{h':Heap}
theorem Cx.Ok.nofr(ok:X.Ok)(e:X.base.get? b=some o):b∉X.fs:=fun hb=>by
 have:=(ok.funs.mem hb).1;rw[e] at this;cases this
theorem Inv.bs(I:Inv X pins σ H s):∀b o,X.base.get? b=some o->s.heap.get? b=some o/\H b=none:=fun b o e =>
 ⟨I.base.keep b o (I.ok.bs b o e).1 (I.ok.bs b o e).2 (I.ok.nofr e) (I.ok.noex b o e),I.base.free b o (I.ok.bs b o e).1 (I.ok.bs b o e).2 (I.ok.noex b o e)⟩
theorem Inv.bk(I:Inv X pins σ H s):∀b o,X.base.get? b=some o->s.heap.get? b=some o:=fun b o e=>(I.bs b o e).1
theorem Inv.mod(I:Inv X pins σ H s):Mod X.K X.mg X.base:=I.ok.mod
theorem Inv.kIn(I:Inv X pins σ H s):X.K.In s.heap:=I.ok.mod.kin.keeps I.bk
theorem Inv.nolimit(I:Inv X pins σ H s):s.heap.NoLimit:=I.ok.mod.nolimit.keeps I.bk
theorem Inv.fr(I:Inv X pins σ H s):∃m,Fr X.base X.env.locals s.heap m :=
 let ⟨m,hn,_⟩:=I.loc
 ⟨m,hn,I.bk,Aw I.ok.bsz I.ok.above⟩
theorem Inv.lt(I:Inv X pins σ H s):X.env.locals<s.heap.objs.size:=let ⟨_,hn,_⟩:=I.loc;hn.lt
theorem Inv.sz(I:Inv X pins σ H s):X.s₀.heap.objs.size<=s.heap.objs.size:=Aw I.ok.above (Ni I.lt)
theorem Inv.nofs(I:Inv X pins σ H s){a:Addr}(h:s.heap.objs.size<=a):a∉X.fs:=fun hb=>by
 obtain⟨_,o,ho,_⟩:=I.ok.funs.mem hb;exact absurd (Bb (An ho) (Aw I.sz h)) (Fb _)
theorem Inv.cne(I:Inv X pins σ H s):∀x c,X.env.cells.lookup x=some c->c≠X.env.locals:=fun x c e z=>by
 obtain⟨v,o,ho,hd⟩:=I.cell x c e;obtain⟨m,⟨o',es,ep,ho',hd',_⟩,_⟩:=I.loc;rw[z,ho'] at ho;cases ho;rw[hd'] at hd;cases hd
theorem Inv.funs(I:Inv X pins σ H s):s.heap.FunFrames X.base X.outer:=by
 have all:∀(l:List Env),(∀b∈frs l,b∈X.fs)->X.s₀.heap.FunFrames X.base l->s.heap.FunFrames X.base l:=by
  intro l;induction l with
  |nil=>intro _ _;trivial
  |cons env r ih =>
   intro hs hl;obtain⟨hk,⟨L,o,hf,hn,ho,hd⟩,hr⟩:=hl;have hL:=hs L (by unfold frs;rw[Jf,hf];exact Bo);obtain⟨sl,e⟩:=I.base.slot L o ho (I.ok.frf L hL) hL fun z=>I.ok.exfs L z hL;exact⟨hk,⟨L,_,hf,hn,e,hd⟩,ih (fun b hb=>hs b (by unfold frs;rw[Jf,hf];exact Av _ hb)) hr⟩
 exact all X.outer (fun _ hb=>hb) I.ok.funs
theorem Inv.stack(I:Inv X pins σ H s):s.heap.FunFrames X.base X.stack:=by
 rcases I.ok.stk with e|⟨e,hf⟩
 ·rw[e];exact I.funs
 ·rw[e];obtain⟨m,hn,_⟩:=I.loc;refine .cons (by rw[I.ok.kind];decide) hf hn ?_ I.funs;exact Fi (Aw I.ok.bsz I.ok.above)
theorem Inv.stkSub(I:Inv X pins σ H s):∀b∈frs X.stack,b∈X.env.locals::X.fs:=fun b hb=>by
 rcases I.ok.stk with e|⟨e,hf⟩
 ·grind
 ·rw[e] at hb;unfold frs at hb;rw[Jf,hf] at hb;exact hb
theorem Inv.stkFree(I:Inv X pins σ H s):∀b∈frs X.stack,H b=none:=fun b hb=>by
 rcases Bd.mp (I.stkSub b hb) with e|hb
 ·rw[e];exact I.free
 ·obtain⟨_,o,ho,_⟩:=I.ok.funs.mem hb;exact I.base.free b o ho (I.ok.frf b hb) fun z=>I.ok.exfs b z hb
theorem Inv.step{ch:List Addr}(I:Inv X pins σ H s)(hch:∀b∈ch,(b∈X.ex\/X.s₀.heap.objs.size<=b)/\b≠X.env.locals/\(∀x c,X.env.cells.lookup x=some c->c≠b)/\∀p∈X.pn++pins,p.1≠b)(keep:∀b o,b≠X.env.locals->b∉X.fs->b∉ch->s.heap.get? b=some o->H b=none->h'.get? b=some o)(slot:∀b o,b≠X.env.locals->b∈X.fs->b∉ch->s.heap.get? b=some o->H b=none->∃sl,h'.get? b=some { o with slots:=sl })(free:∀b o,b∉ch->s.heap.get? b=some o->H b=none->H' b=none)(there:∀b o,b∉ch->s.heap.get? b=some o->∃o',h'.get? b=some o')(tups:∀b xs,H b=some (.tup xs)->H' b=some (.tup xs))(frzs:∀b o u,H b=some (.frz o u)->H' b=some (.frz o u))(tbls:∀b ps,H b=some (.tbl ps)->∃more,H' b=some (.tbl (ps++more)))(ns:∀m,s.heap.Ns X.env.locals m->h'.Ns X.env.locals m)(hok:HOk X.prog X.w H' h')(hg:Hl g'):
  Inv X pins σ H' { s with heap:=h',gens:=g',drawn:=d',toks:=t' }:=by
 have neL:∀b o,X.s₀.heap.get? b=some o->b≠X.env.locals:=fun b o e=>By (Bb (An e) I.ok.above);have neC:∀b o,X.s₀.heap.get? b=some o->b∉X.ex->b∉ch:=fun b o e hx hb=>by
  rcases(hch b hb).1 with z|z
  ·exact hx z
  ·exact absurd (Bb (An e) z) (Fb _)
 have cellK:∀x c,X.env.cells.lookup x=some c->∀v,s.heap.IsCell c v->h'.IsCell c v:=fun x c e v ⟨o,ho,hd⟩=>by
  have nch:=fun z=>(hch c z).2.2.1 x c e rfl;by_cases hc:c∈X.fs
  ·obtain⟨sl,q⟩:=slot c o (I.cne x c e) hc nch ho (I.freeC x c e);exact⟨_,q,hd⟩
  ·exact⟨o,keep c o (I.cne x c e) hc nch ho (I.freeC x c e),hd⟩
 refine⟨I.ok,I.os,hg,⟨fun b o e n hb hx=>?_,fun b o e n hb hx=>?_,fun b o e n hx=>?_,fun b o e hx=>?_,fun b xs e=>tups b xs (I.base.tups b xs e),fun b o xs e=>frzs b o xs (I.base.frzs b o xs e),fun b ps e=>?_⟩,?_,fun x c e=>?_,?_,fun x c e=>?_,fun p hp=>?_,hok,I.len⟩
 ·exact keep b o (neL b o e) hb (neC b o e hx) (I.base.keep b o e n hb hx) (I.base.free b o e n hx)
 ·obtain⟨sl,e1⟩:=I.base.slot b o e n hb hx;obtain⟨sl',e2⟩:=slot b _ (neL b o e) hb (neC b o e hx) e1 (I.base.free b o e n hx);exact⟨sl',e2⟩
 ·obtain⟨o',e1⟩:=I.base.there b o e hx;exact free b o' (neC b o e hx) e1 (I.base.free b o e n hx)
 ·obtain⟨o',e1⟩:=I.base.there b o e hx;exact there b o' (neC b o e hx) e1
 ·obtain⟨m1,e1⟩:=I.base.tbls b ps e;obtain⟨m2,e2⟩:=tbls b _ e1;exact⟨m1++m2,by rw[e2,Nh]⟩
 ·obtain⟨m,hn,hl⟩:=I.loc;refine⟨m,ns m hn,fun i x v e1 e2 e3=>?_⟩;obtain⟨u,r,l⟩:=hl i x v e1 e2 e3;refine⟨u,r,?_⟩;rcases l with l|⟨k,c,e,z⟩
  ·exact .inl l
  ·exact .inr ⟨k,c,e,cellK x c e _ z⟩
 ·obtain⟨v,z⟩:=I.cell x c e;exact⟨v,cellK x c e v z⟩
 ·obtain⟨m,⟨o,_,_,ho,_⟩,_⟩:=I.loc;exact free _ o (fun z=>(hch _ z).2.1 rfl) ho I.free
 ·obtain⟨v,o,ho,hd⟩:=I.cell x c e;exact free c o (fun z=>(hch c z).2.2.1 x c e rfl) ho (I.freeC x c e)
 ·obtain⟨e,n,ne,nf,d⟩:=I.pin p hp;have nch:=fun z=>(hch p.1 z).2.2.2 p hp rfl
  exact⟨keep p.1 p.2 ne nf nch e n,free p.1 p.2 nch e n,ne,nf,d⟩
theorem Inv.un(I:Inv X pins σ H s)(u:Un X.fs [] H H' s.heap h')(hok:HOk X.prog X.w H' h'):Inv X pins σ H' { s with heap:=h',toks:=t' }:=by
 obtain⟨m,⟨o,es,ep,ho,r⟩,_⟩:=id I.loc;obtain⟨sl,hL⟩:=u.any ho I.free (by simp);exact I.step (g':=s.gens) (d':=s.drawn) (ch:=[]) (fun _ z=>nomatch z) (fun b o _ hb _ e n=>u.keep b o e n hb (by simp)) (fun b o _ hb _ e n=>u.slot b o e n hb (by simp)) (fun b o _ e n=>u.free b o e n (by simp)) (fun b o _ e=>u.there b o e (by simp)) u.tups u.frzs u.tbls (fun m' hm=>by
  obtain⟨o',es',ep',ho',r'⟩:=hm;rw[ho] at ho';cases ho';exact⟨_,es',ep',hL,r'⟩) hok I.bare
theorem Inv.call(I:Inv X pins σ H s)(u:Un (frs X.stack) ch H H' s.heap h')(hok:HOk X.prog X.w H' h')(hg:Hl g')(hch:∀b∈ch,(b∈X.ex\/X.s₀.heap.objs.size<=b)/\b≠X.env.locals/\(∀x c,X.env.cells.lookup x=some c->c≠b)/\∀p∈X.pn++pins,p.1≠b):
  Inv X pins σ H' { s with heap:=h',gens:=g',drawn:=d',toks:=t' }:=by
 obtain⟨m,⟨o,es,ep,ho,r⟩,_⟩:=id I.loc;obtain⟨sl,hL⟩:=u.any ho I.free fun z=>(hch _ z).2.1 rfl
 exact I.step hch (fun b o hL hb hc e n=>u.keep b o e n (fun z=>(Bd.mp (I.stkSub b z)).elim hL hb) hc) (fun b o _ _ hc e n=>u.any e n hc) (fun b o hc e n=>u.free b o e n hc) (fun b o hc e=>u.there b o e hc) u.tups u.frzs u.tbls (fun m' hm=>by
  obtain⟨o',es',ep',ho',r'⟩:=hm;rw[ho] at ho';cases ho';exact⟨_,es',ep',hL,r'⟩) hok hg
theorem Inv.turned(I:Inv X pins σ H s)(k:∀b o,b≠it->s.heap.get? b=some o->h'.get? b=some o)(hn:H it=none)(hL:it≠X.env.locals)(h1:it∈X.ex\/X.s₀.heap.objs.size<=it)(h2:∀x c,X.env.cells.lookup x=some c->c≠it)(h3:∀p∈X.pn++pins,p.1≠it):Inv X pins σ H { s with heap:=h',toks:=t' }:=by
 have nit:∀b u,H b=some u->b≠it:=fun b u e z=>by rw[z,hn] at e;cases e
 refine I.step (g':=s.gens) (d':=s.drawn) (ch:=[it]) (fun b hb=>?_) (fun b o _ _ hc e _=>k b o (fun z=>hc (by simp[z])) e) (fun b o _ _ hc e _=>⟨o.slots,k b o (fun z=>hc (by simp[z])) e⟩) (fun _ _ _ _ n=>n)
  (fun b o hc e=>⟨o,k b o (fun z=>hc (by simp[z])) e⟩) (fun _ _ e=>e) (fun _ _ _ e=>e) (fun b ps e=>⟨#[],by rw[e];simp⟩) (fun m hm=>?_) (fun b u e=>?_) I.bare
 ·have e:b=it:=by simpa using hb
  subst e;exact⟨h1,hL,h2,h3⟩
 ·obtain⟨o,es,ep,ho,r⟩:=hm;exact⟨o,es,ep,k _ o (Cu hL) ho,r⟩
 ·refine(I.hok b u e).stay (fun c v hc q=>k c v ?_ q) (fun _ q=>q) fun _ _ q=>q;rcases hc with z|z
  ·rw[z];exact nit b u e
  ·exact nit c _ z
theorem Inv.tok(I:Inv X pins σ H s)(t:Nat):Inv X pins σ H { s with toks:=t }:=I.un (h':=s.heap) (t':=t) Un.refl I.hok
theorem Inv.kept(I:Inv X pins σ H s)(k:∀b u,s.heap.get? b=some u->h'.get? b=some u):Inv X pins σ H { s with heap:=h',toks:=t' }:=I.un (Un.kept k) (I.hok.kept k)
theorem Inv.laid{a:Addr}(I:Inv X pins σ H s)(k:∀b u,s.heap.get? b=some u->h'.get? b=some u)(hp:s.heap.objs.size<=a)(new:ObjOk X.prog X.w (upd H a o) h' a o):
  Inv X pins σ (upd H a o) { s with heap:=h',toks:=t' }:=I.un (Un.laid k hp (I.hok.fresh hp)) (I.hok.laid k hp new)
theorem Inv.write(I:Inv X pins σ H s)(mu:Mut (H x))(he:e=x\/H e=some (.own x))(k:∀b u,b≠e->s.heap.get? b=some u->h'.get? b=some u)(heo:∃u,h'.get? e=some u)(new:ObjOk X.prog X.w (upd H x o) h' x o):Inv X pins σ (upd H x o) { s with heap:=h',toks:=t' }:=I.un (Un.write mu he k heo) (I.hok.write mu he k heo new)
theorem Inv.weak(I:Inv X pins σ H s)(hl:σ'.length=σ.length)(w:∀(i:Nat) v,σ'[i]?=some (some v)->σ[i]?=some (some v)):Inv X pins σ' H s :=
 ⟨I.ok,I.os,I.bare,I.base,let ⟨m,hn,hl'⟩:=I.loc;⟨m,hn,fun i x v e1 e2 e3=>hl' i x v e1 (w i v e2) e3⟩,I.cell,I.free,I.freeC,I.pin,I.hok,hl.trans I.len⟩
theorem Inv.pins_of(I:Inv X pins σ H s)(h:∀p∈pins',s.heap.get? p.1=some p.2/\H p.1=none/\p.1≠X.env.locals/\p.1∉X.fs/\∀v,p.2.data≠.cell v):Inv X pins' σ H s :=
 ⟨I.ok,I.os,I.bare,I.base,I.loc,I.cell,I.free,I.freeC,fun p hp=>(Bh.mp hp).elim (fun z=>I.pin p (Dh _ z)) (h p),I.hok,I.len⟩
theorem q7w{N:List Str}(hN:N.Nodup){j:Nat}(a:N[i]?=some x)(b:N[j]?=some x):i=j:=by
 obtain⟨h1,e1⟩:=Ak.mp a;obtain⟨h2,e2⟩:=Ak.mp b;exact(List.getElem_inj hN).mp (e1.trans e2.symm)
theorem q9l(I:Inv X pins σ H s)(hN:X.N.Nodup)(hi:X.N[i]?=some x)(hx:Loc X.env.scope x)(r:RelV v u)(h:∀s',Inv X pins (σ.set i (some v)) H s'->(∃a,Gh a s.heap s'.heap/\(a=X.env.locals\/X.env.cells.lookup x=some a))->Q () s')(hf:X.fn x=true\/X.env.scope.names.lookup x=some .local:=by first|exact .inl rfl|exact .inr rfl|assumption):wpAny M A (storeName X.env x u) Q E s:=by
 obtain⟨m,hn,hl⟩:=id I.loc;have hcls:(X.env.scope.kind==.class||(X.env.scope.kind==.module&&X.env.locals != X.env.globals))=false:=by rw[I.ok.kind];rfl
 have hiσ:i<σ.length:=by rw[I.len];exact(Ak.mp hi).1
 have cne:=I.cne;have tracked:∀{a:Addr} {h':Heap},(∃o,s.heap.get? a=some o/\H a=none)->Gh a s.heap h'->HOk X.prog X.w H h':=fun{a h'} ha hs b ob e=>by
  obtain⟨_,_,hfree⟩:=ha;refine(I.hok b ob e).stay (fun c w' hc q=>(hs.2 c ?_).trans q) (fun _ q=>q) fun _ _ q=>q
  rcases hc with rfl|hc
  ·grind
  ·grind
 rcases hx with hk|hk
 ·refine wpAny_storeName_local hk hn (fun h' hn' hs=>?_) hcls;obtain⟨oL,_,_,hoL,_⟩:=id hn;refine h _ ⟨I.ok,I.os,I.bare,⟨fun b o e n hb hx=>?_,fun b o e n hb hx=>?_,I.base.free,fun b o e hx=>?_,I.base.tups,I.base.frzs,I.base.tbls⟩,⟨_,hn',fun j y v' e1 e2 e3=>?_⟩,fun y c e=>?_,I.free,I.freeC,fun p hp=>?_,tracked ⟨oL,hoL,I.free⟩ hs,by simpa using I.len⟩ ⟨_,hs,.inl rfl⟩
  ·exact(hs.2 b (By (Bb (An e) I.ok.above))).trans (I.base.keep b o e n hb hx)
  ·obtain⟨sl,e1⟩:=I.base.slot b o e n hb hx;exact⟨sl,(hs.2 b (By (Bb (An e) I.ok.above))).trans e1⟩
  ·obtain⟨o',e1⟩:=I.base.there b o e hx;exact⟨o',(hs.2 b (By (Bb (An e) I.ok.above))).trans e1⟩
  ·by_cases hj:j=i
   ·subst hj;rw[hi] at e1;cases e1;rw[Lm hiσ] at e2;cases e2;exact⟨u,r,.inl ⟨hk,by simp⟩⟩
   ·rw[Ik (Cu hj)] at e2;obtain⟨u',r',q⟩:=hl j y v' e1 e2 e3;refine⟨u',r',?_⟩;rcases q with⟨k,e⟩|⟨k,c,e,z⟩
    ·refine .inl ⟨k,?_⟩;have:y≠x:=fun e=>hj (q7w hN e1 (e▸hi));simp[this,e]
    ·exact .inr ⟨k,c,e,z.sameBut hs (cne y c e)⟩
  ·obtain⟨w',z⟩:=I.cell y c e;exact⟨w',z.sameBut hs (cne y c e)⟩
  ·obtain⟨e,n,ne,nf,d⟩:=I.pin p hp;exact⟨(hs.2 p.1 ne).trans e,n,ne,nf,d⟩
 ·have hfn:X.fn x=true:=by
   rcases hf with z|z
   ·exact z
   ·grind
  obtain⟨c,hc⟩:=I.ok.has x (.inl hk);obtain⟨w',z⟩:=I.cell x c hc;refine wpAny_storeName_cell I.ok.kind hk hc z (fun h' hc' hs=>?_);obtain⟨oc,hoc,hocd⟩:=id z;refine h { s with heap:=h' } ⟨I.ok,I.os,I.bare,⟨fun b o e n hb hx=>?_,fun b o e n hb hx=>?_,I.base.free,fun b o e hx=>?_,I.base.tups,I.base.frzs,I.base.tbls⟩,⟨m,hn.sameBut hs (Cu (cne x c hc)),fun j y v' e1 e2 e3=>?_⟩,fun y c' e=>?_,I.free,I.freeC,fun p hp=>?_,tracked ⟨oc,hoc,I.freeC x c hc⟩ hs,by simpa using I.len⟩ ⟨c,hs,.inr hc⟩
  ·exact(hs.2 b (By (Bb (An e) (I.ok.cab x c hfn hc)))).trans (I.base.keep b o e n hb hx)
  ·obtain⟨sl,e1⟩:=I.base.slot b o e n hb hx;exact⟨sl,(hs.2 b (By (Bb (An e) (I.ok.cab x c hfn hc)))).trans e1⟩
  ·obtain⟨o',e1⟩:=I.base.there b o e hx;exact⟨o',(hs.2 b (By (Bb (An e) (I.ok.cab x c hfn hc)))).trans e1⟩
  ·by_cases hj:j=i
   ·subst hj;rw[hi] at e1;cases e1;rw[Lm hiσ] at e2;cases e2;exact⟨u,r,.inr ⟨.inl hk,c,hc,hc'⟩⟩
   ·rw[Ik (Cu hj)] at e2;obtain⟨u',r',q⟩:=hl j y v' e1 e2 e3;refine⟨u',r',?_⟩;rcases q with q|⟨k,c',e,z'⟩
    ·exact .inl q
    ·refine .inr ⟨k,c',e,z'.sameBut hs ?_⟩;rintro rfl;exact hj (q7w hN e1 (I.ok.inj _ _ _ e hc▸hi))
  ·by_cases hcc:c'=c
   ·grind
   ·obtain⟨w2,z2⟩:=I.cell y c' e;exact⟨w2,z2.sameBut hs hcc⟩
  ·obtain⟨e,n,ne,nf,d⟩:=I.pin p hp;refine⟨(hs.2 p.1 ?_).trans e,n,ne,nf,d⟩;intro q;rw[q,hoc] at e;have q':=Cf e;exact d w' (by rw[<- q'];exact hocd)
theorem q5t(I:Inv X pins σ H s)(hN:X.N.Nodup)(hi:X.N[i]?=some x)(hx:Loc X.env.scope x)(r:RelV v u)(h:∀s',Inv X pins (σ.set i (some v)) H s'->Q () s')(hf:X.fn x=true\/X.env.scope.names.lookup x=some .local:=by first|exact .inl rfl|exact .inr rfl|assumption):wpAny M A (storeName X.env x u) Q E s :=
 q9l I hN hi hx r (fun s' I' _=>h s' I') hf
theorem Inv.call'(I:Inv X pins σ H s)(ho:s'.os=s.os)(u:Un (frs X.stack) ch H H' s.heap s'.heap)(hok:HOk X.prog X.w H' s'.heap)(hg:Hl s'.gens)(hch:∀b∈ch,(b∈X.ex\/X.s₀.heap.objs.size<=b)/\b≠X.env.locals/\(∀x c,X.env.cells.lookup x=some c->c≠b)/\∀p∈X.pn++pins,p.1≠b):Inv X pins σ H' s':=by
 obtain⟨h',g',d',t',o'⟩:=s';have e:=ho;subst e;exact I.call (g':=g') (t':=t') (d':=d') u hok hg hch
end
abbrev XK:=Value->Option Addr->Hp->Prop
abbrev St:=List (Option V)
abbrev VK:=V->Hp->Prop
abbrev TE:=St->Hp->VK->Prop
abbrev TT:=St->Hp->(Bool->Hp->Prop)->Prop
abbrev TA:=St->Hp->(List V->Hp->Prop)->Prop
structure Ends where
 nx:St->Hp->Prop
 rt:VK
 bk:St->Hp->Prop:=fun _ _=>False
 ct:St->Hp->Prop:=fun _ _=>False
abbrev TS:=Ends->St->Hp->Prop
def EP(X:Cx)(pins:List (Addr×Obj))(σ:St)(Q:VK)(u:Value)(s':Ag):Prop:=∃v H',Inv X pins σ H' s'/\RelV v u/\Q v H'
def TP(X:Cx)(pins:List (Addr×Obj))(σ:St)(Q:Bool->Hp->Prop)(b:Bool)(s':Ag):Prop:=∃H',Inv X pins σ H' s'/\Q b H'
def AP(X:Cx)(pins:List (Addr×Obj))(σ:St)(Q:List V->Hp->Prop)(us:List Value)(s':Ag):Prop:=∃vs H',Inv X pins σ H' s'/\Vals vs us/\Q vs H'
def SP(X:Cx)(pins:List (Addr×Obj))(D:Ends)(f:Flow)(s':Ag):Prop :=
 match f with
 |.next=>∃σ' H',Inv X pins σ' H' s'/\D.nx σ' H'
 |.brk=>∃σ' H',Inv X pins σ' H' s'/\D.bk σ' H'
 |.cont=>∃σ' H',Inv X pins σ' H' s'/\D.ct σ' H'
 |.ret u=>∃v σ' H',Inv X pins σ' H' s'/\RelV v u/\D.rt v H'
def PE(X:Cx)(e:Expr)(t:TE):Prop :=
 ∀(pins:List (Addr×Obj)) (s:Ag) (σ:St) (H:Hp) (Q:VK),Inv X pins σ H s->t σ H Q->wpAny (model X.prog X.w) X.A (eval e X.env) (EP X pins σ Q) X.xe s
def PT(X:Cx)(e:Expr)(t:TT):Prop :=
 ∀(pins:List (Addr×Obj)) (s:Ag) (σ:St) (H:Hp) (Q:Bool->Hp->Prop),Inv X pins σ H s->t σ H Q->wpAny (model X.prog X.w) X.A (isTrue e X.env (eval e X.env)) (TP X pins σ Q) X.xe s
def PW(X:Cx)(e:Expr)(t:TT):Prop :=
 ∀(whole:Sem Value) (pins:List (Addr×Obj)) (s:Ag) (σ:St) (H:Hp) (Q:Bool->Hp->Prop),Inv X pins σ H s->t σ H Q->wpAny (model X.prog X.w) X.A (isTrue e X.env whole) (TP X pins σ Q) X.xe s
theorem PW.pt{X:Cx}{e:Expr}{t:TT}(h:PW X e t):PT X e t:=h _
def PA(X:Cx)(es:List Expr)(t:TA):Prop :=
 ∀(pos:Pos) (pins:List (Addr×Obj)) (s:Ag) (σ:St) (H:Hp) (Q:List V->Hp->Prop),Inv X pins σ H s->t σ H Q->wpAny (model X.prog X.w) X.A (spliced (Fp pos (Ay es X.env))) (AP X pins σ Q) X.xe s
def PS(X:Cx)(st:Stmt)(t:TS):Prop :=
 ∀(pins:List (Addr×Obj)) (s:Ag) (σ:St) (H:Hp) (D:Ends),Inv X pins σ H s->t D σ H->wpAny (model X.prog X.w) X.A (exec st X.env) (SP X pins D) X.xe s
def PSs(X:Cx)(st:List Stmt)(t:TS):Prop :=
 ∀(pins:List (Addr×Obj)) (s:Ag) (σ:St) (H:Hp) (D:Ends),Inv X pins σ H s->t D σ H->wpAny (model X.prog X.w) X.A (execs st X.env) (SP X pins D) X.xe s
theorem thn{t:Sem α}{Q Q':α->Ag->Prop}(h:wpAny M A t Q E s)(hQ:∀a s,Q a s->Q' a s):wpAny M A t Q' E s:=Cc h hQ fun _ _ x=>x
open PySem PySem.Spec PyProof.Rows
section
variable{X:Cx}
def tVar(i:Nat):TE:=fun σ H Q=>∃v,σ[i]?=some (some v)/\Q v H
def tC(v:V):TE:=fun _ H Q=>Q v H
theorem pe_var{pos:Pos}(hN:X.N[i]?=some x)(hv:Vis X.env.scope x)(hd:(x==("__debug__" : Str))=false:=by decide)(hcd:(x==("__classdict__" : Str))=false:=by decide):PE X (.Name x pos) (tVar i):=by
 intro pins s σ H Q I h;obtain⟨v,e,h⟩:=h;obtain⟨m,hn,hl⟩:=I.loc;obtain⟨u,r,l⟩:=hl i x v hN e hv;have fin:EP X pins σ Q u s:=⟨v,H,I,r,h⟩
 rcases l with⟨hk,hm⟩|⟨hk,c,hc,hcell⟩
 ·exact Pb (Mn I.ok.kind hk hn hm fin) hd
 ·rcases hk with hk|hk
  ·exact Pb (Nb I.ok.kind hk hc hcell fin) hd
  ·exact Pb (wpAny_loadName_free I.ok.kind hk hc hcell fin hcd) hd
theorem q0f{i j pos}:PE X (.Constant (.int i) j pos) (tC (.int i)):=fun _ _ _ H _ I h=>wpAny_Constant_int ⟨.int i,H,I.tok _,⟨_,rfl⟩,h⟩
theorem q2s{b j pos}:PE X (.Constant (.bool b) j pos) (tC (.bl b)):=fun _ _ _ H _ I h=>Constant_bool ⟨.bl b,H,I,rfl,h⟩
theorem z4n{j pos}:PE X (.Constant .none j pos) (tC .non):=fun _ _ _ H _ I h=>Constant_none ⟨.non,H,I,rfl,h⟩
theorem q0g{x j pos}:PE X (.Constant (.str x) j pos) (tC (.str x)):=fun _ _ _ H _ I h=>Calls.Constant_str ⟨.str x,H,I.tok _,⟨_,rfl⟩,h⟩
def Gl(X:Cx)(x:Str):Prop:=X.env.kindOf x=some .globalImplicit
theorem q2v{σ:St}(I:Inv X pins σ H s)(hg:Gl X x)(hm:X.mg x=some u)(h:Q u s)(hd:(x==("__debug__" : Str))=false:=by decide):wpAny (model X.prog X.w) X.A (eval (.Name x pos) X.env) Q E s :=
 Jw I.ok.kind hg (Calls.loadGlobal_global (by rw[I.ok.glob];exact I.mod.glob.keeps I.bk) hm h) hd
theorem q4c{E:Value->Ag->Prop}{σ:St}{pos:Pos}(I:Inv X pins σ H s)(hg:Gl X x)(hm:X.mg x=none)(hv:Eg x=some u)(h:Q u s)(hn:x ≠ "__name__" := by decide)(hd:(x==("__debug__" : Str))=false:=by decide):wpAny (model X.prog X.w) X.A (eval (.Name x pos) X.env) Q E s:=by
 obtain⟨mb,h1,h2⟩:=I.mod.blt;exact Jw I.ok.kind hg (Calls.loadGlobal_builtin (by rw[I.ok.glob];exact I.mod.glob.keeps I.bk) hm (by rw[I.ok.blt];exact h1.keeps I.bk) ((h2 x hn).trans hv) h) hd
theorem q0t{x:Str}{v:V}{u:Value}{pos:Pos}(hg:Gl X x)(hm:X.mg x=some u)(r:RelV v u)(hd:(x==("__debug__" : Str))=false:=by decide):PE X (.Name x pos) (tC v) :=
 fun _ _ _ H _ I h=>q2v I hg hm ⟨v,H,I,r,h⟩ hd
theorem z1b{x:Str}{v:V}{u:Value}{pos:Pos}(hg:Gl X x)(hm:X.mg x=none)(hv:Eg x=some u)(r:RelV v u)(hn:x ≠ "__name__" := by decide)(hd:(x==("__debug__" : Str))=false:=by decide):PE X (.Name x pos) (tC v) :=
 fun _ _ _ H _ I h=>q4c I hg hm hv ⟨v,H,I,r,h⟩ hn hd
variable{a b:Expr}{ta tb:TE}{pos:Pos}
def PC(X:Cx)(op:CmpOp)(a b:Expr)(t:TE):Prop :=
 ∀(pins:List (Addr×Obj)) (s:Ag) (σ:St) (H:Hp) (Q:VK),Inv X pins σ H s->t σ H Q ->
  wpAny (model X.prog X.w) X.A (eval a X.env) (fun v s₁=>wpAny (model X.prog X.w) X.A (eval b X.env) (fun u s₂=>wpAny (model X.prog X.w) X.A (Cd op v u) (EP X pins σ Q) X.xe s₂) X.xe s₁) X.xe s
theorem nobehind(b:Expr)(h:op≠.In)(h2:op≠.NotIn):Fx op b=false:=by
 have e1:(op==CmpOp.In)=false:=by grind
 have e2:(op==CmpOp.NotIn)=false:=by grind
 cases b<;>simp[Fx,e1,e2]
def tIsN(ta:TE):TE:=fun σ H Q=>ta σ H fun x H1=>Q (.bl (decide (x=.non))) H1
theorem RelV.none_iff(r:RelV x v):(v==Value.none)=decide (x=.non):=by
 cases x with
 |non=>cases r;rfl
 |bl _=>cases r;rfl
 |int _=>obtain⟨t,rfl⟩:=r;rfl
 |str _=>obtain⟨t,rfl⟩:=r;rfl
 |byt _=>obtain⟨t,rfl⟩:=r;rfl
 |flt _=>obtain⟨t,rfl⟩:=r;rfl
 |ref _=>cases r;rfl
 |ty _=>cases r;rfl
theorem z8r{j pos'}(ha:PE X a ta):PC X .Is a (.Constant .none j pos') (tIsN ta):=by
 intro pins s σ H Q I h;refine thn (ha pins s σ H _ I h) fun v s1 ⟨x,H1,I1,r1,q1⟩=>?_;exact Constant_none (is_none_gen ⟨.bl _,H1,I1,by rw[r1.none_iff];rfl,q1⟩)
def tB(t:TE):TT:=fun σ H Q=>t σ H fun x H1=>∃c,x=.bl c/\Q c H1
theorem q9m{op:CmpOp}{t:TE}(h:PC X op a b t)(h1:Fx op b=false:=by first|exact nobehind _ (by decide) (by decide)|rfl):PT X (.Compare a [op] [b] pos) (tB t):=by
 intro pins s σ H Q I hw;refine Lv (thn (h pins s σ H _ I hw) fun v s1 h1=>thn h1 fun u s2 h2=>thn h2 fun c s3 ⟨x,H1,I1,r1,q1⟩=>?_) h1;obtain⟨d,rfl,q⟩:=q1;cases r1;exact Gg ⟨H1,I1,q⟩
variable{tA tB':TT}{rest:List Expr}
def tAnd(t u:TT):TT:=fun σ H Q=>t σ H fun c H1=>if c=true then u σ H1 Q else Q false H1
def tOr(t u:TT):TT:=fun σ H Q=>t σ H fun c H1=>if c=true then Q true H1 else u σ H1 Q
def tNot(t:TT):TT:=fun σ H Q=>t σ H fun c H1=>Q (!c) H1
theorem q1l(ha:PT X a tA):PW X (.BoolOp .And [a] pos) tA:=by
 intro wh pins s σ H Q I h;refine isTrue_and (thn (ha pins s σ H Q I h) fun c s1 e=>?_);cases c with
 |true=>exact isTrue_and_nil e
 |false=>exact e
theorem q3e(ha:PT X a tA):PW X (.BoolOp .Or [a] pos) tA:=by
 intro wh pins s σ H Q I h;refine isTrue_or (thn (ha pins s σ H Q I h) fun c s1 e=>?_);cases c with
 |false=>exact isTrue_or_nil e
 |true=>exact e
theorem q1p(ha:PT X a tA)(hb:PW X (.BoolOp .And (b::rest) pos) tB'):PW X (.BoolOp .And (a::b::rest) pos) (tAnd tA tB'):=by
 intro wh pins s σ H Q I h;refine isTrue_and (thn (ha pins s σ H _ I h) fun c s1 ⟨H1,I1,q1⟩=>?_);cases c with
 |true=>exact hb wh pins s1 σ H1 Q I1 q1
 |false=>exact⟨H1,I1,q1⟩
theorem q4d(ha:PT X a tA)(hb:PW X (.BoolOp .Or (b::rest) pos) tB'):PW X (.BoolOp .Or (a::b::rest) pos) (tOr tA tB'):=by
 intro wh pins s σ H Q I h;refine isTrue_or (thn (ha pins s σ H _ I h) fun c s1 ⟨H1,I1,q1⟩=>?_);cases c with
 |true=>exact⟨H1,I1,q1⟩
 |false=>exact hb wh pins s1 σ H1 Q I1 q1
theorem z8s(ha:PT X a tA):PT X (.UnaryOp .Not a pos) (tNot tA):=by
 intro pins s σ H Q I h;exact isTrue_not (ha pins s σ H (fun c H1=>Q (!c) H1) I h)
def tAndV(ta tb:TE):TE:=fun σ H Q=>ta σ H fun x H1=>∃c,x=.bl c/\if c=true then tb σ H1 Q else Q (.bl false) H1
theorem z2f{op}{t:TE}(h:PE X a t):PE X (.BoolOp op [a] pos) t:=fun pins s σ H Q I hw=>BoolOp_one (h pins s σ H Q I hw)
theorem z2g(ha:PE X a ta)(hb:PE X (.BoolOp .And (b::rest) pos) tb):PE X (.BoolOp .And (a::b::rest) pos) (tAndV ta tb):=by
 intro pins s σ H Q I h;refine BoolOp_and (thn (ha pins s σ H _ I h) fun v s1 ⟨x,H1,I1,r1,q1⟩=>?_);obtain⟨c,rfl,q1⟩:=q1;cases r1;refine Gg ?_;cases c with
 |true=>exact hb pins s1 σ H1 Q I1 q1
 |false=>exact⟨.bl false,H1,I1,rfl,q1⟩
def tIf(t:TT)(ta tb:TE):TE:=fun σ H Q=>t σ H fun c H1=>if c=true then ta σ H1 Q else tb σ H1 Q
theorem z2h{c:Expr}(hc:PT X c tA)(ha:PE X a ta)(hb:PE X b tb):PE X (.IfExp c a b pos) (tIf tA ta tb):=by
 intro pins s σ H Q I h;refine wpAny_IfExp (thn (hc pins s σ H _ I h) fun d s1 ⟨H1,I1,q1⟩=>?_);cases d with
 |true=>exact ha pins s1 σ H1 Q I1 q1
 |false=>exact hb pins s1 σ H1 Q I1 q1
end
open PySem PySem.Spec PyProof.Rows
def SqL(K:Af)(H:Hp)(a:Addr)(xs:List V):Prop :=
 Rd H a (.lst xs) \/
  ∃(o:Obj) (its:Array Value) (n:Nat),K.lookup a=some o/\o.cls=.type "list" /\ o.dict=none/\o.data=.seq its n/\its.size<=sizeLine/\Vals xs its.toList
def SqT(K:Af)(H:Hp)(a:Addr)(xs:List V):Prop :=
 Rd H a (.tup xs) \/
  ∃(o:Obj) (its:Array Value) (n:Nat),K.lookup a=some o/\o.cls=.type "tuple" /\ o.data=.seq its n/\its.size<=sizeLine/\Vals xs its.toList
def absV:Value->Option V
 |.none=>some .non
 |.bool b=>some (.bl b)
 |.int i _=>some (.int i)
 |.str x _=>some (.str x)
 |.bytes b _=>some (.byt b)
 |.float b _=>some (.flt b)
 |.ref a=>some (.ref a)
 |.type n=>some (.ty n)
 |_=>none
theorem RelV.abs(r:RelV x u):absV u=some x:=by
 cases x with
 |non=>cases r;rfl
 |bl _=>cases r;rfl
 |int _=>obtain⟨t,rfl⟩:=r;rfl
 |str _=>obtain⟨t,rfl⟩:=r;rfl
 |byt _=>obtain⟨t,rfl⟩:=r;rfl
 |flt _=>obtain⟨t,rfl⟩:=r;rfl
 |ref _=>cases r;rfl
 |ty _=>cases r;rfl
theorem RelV.inj(r:RelV x u)(q:RelV y u):x=y:=Cf (r.abs.symm.trans q.abs)
theorem Vals.inj:∀{xs ys:List V} {us:List Value},Vals xs us->Vals ys us->xs=ys
 |_,_,_,.nil,.nil=>rfl
 |_,_,_,.cons r t,.cons r' t'=>by rw[r.inj r',Vals.inj t t']
section
variable{X:Cx}{pins:List (Addr×Obj)}{σ:St}{H:Hp}{s:Ag}{a:Addr}{xs ys:List V}
theorem SqL.of{K:Af}(h:H a=some (.lst xs)):SqL K H a xs:=.inl (.inl h)
theorem SqT.of{K:Af}(h:H a=some (.tup xs)):SqT K H a xs:=.inl (.inl h)
theorem Inv.list(I:Inv X pins σ H s)(h:SqL X.K H a xs):∃its:List Value,Vals xs its/\PlainL s.heap a its.toArray/\xs.length<=sizeLine:=by
 rcases h with h|⟨o,its,n,hk,hc,hd,hs,hz,r⟩
 ·obtain⟨z,its,n,r,e⟩:=h.ok I.hok;exact⟨its,r,⟨_,n,e,rfl,rfl,rfl⟩,z⟩
 ·refine⟨its.toList,r,⟨o,n,I.kIn a o hk,hc,hd,by simpa using hs⟩,?_⟩;have e:=r.length;simp only[Jg] at e;lia
theorem Inv.tuple(I:Inv X pins σ H s)(h:SqT X.K H a xs):∃its:List Value,Vals xs its/\IsTup s.heap a its.toArray/\xs.length<=sizeLine:=by
 rcases h with h|⟨o,its,n,hk,hc,hs,hz,r⟩
 ·obtain⟨z,its,r,p⟩:=h.ok I.hok;exact⟨its,r,p,z⟩
 ·refine⟨its.toList,r,⟨o,I.kIn a o hk,hc,n,by simpa using hs⟩,?_⟩;have e:=r.length;simp only[Jg] at e;lia
theorem Inv.list_inj(I:Inv X pins σ H s)(h:SqL X.K H a xs)(h':SqL X.K H a ys):xs=ys:=by
 obtain⟨its,r,⟨o,n,e,_,_,d⟩,_⟩:=I.list h;obtain⟨its',r',⟨o',n',e',_,_,d'⟩,_⟩:=I.list h';have:its=its':=by grind
 subst this;exact r.inj r'
theorem Inv.tuple_inj(I:Inv X pins σ H s)(h:SqT X.K H a xs)(h':SqT X.K H a ys):xs=ys:=by
 obtain⟨its,r,⟨o,e,_,n,d⟩,_⟩:=I.tuple h;obtain⟨its',r',⟨o',e',_,n',d'⟩,_⟩:=I.tuple h';have:its=its':=by grind
 subst this;exact r.inj r'
end
abbrev Cx.wish(X:Cx)(E:Value->Ag->Prop):Cx:={ X with xe:=E }
abbrev Cx.nox(X:Cx):Cx:=X.wish fun _ _=>False
theorem Cx.Ok.wish{X:Cx}(ok:X.Ok)(E:Value->Ag->Prop):(X.wish E).Ok :=
 ⟨ok.mod,ok.kind,ok.glob,ok.blt,ok.above,ok.inj,ok.has,ok.cab,ok.hd,ok.frames,ok.stk,ok.exf,ok.bs,ok.bsz,ok.noex,ok.exfs,ok.funs,ok.frf⟩
theorem Cx.Ok.unwish{X:Cx}(ok:(X.wish E).Ok):X.Ok :=
 ⟨ok.mod,ok.kind,ok.glob,ok.blt,ok.above,ok.inj,ok.has,ok.cab,ok.hd,ok.frames,ok.stk,ok.exf,ok.bs,ok.bsz,ok.noex,ok.exfs,ok.funs,ok.frf⟩
section
variable{X:Cx}{pins:List (Addr×Obj)}{σ:St}{H:Hp}{s:Ag}{E:Value->Ag->Prop}
theorem Inv.wish(I:Inv X pins σ H s)(E:Value->Ag->Prop):Inv (X.wish E) pins σ H s:=⟨I.ok.wish E,I.os,I.bare,I.base,I.loc,I.cell,I.free,I.freeC,I.pin,I.hok,I.len⟩
theorem Inv.unwish(I:Inv (X.wish E) pins σ H s):Inv X pins σ H s:=⟨I.ok.unwish,I.os,I.bare,I.base,I.loc,I.cell,I.free,I.freeC,I.pin,I.hok,I.len⟩
theorem SP.unwish(h:SP (X.wish E) pins D f s'):SP X pins D f s':=by
 cases f with
 |next=>obtain⟨σ',H',I,q⟩:=h;exact⟨σ',H',I.unwish,q⟩
 |brk=>obtain⟨σ',H',I,q⟩:=h;exact⟨σ',H',I.unwish,q⟩
 |cont=>obtain⟨σ',H',I,q⟩:=h;exact⟨σ',H',I.unwish,q⟩
 |ret u=>obtain⟨v,σ',H',I,r,q⟩:=h;exact⟨v,σ',H',I.unwish,r,q⟩
theorem PE.nox(h:PE X.nox e t):PE X e t:=fun pins s σ H Q I hw =>
 Cc (h pins s σ H Q (I.wish _) hw) (fun _ _ ⟨v,H',I',r,q⟩=>⟨v,H',I'.unwish,r,q⟩) fun _ _ z=>False.elim z
theorem PT.nox(h:PT X.nox e t):PT X e t:=fun pins s σ H Q I hw =>
 Cc (h pins s σ H Q (I.wish _) hw) (fun _ _ ⟨H',I',q⟩=>⟨H',I'.unwish,q⟩) fun _ _ z=>False.elim z
theorem PSs.nox{st:List Stmt}(h:PSs X.nox st t):PSs X st t:=fun pins s σ H D I hw =>
 Cc (h pins s σ H D (I.wish _) hw) (fun _ _ q=>q.unwish) fun _ _ z=>False.elim z
end
section
variable{X:Cx}{st:Stmt}{rest:List Stmt}{t u:TS}{e:Expr}{te:TE}{pos:Pos}
def tNext:TS:=fun D σ H=>D.nx σ H
def tSeq(t u:TS):TS:=fun D σ H=>t { D with nx:=u D } σ H
theorem q0i:PSs X [] tNext:=fun _ _ σ H _ I h=>Hd ⟨σ,H,I,h⟩
theorem q0c(h1:PS X st t)(h2:PSs X rest u):PSs X (st::rest) (tSeq t u):=by
 intro pins s σ H D I h;refine Kn (thn (h1 pins s σ H { D with nx:=u D } I h) fun f s1 q=>?_);cases f with
 |next =>
  obtain⟨σ',H',I',q⟩:=q;exact h2 pins s1 σ' H' D I' q
 |ret v=>exact q
 |brk=>exact q
 |cont=>exact q
theorem q0e(h1:PS X st t):PSs X [st] t:=by
 intro pins s σ H D I h;refine Kn (thn (h1 pins s σ H D I h) fun f s1 q=>?_);cases f with
 |next=>exact Hd q
 |ret v=>exact q
 |brk=>exact q
 |cont=>exact q
theorem Inv.quiet{σ:St}(I:Inv X pins σ H s):interactive X.env=false:=by simp[interactive,I.ok.kind]
def tDrop(te:TE):TS:=fun D σ H=>te σ H fun _ H1=>D.nx σ H1
theorem q0y(he:PE X e te)(hs:Le e none pos.line X.env=pure false:=by rfl):PS X (.Expr e pos) (tDrop te):=by
 intro pins s σ H D I h;exact wpAny_Expr_any (thn (he pins s σ H _ I h) fun v s1 ⟨x,H1,I1,r1,q1⟩=>⟨σ,H1,I1,q1⟩) I.quiet hs
def tRet(te:TE):TS:=fun D σ H=>te σ H D.rt
theorem q0m(he:PE X e te):PS X (.Return (some e) pos) (tRet te):=by
 intro pins s σ H D I h;exact wpAny_Return_some (thn (he pins s σ H _ I h) fun v s1 ⟨x,H1,I1,r1,q1⟩=>⟨x,σ,H1,I1,r1,q1⟩)
def tIfS(c:TT)(t u:TS):TS:=fun D σ H=>c σ H fun b H1=>if b=true then t D σ H1 else u D σ H1
theorem q0v{c:Expr}{a b:List Stmt}{tc:TT}(hc:PT X c tc)(ha:PSs X a t)(hb:PSs X b u):PS X (.If c a b pos) (tIfS tc t u):=by
 intro pins s σ H D I h;refine wpAny_If (thn (hc pins s σ H _ I h) fun d s1 ⟨H1,I1,q1⟩=>?_);cases d with
 |true=>exact ha pins s1 σ H1 D I1 q1
 |false=>exact hb pins s1 σ H1 D I1 q1
def tNever:TS:=fun _ _ _=>False
theorem q2a:PS X st tNever:=fun _ _ _ _ _ _ h=>h.elim
end
abbrev TG:=V->St->Hp->(St->Hp->Prop)->Prop
abbrev TGs:=List V->St->Hp->(St->Hp->Prop)->Prop
def PG(X:Cx)(target:Expr)(t:TG):Prop :=
 ∀(pins:List (Addr×Obj)) (s:Ag) (σ:St) (H:Hp) (v:V) (u:Value) (Q:St->Hp->Prop),Inv X pins σ H s->RelV v u->t v σ H Q ->
  wpAny (model X.prog X.w) X.A (assign target X.env u) (fun _ s'=>∃σ' H',Inv X pins σ' H' s'/\Q σ' H') X.xe s
def PGs(X:Cx)(ts:List Expr)(t:TGs):Prop :=
 ∀(pins:List (Addr×Obj)) (s:Ag) (σ:St) (H:Hp) (vs:List V) (us:List Value) (Q:St->Hp->Prop),Inv X pins σ H s->Vals vs us->t vs σ H Q ->
  wpAny (model X.prog X.w) X.A (assignInOrder ((Gp ts X.env).map (·.2)) us) (fun _ s'=>∃σ' H',Inv X pins σ' H' s'/\Q σ' H') X.xe s
abbrev TSet:=V->V->V->Hp->(Hp->Prop)->Prop
def PSet(X:Cx)(t:TSet):Prop :=
 ∀(pins:List (Addr×Obj)) (s:Ag) (σ:St) (H:Hp) (o i v:V) (ov iv u:Value) (Q:Hp->Prop),Inv X pins σ H s->RelV o ov->RelV i iv->RelV v u->t o i v H Q ->
  wpAny (model X.prog X.w) X.A (setItem ov iv u) (fun _ s'=>∃H',Inv X pins σ H' s'/\Q H') X.xe s
abbrev TIp:=V->V->Hp->VK->Prop
def PIp(X:Cx)(op:Operator)(t:TIp):Prop :=
 ∀(pins:List (Addr×Obj)) (s:Ag) (σ:St) (H:Hp) (x y:V) (v u:Value) (Q:VK),Inv X pins σ H s->RelV x v->RelV y u->t x y H Q ->
  wpAny (model X.prog X.w) X.A (Nj op v u) (EP X pins σ Q) X.xe s
section
variable{X:Cx}{pos:Pos}
def gName(i:Nat):TG:=fun v σ H Q=>Q (σ.set i (some v)) H
theorem q0s{i:Nat}{x:Str}(hN:X.N.Nodup)(hi:X.N[i]?=some x)(hx:Loc X.env.scope x)(hf:X.fn x=true\/X.env.scope.names.lookup x=some .local:=by first|exact .inl rfl|exact .inr rfl|assumption):PG X (.Name x pos) (gName i):=by
 intro pins s σ H v u Q I r h;exact Nz (q5t I hN hi hx r (fun s' I'=>⟨_,H,I',h⟩) hf)
def gNil:TGs:=fun vs σ H Q=>vs=[]/\Q σ H
def gCons(t:TG)(u:TGs):TGs:=fun vs σ H Q=>∃v r,vs=v::r/\t v σ H fun σ' H'=>u r σ' H' Q
theorem q1o:PGs X [] gNil:=by
 intro pins s σ H vs us Q I r h;obtain⟨e,h⟩:=h;exact assignInOrder_nil ⟨σ,H,I,h⟩
theorem q0u{e:Expr}{es:List Expr}{t:TG}{u:TGs}(h1:PG X e t)(h2:PGs X es u)(hs:(Gp (e::es) X.env).map (·.2)=assign e X.env::(Gp es X.env).map (·.2):=by rfl):PGs X (e::es) (gCons t u):=by
 intro pins s σ H vs us Q I r h;obtain⟨v,vr,e1,h⟩:=h;subst e1;cases r with
 |cons r rr =>
  rw[hs];refine assignInOrder_cons (thn (h1 pins s σ H _ _ _ I r h) fun _ s1 ⟨σ1,H1,I1,q1⟩=>?_);exact h2 pins s1 σ1 H1 _ _ Q I1 rr q1
def gTup(K:Af)(n:Nat)(t:TGs):TG:=fun v σ H Q=>∃a xs,v=.ref a/\SqT K H a xs/\xs.length=n/\t xs σ H Q
theorem pg_tup{k:Nat}(hc:X.calm=true)(h:PGs X es t)(hn:(Gp es X.env).length=n:=by rfl)(hst:(Gp es X.env).findIdx? (·.1)=none:=by rfl):PG X (.Tuple es k pos) (gTup X.K n t):=by
 intro pins s σ H v u Q I r hw;obtain⟨a,xs,e1,hq,hl,hw⟩:=hw;subst e1;cases r;obtain⟨its,rv,ht,hz⟩:=I.tuple hq;refine assign_Tuple_tuple (I.ok.hd hc) ht (by simp[hn,<- hl,rv.length]) hst fun h' hx=>?_;have I1:Inv X pins σ H { s with heap:=h' }:=I.kept (t':=s.toks) fun b o e=>hx b o (By (An e)) e;exact h pins _ σ H xs _ Q I1 (by simpa using rv) hw
def gSub(to ti:TE)(t:TSet):TG:=fun v σ H Q=>to σ H fun o H1=>ti σ H1 fun i H2=>t o i v H2 fun H3=>Q σ H3
theorem z4o{o i:Expr}{to ti:TE}{t:TSet}(ho:PE X o to)(hi:PE X i ti)(hs:PSet X t)(ha:∀v,assign (.Subscript o i pos) X.env v=(do
   let ov<-Kl [v] (eval o X.env);let iv<-Kl [v,ov] (eval i X.env)
   Pm pos
   Kl [v,ov,iv] (setItem ov iv v)
   release [v,ov,iv] []):=by intro _;rfl):PG X (.Subscript o i pos) (gSub to ti t):=by
 intro pins s σ H v u Q I r h;refine Ac (Dp (thn (ho pins s σ H _ I h) fun ov s1 ⟨x,H1,I1,r1,q1⟩=>?_));refine Ac (Dp (thn (hi pins s1 σ H1 _ I1 q1) fun iv s2 ⟨y,H2,I2,r2,q2⟩=>?_));refine Ac (Co (Ac (Dp (thn (hs pins s2 σ H2 x y v ov iv u _ I2 r1 r2 r q2) fun _ s3 ⟨H3,I3,q3⟩=>?_))));exact wpAny_release ⟨σ,H3,I3,q3⟩
def tAsg(te:TE)(g:TG):TS:=fun D σ H=>te σ H fun x H1=>g x σ H1 D.nx
theorem q4e{tg e:Expr}{te:TE}{g:TG}(he:PE X e te)(hg:PG X tg g)(hs:swapsWithSole [tg] e pos.line X.env=pure false:=by rfl)(hw:swappedStores [tg] e X.env=pure none:=by rfl)(h1:(Gp [tg] X.env).map (·.2)=[assign tg X.env]:=by rfl):PS X (.Assign [tg] e pos) (tAsg te g):=by
 intro pins s σ H D I h;refine wpAny_Assign_stores (thn (he pins s σ H _ I h) fun v s1 ⟨x,H1,I1,r1,q1⟩=>?_) hs hw;rw[h1];exact thn (hg pins s1 σ H1 x v _ I1 r1 q1) fun _ s2 q=>q
theorem q0k{i:Nat}{x:Str}{e:Expr}{te:TE}{pos':Pos}(hN:X.N.Nodup)(hi:X.N[i]?=some x)(hx:Loc X.env.scope x)(he:PE X e te)(hs:Le e (some (.Name x pos')) pos.line X.env=pure false:=by rfl)(hf:X.fn x=true\/X.env.scope.names.lookup x=some .local:=by first|exact .inl rfl|exact .inr rfl|assumption):
  PS X (.Assign [.Name x pos'] e pos) (tAsg te (gName i)):=by
 intro pins s σ H D I h;refine wpAny_Assign_Name (thn (he pins s σ H _ I h) fun v s1 ⟨y,H1,I1,r1,q1⟩=>?_) hs;exact q5t I1 hN hi hx r1 (fun s2 I2=>⟨_,H1,I2,q1⟩) hf
def tAug(i:Nat)(te:TE)(ti:TIp):TS:=fun D σ H=>∃x,σ[i]?=some (some x)/\te σ H fun y H1=>ti x y H1 fun z H2=>D.nx (σ.set i (some z)) H2
theorem z4p{i:Nat}{x:Str}{e:Expr}{te:TE}{op:Operator}{ti:TIp}{pos':Pos}(hN:X.N.Nodup)(hi:X.N[i]?=some x)(hx:Loc X.env.scope x)(he:PE X e te)(ho:PIp X op ti)(hf:X.fn x=true\/X.env.scope.names.lookup x=some .local:=by first|exact .inl rfl|exact .inr rfl|assumption):
  PS X (.AugAssign (.Name x pos') op e pos) (tAug i te ti):=by
 intro pins s σ H D I h;obtain⟨v,e1,h⟩:=h;obtain⟨m,hn,hl⟩:=I.loc;have vis:Vis X.env.scope x:=by rcases hx with k|k;exact .inl k;exact .inr (.inl k)
 obtain⟨u,r,l⟩:=hl i x v hi e1 vis;refine wpAny_AugAssign_Name ?_;have go:wpAny (model X.prog X.w) X.A (eval e X.env) (fun w s₂=>wpAny (model X.prog X.w) X.A (Nj op u w) (fun r s₃=>wpAny (model X.prog X.w) X.A (storeName X.env x r) (fun _=>SP X pins D .next) X.xe s₃) X.xe s₂) X.xe s:=by
  refine thn (he pins s σ H _ I h) fun w s1 ⟨y,H1,I1,r1,q1⟩=>?_;refine thn (ho pins s1 σ H1 v y u w _ I1 r r1 q1) fun z s2 ⟨zv,H2,I2,r2,q2⟩=>?_;exact q5t I2 hN hi hx r2 (fun s3 I3=>⟨_,H2,I3,q2⟩) hf
 rcases l with⟨hk,hm⟩|⟨hk,c,hc,hcell⟩
 ·exact Mn I.ok.kind hk hn hm go
 ·rcases hk with hk|hk
  ·exact Nb I.ok.kind hk hc hcell go
  ·rcases hx with k|k
   ·have:X.env.scope.names.lookup x=some .free:=hk;rw[k] at this;cases this
   ·have:X.env.scope.names.lookup x=some .free:=hk;rw[k] at this;cases this
def tAugS(to ti te:TE)(tget:V->V->Hp->VK->Prop)(tip:TIp)(tset:TSet):TS:=fun D σ H=>to σ H fun o H1=>ti σ H1 fun i H2=>tget o i H2 fun x H3=>te σ H3 fun y H4=>tip x y H4 fun z H5=>tset o i z H5 fun H6=>D.nx σ H6
def PGet(X:Cx)(t:V->V->Hp->VK->Prop):Prop :=
 ∀(pins:List (Addr×Obj)) (s:Ag) (σ:St) (H:Hp) (o i:V) (ov iv:Value) (Q:VK),Inv X pins σ H s->RelV o ov->RelV i iv->t o i H Q ->
  wpAny (model X.prog X.w) X.A (getItem ov iv) (EP X pins σ Q) X.xe s
theorem z4q(ho:PE X o to)(hi:PE X i ti)(hg:PGet X tget)(he:PE X e te)(hp:PIp X op tip)(hs:PSet X tset)(ha:∀ov iv new,augStore i ov iv new=(do Kl [new,ov,iv] (setItem ov iv new);release [new,ov,iv] [];pure .next):=by intros;rfl):PS X (.AugAssign (.Subscript o i tpos) op e pos) (tAugS to ti te tget tip tset):=by
 intro pins s σ H D I h;refine wpAny_AugAssign_SubscriptAny (thn (ho pins s σ H _ I h) fun ov s1 ⟨x1,H1,I1,r1,q1⟩=>?_) ha;refine thn (hi pins s1 σ H1 _ I1 q1) fun iv s2 ⟨x2,H2,I2,r2,q2⟩=>?_;refine thn (hg pins s2 σ H2 x1 x2 ov iv _ I2 r1 r2 q2) fun old s3 ⟨x3,H3,I3,r3,q3⟩=>?_;refine thn (he pins s3 σ H3 _ I3 q3) fun v s4 ⟨x4,H4,I4,r4,q4⟩=>?_;refine thn (hp pins s4 σ H4 x3 x4 old v _ I4 r3 r4 q4) fun new s5 ⟨x5,H5,I5,r5,q5⟩=>?_;exact thn (hs pins s5 σ H5 x1 x2 x5 ov iv new _ I5 r1 r2 r5 q5) fun _ s6 ⟨H6,I6,q6⟩=>⟨σ,H6,I6,q6⟩
end
section
variable{X:Cx}{pos:Pos}
def tWhile(c:TT)(tb:TS):TS:=fun D σ H=>∃W:Nat->St->Hp->Prop,(∃m,W m σ H)/\∀m σ H,W m σ H ->
 c σ H fun b H1=>if b=true then ∃N:St->Hp->Prop,(∀σ' H',N σ' H'->∃m',m'<m/\W m' σ' H')/\tb { D with nx:=N,ct:=N,bk:=D.nx } σ H1 else D.nx σ H1
theorem q7x{c:Expr}{body:List Stmt}{tc:TT}{tb:TS}(hp:Nk (model X.prog X.w) X.A X.env X.xe)(hc:PT X c tc)(hb:PSs X body tb):PS X (.While c body [] pos) (tWhile tc tb):=by
 intro pins s σ H D I h;obtain⟨W,⟨m0,w0⟩,turn⟩:=h;refine wpAny_While (codeAny_whileLoop (fun n s'=>∃σ' H',Inv X pins σ' H' s'/\W n σ' H') ?_ m0 ⟨σ,H,I,w0⟩);rintro n s1 ⟨σ1,H1,I1,w1⟩;refine Ez hp (thn (hc pins s1 σ1 H1 _ I1 (turn n σ1 H1 w1)) fun b s2 ⟨H2,I2,q2⟩=>?_);cases b with
 |true =>
  obtain⟨N,hN,q2⟩:=q2;refine Ez hp (thn (hb pins s2 σ1 H2 _ I2 q2) fun f s3 q3=>?_);cases f with
  |next =>
   obtain⟨σ3,H3,I3,n3⟩:=q3;obtain⟨m',hm,w3⟩:=hN σ3 H3 n3;exact⟨m',hm,σ3,H3,I3,w3⟩
  |cont =>
   obtain⟨σ3,H3,I3,n3⟩:=q3;obtain⟨m',hm,w3⟩:=hN σ3 H3 n3;exact⟨m',hm,σ3,H3,I3,w3⟩
  |brk=>exact q3
  |ret v=>exact q3
 |false =>
  exact Hd ⟨σ1,H2,I2,q2⟩
end
structure It where
 go:Nat->Hp->Prop
 yld:Nat->Hp->V->Hp->Prop
 stop:Nat->Hp->Prop
def FpOk(X:Cx)(pins:List (Addr×Obj))(H:Hp)(b:Addr):Prop :=
 H b=none/\b≠X.env.locals/\b∉X.fs/\(b∈X.ex\/X.s₀.heap.objs.size<=b)/\(∀x c,X.env.cells.lookup x=some c->c≠b)/\∀p∈X.pn++pins,p.1≠b
theorem Inv.fpOk{σ:St}{b:Addr}(I:Inv X pins σ H s)(hb:s.heap.objs.size<=b)(hn:H' b=none):FpOk X pins H' b:=by
 refine⟨hn,Fq (Bb I.lt hb),I.nofs hb,.inr (Aw I.sz hb),fun x c e z=>?_,fun p hp z=>?_⟩
 ·obtain⟨v,q⟩:=I.cell x c e;exact absurd (Bb q.lt (by rw[z];exact hb)) (Fb _)
 ·exact absurd (Bb (An (I.pin p hp).1) (by rw[z];exact hb)) (Fb _)
structure Turn (P:Program) (w:World) (K:Af) (tg:Expr) (J:It) (fp:List Addr) (it:Addr) (tn:Nat->Heap->Prop):Prop where
 mem:it∈fp
 obj:∀i h,tn i h->∀b∈fp,∃o,h.get? b=some o/\∀v,o.data≠.cell v
 keep:∀i h h',tn i h->(∀b∈fp,∀o,h.get? b=some o->h'.get? b=some o)->tn i h'
 item:∀(X:Cx),X.prog=P->X.w=w->X.K=K->X.calm=true->∀(i:Nat) (pins:List (Addr×Obj)) (s:Ag) (σ:St) (H:Hp) (E:Value->Ag->Prop),Inv X pins σ H s->(∀b∈fp,FpOk X pins H b)->tn i s.heap->J.go i H ->
  wpAny (model P w) X.A (Nl (.ref it)) (fun r s1=>∃u,r=some u /\
   wpAny (model P w) X.A (Lf tg (.ref it) u) (fun _ s2=>∃x H',Inv X pins σ H' s2/\RelV x u/\J.yld i H x H'/\tn (i+1) s2.heap/\∀b∈fp,H' b=none) E s1) E s
 done:∀(X:Cx),X.prog=P->X.w=w->X.K=K->X.calm=true->∀(i:Nat) (pins:List (Addr×Obj)) (s:Ag) (σ:St) (H:Hp) (E:Value->Ag->Prop),Inv X pins σ H s->(∀b∈fp,FpOk X pins H b)->tn i s.heap->J.stop i H ->
  wpAny (model P w) X.A (Nl (.ref it)) (fun r s1=>r=none/\Inv X pins σ H s1) E s
 self:∀(A:Around) (i:Nat) (s:Ag) (Q:Value->Ag->Prop) (E:Value->Ag->Prop),tn i s.heap->Q (.ref it) s->wpAny (model P w) A (Ko (.ref it)) Q E s
abbrev TI:=St->Hp->(It->Hp->Prop)->Prop
def PIE(X:Cx)(pins:List (Addr×Obj))(σ:St)(tg:Expr)(R:It->Hp->Prop)(itv:Value)(s2:Ag):Prop :=
 ∃(it:Addr) (fp:List Addr) (tn:Nat->Heap->Prop) (J:It) (H':Hp),itv=.ref it/\Inv X pins σ H' s2/\Turn X.prog X.w X.K tg J fp it tn/\tn 0 s2.heap/\(∀b∈fp,FpOk X pins H' b)/\R J H'
def PI(X:Cx)(tg iter:Expr)(wi:TI):Prop :=
 ∀(pins:List (Addr×Obj)) (s:Ag) (σ:St) (H:Hp) (R:It->Hp->Prop),Inv X pins σ H s->wi σ H R ->
  wpAny (model X.prog X.w) X.A (eval iter X.env) (fun v s1=>wpAny (model X.prog X.w) X.A (Ko v) (PIE X pins σ tg R) X.xe s1) X.xe s
theorem z3i (ho : s.heap.get? it = some o) (hc : o.cls = .type n) (hd : o.data = .fields vs)
    (hn : ["enumerate", "zip", "dict_itemiterator", "dict_reverseitemiterator", "odict_iterator", "itertools.zip_longest", "itertools.pairwise"].contains n = false) (hQ : Q () s) : wpAny M A (Lf tg (.ref it) u) Q E s := by
  cases tg <;> first
    | exact Aj hQ
    | (cases u <;> first
        | exact Aj hQ
        | (refine Ac (wpAny_load ho ?_)
           rw [hc, hd]
           show wpAny M A (if (["enumerate", "zip", "dict_itemiterator", "dict_reverseitemiterator", "odict_iterator", "itertools.zip_longest", "itertools.pairwise"].contains n && vs[0]? == some (Eh _)) = true then _ else _) Q E s
           rw [if_neg (by intro h; rw [hn, Bool.false_and] at h; cases h)]
           exact Aj hQ))
def Itl(K:Af)(a:Addr):It :=
 ⟨fun i H=>∃xs x,SqL K H a xs/\xs[i]?=some x,fun i H x H'=>H'=H/\∀xs,SqL K H a xs->xs[i]?=some x,fun i H=>∃xs,SqL K H a xs/\xs.length<=i⟩
def Itt(K:Af)(a:Addr):It :=
 ⟨fun i H=>∃xs x,SqT K H a xs/\xs[i]?=some x,fun i H x H'=>H'=H/\∀xs,SqT K H a xs->xs[i]?=some x,fun i H=>∃xs,SqT K H a xs/\xs.length<=i⟩
def Itr(lo:Int)(n:Nat):It:=⟨fun i _=>i<n,fun i H x H'=>H'=H/\x=.int (lo+i),fun i _=>n<=i⟩
theorem q9n{K:Af}(a it:Addr):Turn P w K tg (Itl K a) [it] it (fun i h=>h.IsListIter it a i) where
 mem:=by simp
 obj:=fun i h st b hb=>by
  have e:b=it:=by grind
  subst e;obtain⟨o,e,c,d⟩:=st;exact⟨o,e,fun v z=>by rw[d] at z;cases z⟩
 keep:=fun i h h' st k=>st.at fun o e=>k it (by simp) o e
 item:=by
  intro X hP hw hK hc i pins s σ H E I hf st hg;subst hP hw hK;obtain⟨xs,x,hq,hx⟩:=hg;obtain⟨its,rv,p,hz⟩:=I.list hq;obtain⟨u,hu,ru⟩:=rv.get hx;obtain⟨f0,f1,f2,f3,f4,f5⟩:=hf it (by simp);refine wpAny_pyNext_list_item st p.isList (by simpa using hu) fun h' st' sb=>?_;have I1:Inv X pins σ H { s with heap:=h' }:=I.turned (t':=s.toks) (fun b o hb e=>(sb.2 b hb).trans e) f0 f1 f3 f4 f5;obtain⟨o,e,c,d⟩:=id st';exact⟨u,rfl,z3i e c d (by decide) ⟨x,H,I1,ru,⟨rfl,fun ys hy=>by rw[I.list_inj hy hq];exact hx⟩,st',fun b hb=>(hf b hb).1⟩⟩
 done:=by
  intro X hP hw hK hc i pins s σ H E I hf st hg;subst hP hw hK;obtain⟨xs,hq,hx⟩:=hg;obtain⟨its,rv,p,hz⟩:=I.list hq;obtain⟨f0,f1,f2,f3,f4,f5⟩:=hf it (by simp);have hl:=rv.length;exact wpAny_pyNext_list_end (I.ok.hd hc) st p.isList (by simp;lia) fun h' eb=>⟨rfl,I.turned (t':=s.toks) (fun b o hb e=>eb b o hb e) f0 f1 f3 f4 f5⟩
 self:=fun _ _ _ _ _ st h=>wpAny_pyIter_listiter st h
theorem z3j{K:Af}(a it:Addr):Turn P w K tg (Itt K a) [it] it (fun i h=>h.IsTupleIter it a i) where
 mem:=by simp
 obj:=fun i h st b hb=>by
  have e:b=it:=by grind
  subst e;obtain⟨o,e,c,d⟩:=st;exact⟨o,e,fun v z=>by rw[d] at z;cases z⟩
 keep:=fun i h h' st k=>st.at fun o e=>k it (by simp) o e
 item:=by
  intro X hP hw hK hc i pins s σ H E I hf st hg;subst hP hw hK;obtain⟨xs,x,hq,hx⟩:=hg;obtain⟨its,rv,p,hz⟩:=I.tuple hq;obtain⟨u,hu,ru⟩:=rv.get hx;obtain⟨f0,f1,f2,f3,f4,f5⟩:=hf it (by simp);refine wpAny_pyNext_tuple_item st (show s.heap.IsTuple a its.toArray from p) (by simpa using hu) fun h' st' sb=>?_;have I1:Inv X pins σ H { s with heap:=h' }:=I.turned (t':=s.toks) (fun b o hb e=>(sb.2 b hb).trans e) f0 f1 f3 f4 f5;obtain⟨o,e,c,d⟩:=id st';exact⟨u,rfl,z3i e c d (by decide) ⟨x,H,I1,ru,⟨rfl,fun ys hy=>by rw[I.tuple_inj hy hq];exact hx⟩,st',fun b hb=>(hf b hb).1⟩⟩
 done:=by
  intro X hP hw hK hc i pins s σ H E I hf st hg;subst hP hw hK;obtain⟨xs,hq,hx⟩:=hg;obtain⟨its,rv,p,hz⟩:=I.tuple hq;obtain⟨f0,f1,f2,f3,f4,f5⟩:=hf it (by simp);have hl:=rv.length;exact wpAny_pyNext_tuple_end (I.ok.hd hc) st (show s.heap.IsTuple a its.toArray from p) (by simp;lia) fun h' eb=>⟨rfl,I.turned (t':=s.toks) (fun b o hb e=>eb b o hb e) f0 f1 f3 f4 f5⟩
 self:=fun _ _ _ _ _ st h=>wpAny_pyIter_tupleiter st h
theorem z3k{K:Kp}(it:Addr)(lo:Int)(n:Nat):Turn P w K tg (Itr lo n) [it] it (fun i h=>IsRangeIter h it (lo+(i:Nat)*1) ((n:Int)-(i:Nat)) 1) where
 mem:=by simp
 obj:=fun i h st b hb=>by
  have e:b=it:=by grind
  subst e;exact⟨_,st,fun v z=>by
   have z':=z;cases z'⟩
 keep:=fun i h h' st k=>k it (by simp) _ st
 item:=by
  intro X hP hw hK hc i pins s σ H E I hf st hg;subst hP hw hK;obtain⟨f0,f1,f2,f3,f4,f5⟩:=hf it (by simp);have W:=Walks.range (prog:=X.prog) (w:=X.w) (I.ok.hd hc) it lo 1 n;refine W.item i s _ _ hg st fun v h' tk hv st' kk=>?_;obtain⟨t,rfl⟩:=hv;have I1:Inv X pins σ H { s with heap:=h',toks:=tk }:=I.turned (fun b o hb e=>kk b o (by simpa using hb) e) f0 f1 f3 f4 f5;refine⟨_,rfl,z3i st' rfl rfl (by decide) ⟨.int (lo+i),H,I1,⟨t,?_⟩,⟨rfl,rfl⟩,st',fun b hb=>(hf b hb).1⟩⟩;rw[Int.mul_one]
 done:=by
  intro X hP hw hK hc i pins s σ H E I hf st hg;obtain⟨f0,f1,f2,f3,f4,f5⟩:=hf it (by simp);exact wpAny_pyNext_range_end (I.ok.hd hc) st (by have:n<=i:=hg;lia) fun h' eb=>⟨rfl,I.turned (t':=s.toks) (fun b o hb e=>eb b o hb e) f0 f1 f3 f4 f5⟩
 self:=fun _ _ _ _ _ st h=>wpAny_pyIter_rangeiter st h
open PySem PySem.Spec PyProof.Rows
section
variable{X:Cx}{tg:Expr}
def iList(K:Af)(tl:TE):TI:=fun σ H R=>tl σ H fun x H1=>∃a,x=.ref a/\(∃xs,SqL K H1 a xs)/\R (Itl K a) H1
theorem z9x(hl:PE X l tl):PI X tg l (iList X.K tl):=by
 intro pins s σ H R I h;refine thn (hl pins s σ H _ I h) fun v s1 ⟨x,H1,I1,r1,q1⟩=>?_;obtain⟨a,e,⟨xs,hq⟩,q⟩:=q1;subst e;cases r1;obtain⟨its,rv,p,hz⟩:=I1.list hq;refine Jz p.isList ?_;refine⟨s1.heap.objs.size,[s1.heap.objs.size],_,_,H1,rfl,I1.kept (t':=s1.toks) fun b o e=>Ad _ e,q9n a _,⟨_,As _ rfl,rfl,rfl⟩,fun b hb=>?_,q⟩;have e:b=s1.heap.objs.size:=by grind
 subst e;exact I1.fpOk (Ah _) (I1.hok.fresh (Ah _))
theorem z2i{σ:St}{lo:Int}(I:Inv X pins σ H s)(h1 : -(2^62)<=lo)(h2:lo<2^62)(h3 : -(2^62)<=hi)(h4:hi<2^62)(q:R (Itr lo (hi-lo).toNat) H):wpAny (model X.prog X.w) X.A (Ko (.ref s.heap.objs.size)) (PIE X pins σ tg R) E { s with heap:=s.heap.push { cls:=.type "range",data:=.fields #[.int lo t,.int hi u,.int 1 v] },toks:=tk }:=by
 refine wpAny_pyIter_range (IsRange.new ..) (small_one h1 h2 h3 h4) ?_;have I1:Inv X pins σ H { s with heap:=s.heap.push { cls:=.type "range",data:=.fields #[.int lo t,.int hi u,.int 1 v] },toks:=tk }:=I.kept fun b o e=>Ad _ e;refine⟨(s.heap.push { cls:=.type "range",data:=.fields #[.int lo t,.int hi u,.int 1 v] }).objs.size,[(s.heap.push { cls:=.type "range",data:=.fields #[.int lo t,.int hi u,.int 1 v] }).objs.size],_,_,H,rfl,
  I1.kept (t':=tk) fun b o e=>Ad _ e,z3k _ lo (hi-lo).toNat,?_,fun b hb=>?_,q⟩
 ·have e1:lo+((0:Nat):Int)*1=lo:=by simp
  have e2:(((hi-lo).toNat:Nat):Int)-((0:Nat):Int)=Dz.Range.rangeSize lo hi 1:=by rw[rangeSize_one];split<;>lia
  rw[e1,e2];exact As _ rfl
 ·have e:b=(s.heap.push { cls:=.type "range",data:=.fields #[.int lo t,.int hi u,.int 1 v] }).objs.size:=by simpa using hb
  subst e;exact I1.fpOk (Ah _) (I1.hok.fresh (Ah _))
def iRng1(ta:TA):TI:=fun σ H R=>ta σ H fun vs H1=>∃j:Int,vs=[.int j] /\ -(2^62)<=j/\j<2^62/\R (Itr 0 j.toNat) H1
def iRng2(ta:TA):TI:=fun σ H R=>ta σ H fun vs H1=>∃i j:Int,vs=[.int i,.int j]/\(-(2^62)<=i/\i<2^62 /\ -(2^62)<=j/\j<2^62)/\R (Itr i (j-i).toNat) H1
theorem q3h{a:Expr}{ta:TA}{p pos:Pos}(hg:Gl X "range")(hm:X.mg "range" = none)(ha:PA X [a] ta)(hs:Ay [a] X.env=[(false,eval a X.env)]:=by rfl):PI X tg (.Call (.Name "range" p) [a] [] pos) (iRng1 ta):=by
 intro pins s σ H R I h;refine Call_ (q4c I hg hm boot_range (Ck (thn (ha pos pins s σ H _ I h) fun us s1 ⟨vs,H1,I1,r1,q1⟩=>?_) hs rfl));obtain⟨j,e,q1,q2,q⟩:=q1;subst e;cases r1 with
 |cons r rr =>
  cases rr;obtain⟨t,rfl⟩:=r;exact call_range_1 (z2i I1 (by lia) (by lia) q1 q2 (by simpa using q))
theorem q9o{a b:Expr}{ta:TA}{p pos:Pos}(hg:Gl X "range")(hm:X.mg "range" = none)(ha:PA X [a,b] ta)(hs:Ay [a,b] X.env=[(false,eval a X.env),(false,eval b X.env)]:=by rfl)(hs2:Ay [b] X.env=[(false,eval b X.env)]:=by rfl):
  PI X tg (.Call (.Name "range" p) [a,b] [] pos) (iRng2 ta):=by
 intro pins s σ H R I h;refine Call_ (q4c I hg hm boot_range (Ck (thn (ha pos pins s σ H _ I h) fun us s1 ⟨vs,H1,I1,r1,q1⟩=>?_) (by rw[hs,hs2]) (by rw[hs2];rfl)));obtain⟨i,j,e,⟨q1,q2,q3,q4⟩,q⟩:=q1;subst e;cases r1 with
 |cons r rr =>
  cases rr with
  |cons r' rr =>
   cases rr;obtain⟨t,rfl⟩:=r;obtain⟨t',rfl⟩:=r';exact call_range_2 (z2i I1 q1 q2 q3 q4 q)
def tFor(wi:TI)(g:TG)(tb:TS):TS:=fun D σ H=>wi σ H fun J H1=>∃W:Nat->Nat->St->Hp->Prop,(∃m,W 0 m σ H1)/\∀i m σ H,W i m σ H ->
 (J.stop i H/\D.nx σ H)\/(J.go i H/\∃N:St->Hp->Prop,(∀σ' H',N σ' H'->∃m',m'<m/\W (i+1) m' σ' H')/\∀x H',J.yld i H x H'->g x σ H' fun σ2 H2=>tb { D with nx:=N,ct:=N,bk:=D.nx } σ2 H2)
def pinsAt(fp:List Addr)(h:Heap):List (Addr×Obj):=fp.filterMap fun b=>(h.get? b).map fun o=>(b,o)
theorem q3n(hb:b∈fp)(e:h.get? b=some o):(b,o)∈pinsAt fp h:=Nm.mpr ⟨b,hb,by rw[e];rfl⟩
theorem z4r(hp:p∈pinsAt fp h):p.1∈fp/\h.get? p.1=some p.2:=by
 obtain⟨b,hb,e⟩:=Nm.mp hp;cases q:h.get? b with
 |none=>rw[q] at e;cases e
 |some o =>
  rw[q] at e;have e':=Cf e;subst e';exact⟨hb,q⟩
theorem Inv.pinned{σ:St}(I:Inv X pins σ H s)(hf:∀b∈fp,FpOk X pins H b)(ho:∀b∈fp,∃o,s.heap.get? b=some o/\∀v,o.data≠.cell v):Inv X (pins++pinsAt fp s.heap) σ H s :=
 I.pins_of fun p hp=>(Bh.mp hp).elim (fun z=>I.pin p (Cg _ z)) fun z=>by
  obtain⟨hb,e⟩:=z4r z;obtain⟨f0,f1,f2,_⟩:=hf p.1 hb;obtain⟨o,e',d⟩:=ho p.1 hb;rw[e] at e';cases e';exact⟨e,f0,f1,f2,d⟩
theorem Inv.unpinned{σ:St}(I:Inv X (pins++pl) σ H s):Inv X pins σ H s:=I.pins_of fun p hp=>I.pin p (Cg _ (Dh _ hp))
theorem q1y{iter:Expr}{body:List Stmt}{wi:TI}{g:TG}{tb:TS}{pos:Pos}(hp:Nk (model X.prog X.w) X.A X.env X.xe)(hc:X.calm=true)(hi:PI X tg iter wi)(hg:PG X tg g)(hb:PSs X body tb)(hs:∀x,Ka iter X.env x=pure x:=by intro _;rfl):PS X (.For tg iter body [] pos) (tFor wi g tb):=by
 intro pins s σ H D I h;refine wpAny_For (thn (hi pins s σ H _ I h) fun v s1 h1=>thn h1 fun itv s2 h2=>?_) hs;obtain⟨it,fp,tn,J,H2,e,I2,T,st2,f2,W,⟨m0,w0⟩,turn⟩:=h2;subst e;have stat:∀{H':Hp},(∀b∈fp,H' b=none)->∀b∈fp,FpOk X pins H' b:=fun hn b hb=>⟨hn b hb,(f2 b hb).2⟩
 refine codeAny_forLoop_any (fun n s'=>∃i σ' H',Inv X pins σ' H' s'/\tn i s'.heap/\(∀b∈fp,H' b=none)/\W i n σ' H') ?_ m0 ⟨0,σ,H2,I2,st2,fun b hb=>(f2 b hb).1,w0⟩;rintro n s3 ⟨i,σ3,H3,I3,st3,fr3,w3⟩;rcases turn i n σ3 H3 w3 with⟨stop,qn⟩|⟨go,N,hN,step⟩
 ·refine Ez hp (thn (T.done X rfl rfl rfl hc i pins s3 σ3 H3 X.xe I3 (stat fr3) st3 stop) fun r s4 ⟨hr,I4⟩=>?_);subst hr;exact Hd ⟨σ3,H3,I4,qn⟩
 ·refine Ez hp (thn (T.item X rfl rfl rfl hc i pins s3 σ3 H3 X.xe I3 (stat fr3) st3 go) fun r s4 ⟨u,hr,h4⟩=>?_);subst hr;refine Ez hp (thn h4 fun _ s5 ⟨x,H5,I5,r5,y5,st5,fr5⟩=>?_);have I5':=I5.pinned (stat fr5) (T.obj _ _ st5);refine Ez hp (thn (hg _ s5 σ3 H5 x u _ I5' r5 (step x H5 y5)) fun _ s6 ⟨σ6,H6,I6,q6⟩=>?_);refine Ez hp (thn (hb _ s6 σ6 H6 _ I6 q6) fun f s7 q7=>?_);have again:∀{σ7:St} {H7:Hp},Inv X (pins++pinsAt fp s5.heap) σ7 H7 s7->N σ7 H7->∃m,m<n/\∃i σ' H',Inv X pins σ' H' s7/\tn i s7.heap/\(∀b∈fp,H' b=none)/\W i m σ' H':=fun{σ7 H7} I7 n7=>by
   obtain⟨m',hm,w7⟩:=hN σ7 H7 n7;refine⟨m',hm,i+1,σ7,H7,I7.unpinned,T.keep _ _ _ st5 fun b hb o e=>(I7.pin (b,o) (Cg _ (Cg _ (q3n hb e)))).1,fun b hb=>?_,w7⟩;obtain⟨o,e,d⟩:=T.obj _ _ st5 b hb;exact(I7.pin (b,o) (Cg _ (Cg _ (q3n hb e)))).2.1
  cases f with
  |next=>obtain⟨σ7,H7,I7,n7⟩:=q7;exact again I7 n7
  |cont=>obtain⟨σ7,H7,I7,n7⟩:=q7;exact again I7 n7
  |brk=>obtain⟨σ7,H7,I7,q7⟩:=q7;exact⟨σ7,H7,I7.unpinned,q7⟩
  |ret v=>obtain⟨x7,σ7,H7,I7,r7,q7⟩:=q7;exact⟨x7,σ7,H7,I7.unpinned,r7,q7⟩
end
theorem q3o{K:Kp}{g:TG}{tb:TS}{D:Ends}(Pv:Nat->St->Hp->Prop)(h0:Pv 0 σ H)(hl:∀i σ H,i<=xs.length->Pv i σ H->SqL K H a xs)(hs:∀i x σ H,xs[i]?=some x->Pv i σ H->g x σ H fun σ2 H2=>tb { D with nx:=Pv (i+1),ct:=Pv (i+1),bk:=D.nx } σ2 H2)(hd:∀σ H,Pv xs.length σ H->D.nx σ H):
  ∃W:Nat->Nat->St->Hp->Prop,(∃m,W 0 m σ H)/\∀i m σ H,W i m σ H ->
   ((Itl K a).stop i H/\D.nx σ H)\/((Itl K a).go i H/\∃N:St->Hp->Prop,(∀σ' H',N σ' H'->∃m',m'<m/\W (i+1) m' σ' H')/\∀x H',(Itl K a).yld i H x H'->g x σ H' fun σ2 H2=>tb { D with nx:=N,ct:=N,bk:=D.nx } σ2 H2):=by
 refine⟨fun i m σ H=>m=xs.length-i/\i<=xs.length/\Pv i σ H,⟨xs.length,by simp,Bg _,h0⟩,?_⟩;rintro i m σ H ⟨rfl,hi,p⟩;have q:=hl i σ H hi p;by_cases hlt:i<xs.length
 ·refine .inr ⟨⟨xs,xs[i],q,by simp[hlt]⟩,Pv (i+1),fun σ' H' p'=>⟨xs.length-(i+1),by lia,rfl,hlt,p'⟩,fun x H' y=>?_⟩;obtain⟨e,y⟩:=y;subst e;exact hs i x σ _ (y xs q) p
 ·have e:i=xs.length:=by lia
  subst e;exact .inl ⟨⟨xs,q,Ah _⟩,hd σ H p⟩
theorem q3i{lo:Int}{g:TG}{tb:TS}{D:Ends}(Pv:Nat->St->Hp->Prop)(h0:Pv 0 σ H)(hs:∀i σ H,i<n->Pv i σ H->g (.int (lo+i)) σ H fun σ2 H2=>tb { D with nx:=Pv (i+1),ct:=Pv (i+1),bk:=D.nx } σ2 H2)(hd:∀σ H,Pv n σ H->D.nx σ H):
  ∃W:Nat->Nat->St->Hp->Prop,(∃m,W 0 m σ H)/\∀i m σ H,W i m σ H ->
   ((Itr lo n).stop i H/\D.nx σ H)\/((Itr lo n).go i H/\∃N:St->Hp->Prop,(∀σ' H',N σ' H'->∃m',m'<m/\W (i+1) m' σ' H')/\∀x H',(Itr lo n).yld i H x H'->g x σ H' fun σ2 H2=>tb { D with nx:=N,ct:=N,bk:=D.nx } σ2 H2):=by
 refine⟨fun i m σ H=>m=n-i/\i<=n/\Pv i σ H,⟨n,by simp,Bg _,h0⟩,?_⟩;rintro i m σ H ⟨rfl,hi,p⟩;by_cases hlt:i<n
 ·refine .inr ⟨hlt,Pv (i+1),fun σ' H' p'=>⟨n-(i+1),by lia,rfl,hlt,p'⟩,fun x H' y=>?_⟩;obtain⟨e,y⟩:=y;subst e y;exact hs i σ _ hlt p
 ·have e:i=n:=by lia
  subst e;exact .inl ⟨Ah _,hd σ H p⟩
theorem q7y(Pv:St->Hp->Prop)(μ:St->Hp->Nat)(h0:Pv σ H)(hs:∀σ H,Pv σ H->c σ H fun b H1=>if b=true then tb { D with nx:=fun σ' H'=>Pv σ' H'/\μ σ' H'<μ σ H,ct:=fun σ' H'=>Pv σ' H'/\μ σ' H'<μ σ H,bk:=D.nx } σ H1 else D.nx σ H1)(mono:∀σ H Q Q',(∀b H1,Q b H1->Q' b H1)->c σ H Q->c σ H Q'):tWhile c tb D σ H:=by
 refine⟨fun m σ H=>m=μ σ H/\Pv σ H,⟨_,rfl,h0⟩,?_⟩;rintro m σ H ⟨rfl,p⟩;refine mono σ H _ _ (fun b H1 q=>?_) (hs σ H p);cases b with
 |true=>exact⟨_,fun σ' H' ⟨p',l⟩=>⟨_,l,rfl,p'⟩,q⟩
 |false=>exact q
open PySem PySem.Spec PyProof.Rows
abbrev R2:=V->V->Hp->VK->Prop
def OpR(X:Cx)(f:Value->Value->Sem Value)(r:R2):Prop :=
 ∀(pins:List (Addr×Obj)) (s:Ag) (σ:St) (H:Hp) (x y:V) (v u:Value) (Q:VK),Inv X pins σ H s->RelV x v->RelV y u->r x y H Q ->
  wpAny (model X.prog X.w) X.A (f v u) (EP X pins σ Q) X.xe s
def UnR(X:Cx)(f:Value->Sem Value)(r:V->Hp->VK->Prop):Prop :=
 ∀(pins:List (Addr×Obj)) (s:Ag) (σ:St) (H:Hp) (x:V) (v:Value) (Q:VK),Inv X pins σ H s->RelV x v->r x H Q ->
  wpAny (model X.prog X.w) X.A (f v) (EP X pins σ Q) X.xe s
def CallR(X:Cx)(f:Value)(r:List V->Hp->VK->Prop):Prop :=
 ∀(pins:List (Addr×Obj)) (s:Ag) (σ:St) (H:Hp) (xs:List V) (us:List Value) (Q:VK),Inv X pins σ H s->Vals xs us->r xs H Q ->
  wpAny (model X.prog X.w) X.A (call f us) (EP X pins σ Q) X.xe s
def TruR(X:Cx)(r:V->Hp->(Bool->Hp->Prop)->Prop):Prop :=
 ∀(pins:List (Addr×Obj)) (s:Ag) (σ:St) (H:Hp) (x:V) (v:Value) (Q:Bool->Hp->Prop),Inv X pins σ H s->RelV x v->r x H Q ->
  wpAny (model X.prog X.w) X.A (truthy v) (TP X pins σ Q) X.xe s
def tOp(r:R2)(ta tb:TE):TE:=fun σ H Q=>ta σ H fun x H1=>tb σ H1 fun y H2=>r x y H2 Q
def tUn(r:V->Hp->VK->Prop)(ta:TE):TE:=fun σ H Q=>ta σ H fun x H1=>r x H1 Q
def rI(C:Int->Int->Prop)(g:Int->Int->V):R2:=fun x y H Q=>∃i j,x=.int i/\y=.int j/\C i j/\Q (g i j) H
def rI0(g:Int->Int->V):R2:=fun x y H Q=>∃i j,x=.int i/\y=.int j/\Q (g i j) H
def rU(g:Int->V):V->Hp->VK->Prop:=fun x H Q=>∃i,x=.int i/\Q (g i) H
section
variable{X:Cx}{a b c:Expr}{ta tb tc:TE}{pos:Pos}
theorem binT(ha:PE X a ta)(hb:PE X b tb){σ:St}{R:V->V->Hp->Prop}(I:Inv X pins σ H s)(h:ta σ H fun x H1=>tb σ H1 fun y H2=>R x y H2){f:Value->Value->Sem Value}(hf:∀v u s2 x y H2,Inv X pins σ H2 s2->RelV x v->RelV y u->R x y H2->wpAny (model X.prog X.w) X.A (f v u) Q X.xe s2):
  wpAny (model X.prog X.w) X.A (eval a X.env) (fun v s₁=>wpAny (model X.prog X.w) X.A (eval b X.env) (fun u s₂=>wpAny (model X.prog X.w) X.A (f v u) Q X.xe s₂) X.xe s₁) X.xe s:=by
 refine thn (ha pins s σ H _ I h) fun v s1 ⟨x,H1,I1,r1,q1⟩=>?_;refine thn (hb pins s1 σ H1 _ I1 q1) fun u s2 ⟨y,H2,I2,r2,q2⟩=>?_;exact hf v u s2 x y H2 I2 r1 r2 q2
theorem q0p{op:Operator}{r:R2}(ho:OpR X (Fc op) r)(ha:PE X a ta)(hb:PE X b tb):PE X (.BinOp a op b pos) (tOp r ta tb):=by
 intro pins s σ H Q I h;exact wpAny_BinOp (binT ha hb I h fun v u s2 x y H2 I2 rx ry q=>ho pins s2 σ H2 x y v u Q I2 rx ry q)
theorem q7z{op:UnaryOp}{r:V->Hp->VK->Prop}(ho:UnR X (unaryOp op) r)(ha:PE X a ta):PE X (.UnaryOp op a pos) (tUn r ta):=by
 intro pins s σ H Q I h;exact UnaryOp_ (thn (ha pins s σ H _ I h) fun v s1 ⟨x,H1,I1,r1,q1⟩=>ho pins s1 σ H1 x v Q I1 r1 q1)
theorem opI{g:Int->Int->Int}(rule:∀(i j:Int) (t u:Tok) (s:Ag) (Q:Value->Ag->Prop) (E:Value->Ag->Prop),C i j->Q (.int (g i j) s.toks) { s with toks:=s.toks+1 }->wpAny (model X.prog X.w) X.A (f (.int i t) (.int j u)) Q E s):
  OpR X f (rI C fun i j=>.int (g i j)):=by
 intro pins s σ H x y v u Q I rx ry h;obtain⟨i,j,rfl,rfl,hc,q⟩:=h;obtain⟨t,rfl⟩:=rx;obtain⟨t',rfl⟩:=ry;exact rule i j t t' s _ _ hc ⟨.int (g i j),H,I.tok _,⟨_,rfl⟩,q⟩
theorem opI0{g:Int->Int->Int}(rule:∀(i j:Int) (t u:Tok) (s:Ag) (Q:Value->Ag->Prop) (E:Value->Ag->Prop),Q (.int (g i j) s.toks) { s with toks:=s.toks+1 }->wpAny (model X.prog X.w) X.A (f (.int i t) (.int j u)) Q E s):
  OpR X f (rI0 fun i j=>.int (g i j)):=by
 intro pins s σ H x y v u Q I rx ry h;obtain⟨i,j,rfl,rfl,q⟩:=h;obtain⟨t,rfl⟩:=rx;obtain⟨t',rfl⟩:=ry;exact rule i j t t' s _ _ ⟨.int (g i j),H,I.tok _,⟨_,rfl⟩,q⟩
theorem opB0{g:Int->Int->Bool}(rule:∀(i j:Int) (t u:Tok) (s:Ag) (Q:Value->Ag->Prop) (E:Value->Ag->Prop),Q (.bool (g i j)) s->wpAny (model X.prog X.w) X.A (f (.int i t) (.int j u)) Q E s):
  OpR X f (rI0 fun i j=>.bl (g i j)):=by
 intro pins s σ H x y v u Q I rx ry h;obtain⟨i,j,rfl,rfl,q⟩:=h;obtain⟨t,rfl⟩:=rx;obtain⟨t',rfl⟩:=ry;exact rule i j t t' s _ _ ⟨.bl (g i j),H,I,rfl,q⟩
def CPow(i j:Int):Prop:=0<=j/\j<=1000000/\i.natAbs<2^64
def CMul(i j:Int):Prop:=(-(2^64)<i/\i<2^64)\/(-(2^64)<j/\j<2^64)
theorem CMul.ok(h:CMul i j):IntMulOk i j:=by
 rcases h with⟨h1,h2⟩|⟨h1,h2⟩
 ·exact .of_left (intBits_le_64 h1 h2)
 ·exact .of_right (intBits_le_64 h1 h2)
theorem op_add:OpR X (Fc .Add) (rI0 fun i j=>.int (i+j)):=opI0 fun _ _ _ _ _ _ _ q=>add_int q
theorem q3t:OpR X (Fc .Sub) (rI0 fun i j=>.int (i-j)):=opI0 fun _ _ _ _ _ _ _ q=>sub_int q
theorem op_mul:OpR X (Fc .Mult) (rI CMul fun i j=>.int (i*j)):=opI fun _ _ _ _ _ _ _ hc q=>mul_int q hc.ok
theorem q7h:OpR X (Fc .Mod) (rI (fun _ j=>0<j) fun i j=>.int (i%j)):=opI fun i j _ _ _ _ _ hc q=>by
 exact mod_int' (by lia) (by rw[Int.fmod_eq_emod_of_nonneg i (by lia)];exact q)
theorem q4f:OpR X (Fc .Pow) (rI CPow fun i j=>.int (i^j.toNat)):=opI fun _ _ _ _ _ _ _ hc q=>pow_int_small hc.1 hc.2.1 hc.2.2 q
theorem z1c:OpR X (Nj .Add) (rI0 fun i j=>.int (i+j)):=opI0 fun _ _ _ _ _ _ _ q=>iadd_int q
theorem unI{g:Int->Int}(rule:∀(i:Int) (t:Tok) (s:Ag) (Q:Value->Ag->Prop) (E:Value->Ag->Prop),Q (.int (g i) s.toks) { s with toks:=s.toks+1 }->wpAny (model X.prog X.w) X.A (f (.int i t)) Q E s):
  UnR X f (rU fun i=>.int (g i)):=by
 intro pins s σ H x v Q I rx h;obtain⟨i,rfl,q⟩:=h;obtain⟨t,rfl⟩:=rx;exact rule i t s _ _ ⟨.int (g i),H,I.tok _,⟨_,rfl⟩,q⟩
theorem q4g:UnR X (unaryOp .USub) (rU fun i=>.int (-i)):=unI fun _ _ _ _ _ q=>neg_int q
end
def scal:V->V->Bool
 |.non,.non=>true|.non,.int _=>true|.int _,.non=>true|.non,.bl _=>true|.bl _,.non=>true|.non,.str _=>true|.str _,.non=>true
 |.int _,.int _=>true|.bl _,.bl _=>true|.str _,.str _=>true|.byt _,.byt _=>true
 |.int _,.str _=>true|.str _,.int _=>true|.bl _,.str _=>true|.str _,.bl _=>true
 |_,_=>false
def rEq:R2:=fun x y H Q=>scal x y=true/\Q (.bl (decide (x=y))) H
def rNe:R2:=fun x y H Q=>scal x y=true/\Q (.bl (!decide (x=y))) H
theorem z4s:decide (V.int i=V.int j)=(i==j):=by
 rw[Il];simp
theorem z8t:decide (V.bl i=V.bl j)=(i==j):=by
 rw[Il];simp
theorem dec_str:decide (V.str i=V.str j)=(i==j):=by
 rw[Il];simp
theorem z4t:decide (V.byt i=V.byt j)=(i.toList==j.toList):=by
 rw[Il];cases i;cases j;simp
section
variable{X:Cx}{a b c:Expr}{ta tb tc:TE}{pos:Pos}
theorem q1c{σ:St}(I:Inv X pins σ H s)(q:Q (.bl k) H)(e:k=k'):EP X pins σ Q (.bool k') s:=by
 subst e;exact⟨.bl k,H,I,rfl,q⟩
theorem op_eq:OpR X (Cd .Eq) rEq:=by
 intro pins s σ H x y v u Q I rx ry h;obtain⟨hs,q⟩:=h;cases x with
 |non =>
  cases rx;cases y with
  |non=>cases ry;exact PySem.EqNone.eq_none_none (q1c I q (by simp))
  |bl j=>cases ry;exact PySem.EqNone.eq_none_bool (q1c I q (by simp))
  |int j=>obtain⟨t',rfl⟩:=ry;exact PySem.EqNone.eq_none_int (q1c I q (by simp))
  |str j=>obtain⟨t',rfl⟩:=ry;exact PySem.EqNone.eq_none_str (q1c I q (by simp))
  |_=>exact absurd (show false=true from hs) Bf
 |bl i =>
  cases rx;cases y with
  |non=>cases ry;exact PySem.EqNone.eq_bool_none (q1c I q (by simp))
  |bl j=>cases ry;exact eq_bool (q1c I q z8t)
  |str j=>obtain⟨t',rfl⟩:=ry;exact PySem.EqMixed.eq_bool_str (q1c I q (by simp))
  |_=>exact absurd (show false=true from hs) Bf
 |int i =>
  obtain⟨t,rfl⟩:=rx;cases y with
  |non=>cases ry;exact PySem.EqNone.eq_int_none (q1c I q (by simp))
  |int j=>obtain⟨t',rfl⟩:=ry;exact eq_int (q1c I q z4s)
  |str j=>obtain⟨t',rfl⟩:=ry;exact PySem.EqMixed.eq_int_str (q1c I q (by simp))
  |_=>exact absurd (show false=true from hs) Bf
 |str i =>
  obtain⟨t,rfl⟩:=rx;cases y with
  |non=>cases ry;exact PySem.EqNone.eq_str_none (q1c I q (by simp))
  |bl j=>cases ry;exact PySem.EqMixed.eq_str_bool (q1c I q (by simp))
  |int j=>obtain⟨t',rfl⟩:=ry;exact PySem.EqMixed.eq_str_int (q1c I q (by simp))
  |str j=>obtain⟨t',rfl⟩:=ry;exact eq_str (q1c I q dec_str)
  |_=>exact absurd (show false=true from hs) Bf
 |byt i =>
  obtain⟨t,rfl⟩:=rx;cases y with
  |byt j=>obtain⟨t',rfl⟩:=ry;exact W.eq_bytes (q1c I q z4t)
  |_=>exact absurd (show false=true from hs) Bf
 |_=>cases y<;>exact absurd (show false=true from hs) Bf
theorem op_ne:OpR X (Cd .NotEq) rNe:=by
 intro pins s σ H x y v u Q I rx ry h;obtain⟨hs,q⟩:=h;cases x with
 |non =>
  cases rx;cases y with
  |non=>cases ry;exact PySem.EqNone.ne_none_none (q1c I q (by simp))
  |bl j=>cases ry;exact PySem.EqNone.ne_none_bool (q1c I q (by simp))
  |int j=>obtain⟨t',rfl⟩:=ry;exact PySem.EqNone.ne_none_int (q1c I q (by simp))
  |str j=>obtain⟨t',rfl⟩:=ry;exact PySem.EqNone.ne_none_str (q1c I q (by simp))
  |_=>exact absurd (show false=true from hs) Bf
 |bl i =>
  cases rx;cases y with
  |non=>cases ry;exact PySem.EqNone.ne_bool_none (q1c I q (by simp))
  |bl j=>cases ry;exact ne_bool (q1c I q (congrArg not z8t))
  |str j=>obtain⟨t',rfl⟩:=ry;exact PySem.EqMixed.ne_bool_str (q1c I q (by simp))
  |_=>exact absurd (show false=true from hs) Bf
 |int i =>
  obtain⟨t,rfl⟩:=rx;cases y with
  |non=>cases ry;exact PySem.EqNone.ne_int_none (q1c I q (by simp))
  |int j=>obtain⟨t',rfl⟩:=ry;exact ne_int (q1c I q (congrArg not z4s))
  |str j=>obtain⟨t',rfl⟩:=ry;exact PySem.EqMixed.ne_int_str (q1c I q (by simp))
  |_=>exact absurd (show false=true from hs) Bf
 |str i =>
  obtain⟨t,rfl⟩:=rx;cases y with
  |non=>cases ry;exact PySem.EqNone.ne_str_none (q1c I q (by simp))
  |bl j=>cases ry;exact PySem.EqMixed.ne_str_bool (q1c I q (by simp))
  |int j=>obtain⟨t',rfl⟩:=ry;exact PySem.EqMixed.ne_str_int (q1c I q (by simp))
  |str j=>obtain⟨t',rfl⟩:=ry;exact ne_str (q1c I q (congrArg not dec_str))
  |_=>exact absurd (show false=true from hs) Bf
 |byt i =>
  obtain⟨t,rfl⟩:=rx;cases y with
  |byt j=>obtain⟨t',rfl⟩:=ry;exact W.ne_bytes (q1c I q (congrArg not z4t))
  |_=>exact absurd (show false=true from hs) Bf
 |_=>cases y<;>exact absurd (show false=true from hs) Bf
theorem q6c:OpR X (Cd .Lt) (rI0 fun i j=>.bl (decide (i<j))):=opB0 fun _ _ _ _ _ _ _ q=>lt_int q
theorem op_le:OpR X (Cd .LtE) (rI0 fun i j=>.bl (decide (i<=j))):=opB0 fun _ _ _ _ _ _ _ q=>le_int q
theorem q3v:OpR X (Cd .Gt) (rI0 fun i j=>.bl (decide (j<i))):=opB0 fun _ _ _ _ _ _ _ q=>gt_int q
theorem op_ge:OpR X (Cd .GtE) (rI0 fun i j=>.bl (decide (j<=i))):=opB0 fun _ _ _ _ _ _ _ q=>ge_int q
theorem op_in_str:OpR X (Cd .In) (fun x y H Q=>∃i j,x=.str i/\y=.str j/\Q (.bl (!(En j i 0 j.length 1).isEmpty)) H):=by
 intro pins s σ H x y v u Q I rx ry h;obtain⟨i,j,rfl,rfl,q⟩:=h;obtain⟨t,rfl⟩:=rx;obtain⟨t',rfl⟩:=ry;exact in_str (q1c I q rfl)
theorem OpR.or(h:OpR X f r)(h':OpR X f r'):OpR X f (fun x y H Q=>r x y H Q\/r' x y H Q):=by
 intro pins s σ H x y v u Q I rx ry q;rcases q with q|q
 ·exact h pins s σ H x y v u Q I rx ry q
 ·exact h' pins s σ H x y v u Q I rx ry q
theorem nomark(b:Expr)(h:op≠.In:=by decide)(h2:op≠.NotIn:=by decide):Fx op b=false:=by
 have e1:(op==CmpOp.In)=false:=by grind
 have e2:(op==CmpOp.NotIn)=false:=by grind
 cases b<;>simp[Fx,e1,e2]
theorem q5b{op:CmpOp}{r:R2}(ho:OpR X (Cd op) r)(ha:PE X a ta)(hb:PE X b tb)(hm:Fx op b=false):PE X (.Compare a [op] [b] pos) (tOp r ta tb):=by
 intro pins s σ H Q I h;exact wpAny_Compare1 (binT ha hb I h fun v u s2 x y H2 I2 rx ry q=>ho pins s2 σ H2 x y v u Q I2 rx ry q) hm
def tTest(t:TE):TT:=fun σ H Q=>t σ H fun x H'=>∃k,x=.bl k/\Q k H'
theorem q0h{op:CmpOp}{r:R2}(ho:OpR X (Cd op) r)(ha:PE X a ta)(hb:PE X b tb)(hm:Fx op b=false):PT X (.Compare a [op] [b] pos) (tTest (tOp r ta tb)):=by
 intro pins s σ H Q I h;refine Lv (thn (ha pins s σ H _ I h) fun v s1 ⟨x,H1,I1,r1,q1⟩=>thn (hb pins s1 σ H1 _ I1 q1) fun u s2 ⟨y,H2,I2,r2,q2⟩ =>
  thn (ho pins s2 σ H2 x y v u _ I2 r1 r2 q2) fun c s3 ⟨z,H3,I3,r3,k,e,q3⟩=>?_) hm
 subst e;cases r3;exact Gg ⟨H3,I3,q3⟩
def TruV(K:Af)(x:V)(H:Hp)(k:Bool):Prop :=
 match x with
 |.non=>k=false
 |.bl b=>k=b
 |.int i=>k=(i != 0)
 |.str y=>y.length<=sizeLine/\k=((y.length:Int) != 0)
 |.byt y=>y.size<=sizeLine/\k=((y.size:Int) != 0)
 |.ref p=>(∃xs,SqL K H p xs/\k = !xs.isEmpty)\/(∃xs,SqT K H p xs/\k = !xs.isEmpty)\/∃kvs,H p=some (.dK kvs)/\k = !kvs.isEmpty
 |_=>False
theorem z3l{kvs:List (κ×V)}{vs:List (κ×Value)}(r:KV kvs vs):(!vs.isEmpty) = !kvs.isEmpty:=by
 cases r<;>rfl
theorem q7i(r:Vals xs its):(!its.toArray.isEmpty) = !xs.isEmpty:=by
 cases r<;>simp
theorem line63:(sizeLine:Nat)<2^63:=by rw[Es];decide
theorem tru_ok:TruR X (fun x H Q=>∃k,TruV X.K x H k/\Q k H):=by
 intro pins s σ H x v Q I rx h;obtain⟨k,e,q⟩:=h;have hs:=Es;cases x with
 |non =>
  cases rx;have e':=e;subst e';exact truthy_none ⟨H,I,q⟩
 |bl b =>
  cases rx;have e':=e;subst e';exact Gg ⟨H,I,q⟩
 |int i =>
  obtain⟨t,rfl⟩:=rx;have e':=e;subst e';exact PySem.P.truthy_int ⟨H,I,q⟩
 |str y =>
  obtain⟨t,rfl⟩:=rx;obtain⟨hy,e'⟩:y.length<=sizeLine/\k=((y.length:Int) != 0):=e;subst e';exact PySem.P.truthy_str (by lia) ⟨H,I.tok _,q⟩
 |byt y =>
  obtain⟨t,rfl⟩:=rx;obtain⟨hy,e'⟩:y.size<=sizeLine/\k=((y.size:Int) != 0):=e;subst e';exact W.truthy_bytes (by lia) ⟨H,I.tok _,q⟩
 |ref p =>
  cases rx;have e':=e;rcases e' with⟨xs,hx,e'⟩|⟨xs,hx,e'⟩|⟨kvs,hx,e'⟩
  ·subst e';obtain⟨its,r,pl,hz⟩:=I.list hx;have hlen:=r.length;exact wpAny_truthy_list pl.isList (by simp only[Ar];lia) ⟨H,I.tok _,by rw[q7i r];exact q⟩
  ·subst e';obtain⟨its,r,pl,hz⟩:=I.tuple hx;have hlen:=r.length;exact truthy_tuple pl (by simp only[Ar];lia) ⟨H,I.tok _,by rw[q7i r];exact q⟩
  ·subst e';obtain⟨hz,hS,vs,r,m⟩:kvs.length<=sizeLine/\(p==Er)=false/\∃vs,KV kvs vs/\s.heap.DictOf (mixKind X.prog X.w) p vs:=I.hok p _ hx;have hlen:=Fw r;exact wpAny_truthy_dict hS m (by lia) ⟨H,I.tok _,by rw[z3l r];exact q⟩
 |_=>exact(show False from e).elim
theorem z7b(ha:PE X a ta)(he:∀whole,isTrue a X.env whole=(do let v<-whole;Pm a.pos;Kl [v] (truthy v))):
  PT X a (fun σ H Q=>ta σ H fun x H'=>∃k,TruV X.K x H' k/\Q k H'):=by
 intro pins s σ H Q I h;exact isTrue_plain (thn (ha pins s σ H _ I h) fun v s1 ⟨x,H1,I1,r1,q1⟩=>tru_ok pins s1 σ H1 x v Q I1 r1 q1) (he _)
theorem op_add_str:OpR X (Fc .Add) (fun x y H Q=>∃i j,x=.str i/\y=.str j/\i.length+j.length<=sizeLine/\Q (.str (i++j)) H):=by
 intro pins s σ H x y v u Q I rx ry h;obtain⟨i,j,rfl,rfl,hz,q⟩:=h;obtain⟨t,rfl⟩:=rx;obtain⟨t',rfl⟩:=ry;exact add_str (fun t' tk=>⟨.str (i++j),H,I.tok _,⟨_,rfl⟩,q⟩) hz
theorem q6d:OpR X (Nj .Add) (fun x y H Q=>∃i j,x=.str i/\y=.str j/\i.length+j.length<=sizeLine/\Q (.str (i++j)) H):=by
 intro pins s σ H x y v u Q I rx ry h;obtain⟨i,j,rfl,rfl,hz,q⟩:=h;obtain⟨t,rfl⟩:=rx;obtain⟨t',rfl⟩:=ry;exact iadd_str (fun t' tk=>⟨.str (i++j),H,I.tok _,⟨_,rfl⟩,q⟩) hz
theorem vals1(r:Vals [x] us):∃u,us=[u]/\RelV x u:=by
 cases r with
 |cons r1 r2=>cases r2;exact⟨_,rfl,r1⟩
theorem vals2(r:Vals [x,y] us):∃u w',us=[u,w']/\RelV x u/\RelV y w':=by
 cases r with
 |cons r1 r2 =>
  cases r2 with
  |cons r3 r4=>cases r4;exact⟨_,_,rfl,r1,r3⟩
theorem z4u(hc:X.calm=true):CallR X (.builtin "max") (fun xs H Q=>∃i j,xs=[.int i,.int j]/\Q (.int (if j>i then j else i)) H):=by
 intro pins s σ H xs us Q I r h;obtain⟨i,j,rfl,q⟩:=h;obtain⟨u,w',rfl,⟨t,rfl⟩,⟨t',rfl⟩⟩:=vals2 r;refine max_two_ints (I.ok.hd hc) fun h' tk k=>⟨_,H,I.kept k,?_,q⟩
 by_cases hj:j>i
 ·rw[if_pos hj,if_pos hj];exact⟨_,rfl⟩
 ·rw[if_neg hj,if_neg hj];exact⟨_,rfl⟩
theorem q9p(hc:X.calm=true):CallR X (.builtin "min") (fun xs H Q=>∃i j,xs=[.int i,.int j]/\Q (.int (if j<i then j else i)) H):=by
 intro pins s σ H xs us Q I r h;obtain⟨i,j,rfl,q⟩:=h;obtain⟨u,w',rfl,⟨t,rfl⟩,⟨t',rfl⟩⟩:=vals2 r;refine min_two_ints (I.ok.hd hc) fun h' tk k=>⟨_,H,I.kept k,?_,q⟩
 by_cases hj:j<i
 ·rw[if_pos hj,if_pos hj];exact⟨_,rfl⟩
 ·rw[if_neg hj,if_neg hj];exact⟨_,rfl⟩
theorem call_int1:CallR X (.type "int") (fun xs H Q=>(∃i,xs=[.int i]/\Q (.int i) H)\/∃k,xs=[.bl k]/\Q (.int (if k then 1 else 0)) H):=by
 intro pins s σ H xs us Q I r h;rcases h with⟨i,rfl,q⟩|⟨k,rfl,q⟩
 ·obtain⟨u,rfl,t,rfl⟩:=vals1 r;exact call_int_int ⟨.int i,H,I,⟨_,rfl⟩,q⟩
 ·obtain⟨u,rfl,r1⟩:=vals1 r;cases r1;exact call_int_bool ⟨.int (if k then 1 else 0),H,I.tok _,⟨_,rfl⟩,q⟩
def LenV(K:Af)(x:V)(H:Hp)(n:Nat):Prop :=
 match x with
 |.str y=>y.length<=sizeLine/\n=y.length
 |.byt y=>y.size<=sizeLine/\n=y.size
 |.ref p=>(∃xs,SqL K H p xs/\n=xs.length)\/∃xs,SqT K H p xs/\n=xs.length
 |_=>False
theorem z7c:CallR X (.builtin "len") (fun xs H Q=>∃x n,xs=[x]/\LenV X.K x H n/\Q (.int n) H):=by
 intro pins s σ H xs us Q I r h;obtain⟨x,n,rfl,e,q⟩:=h;obtain⟨u,rfl,rx⟩:=vals1 r;have hs:=Es;cases x with
 |str y =>
  obtain⟨t,rfl⟩:=rx;obtain⟨hy,e'⟩:y.length<=sizeLine/\n=y.length:=e;subst e';exact len_str (by lia) ⟨.int _,H,I.tok _,⟨_,rfl⟩,q⟩
 |byt y =>
  obtain⟨t,rfl⟩:=rx;obtain⟨hy,e'⟩:y.size<=sizeLine/\n=y.size:=e;subst e';exact W.len_bytes (by lia) ⟨.int _,H,I.tok _,⟨_,rfl⟩,q⟩
 |ref p =>
  cases rx;have e':=e;rcases e' with⟨xs,hx,e'⟩|⟨xs,hx,e'⟩
  ·subst e';obtain⟨its,r',pl,hz⟩:=I.list hx;have hlen:=r'.length;exact Calls.call_len_list pl.isList (by simp only[Ar];lia) ⟨.int xs.length,H,I.tok _,⟨_,by simp only[Ar];rw[hlen]⟩,q⟩
  ·subst e';obtain⟨its,r',pl,hz⟩:=I.tuple hx;have hlen:=r'.length;exact len_tuple pl (by simp only[Ar];lia) ⟨.int xs.length,H,I.tok _,⟨_,by simp only[Ar];rw[hlen]⟩,q⟩
 |_=>exact(show False from e).elim
end
open PySem PySem.Spec PyProof.Rows
theorem z4v{h:Heap}(n:h.Ns1 dx mA):∃od,h.get? dx=some od/\∀name,W.lookIn name od=some (mA name):=by
 obtain⟨o,es,ep,ho,hd,hk,_,hm⟩:=n;refine⟨o,ho,fun name=>?_⟩;have e:=hm name;unfold nsFind findBy at e;rw[<- Jp] at e;unfold W.lookIn;rw[hd];dsimp only;split
 ·grind
 ·rename_i q;rw[q] at e;have a:es.toList.any (·.refKey)=false:=by
   rw[List.any_eq_false];intro y hy;obtain⟨z,t,hkey⟩:=hk y (Mo.mp hy);simp[Jq.refKey,hkey]
  have a':¬es.toList.any (·.refKey)=true:=by grind
  rw[if_neg a'];exact congrArg some e
def putF(f:Str)(v:V):List (Str×V)->List (Str×V)
 |[]=>[(f,v)]
 |(g,x)::r=>if g=f then(g,v)::r else(g,x)::putF f v r
theorem q3w(f g:Str)(v:V):∀fs:List (Str×V),(putF f v fs).lookup g=if g=f then some v else fs.lookup g
 |[]=>by
  show List.lookup g [(f,v)]=_;by_cases h:g=f
  ·have hb:(g==f)=true:=beq_iff_eq.mpr h;simp only[List.lookup,hb,if_pos h]
  ·simp_all
 |(k,x)::r=>by
  have ih:=q3w f g v r;rw[show putF f v ((k,x)::r)=(if k=f then(k,v)::r else(k,x)::putF f v r) from rfl];by_cases hk:k=f
  ·rw[if_pos hk];by_cases h:g=k
   ·simp_all
   ·have hb:(g==k)=false:=beq_eq_false_iff_ne.mpr h;simp only[List.lookup,hb,if_neg (fun e:g=f=>h (e.trans hk.symm))]
  ·rw[if_neg hk];by_cases h:g=k
   ·simp_all
   ·have hb:(g==k)=false:=beq_eq_false_iff_ne.mpr h;simp only[List.lookup,hb];exact ih
theorem q6e(f:Str)(v:V):∀fs:List (Str×V),f∈(putF f v fs).map (·.1)/\∀g,g∈fs.map (·.1)->g∈(putF f v fs).map (·.1)
 |[]=>⟨by simp[putF],fun g h=>by simp at h⟩
 |(k,x)::r=>by
  obtain⟨i1,i2⟩:=q6e f v r;rw[show putF f v ((k,x)::r)=(if k=f then(k,v)::r else(k,x)::putF f v r) from rfl];by_cases hk:k=f
  ·grind
  ·grind
theorem RelO.some_of(r:RelO (some v) o):∃u,o=some u/\RelV v u:=by
 cases o with
 |none=>exact(show False from r).elim
 |some u=>exact⟨u,rfl,r⟩
theorem z4w(r:RelV v u):W.handedIn u=true:=by
 cases v with
 |non=>cases(show u=Value.none from r);rfl
 |bl b=>cases(show u=Value.bool b from r);rfl
 |int i=>obtain⟨t,e⟩:=(show ∃t,u=Value.int i t from r);cases e;rfl
 |str x=>obtain⟨t,e⟩:=(show ∃t,u=Value.str x t from r);cases e;rfl
 |byt b=>obtain⟨t,e⟩:=(show ∃t,u=Value.bytes b t from r);cases e;rfl
 |flt b=>obtain⟨t,e⟩:=(show ∃t,u=Value.float b t from r);cases e;rfl
 |ref a=>cases(show u=Value.ref a from r);rfl
 |ty n=>cases(show u=Value.type n from r);rfl
structure Cls (K:Af) (C:Addr):Prop where
 pg:W.plainGet K C Lg=true
 hd:Oi K C=true
 po:W.plainOver K C=true
 sa:Bu K (.ref C) "__setattr__" = some (some (.builtin "object.__setattr__"))
theorem Cls.get{K:Af}(c:Cls K C)(f:Str):W.plainGet K C f=true:=c.pg
section
variable{X:Cx}{pins:List (Addr×Obj)}{σ:St}{H:Hp}{s:Ag}{a C dx:Addr}{fs:List (Str×V)}{f:Str}{v:V}{A:Around}{E:Value->Ag->Prop}
theorem Inv.made(I:Inv X pins σ H s):Inv X pins σ (upd (upd H s.heap.objs.size (.own (s.heap.objs.size+1))) (s.heap.objs.size+1) (.ins C s.heap.objs.size []))
  { s with heap:=(s.heap.push Dc).push (Ld C s.heap.objs.size) }:=by
 have e1:(s.heap.push Dc).get? s.heap.objs.size=some Dc:=As s.heap rfl;have e2:((s.heap.push Dc).push (Ld C s.heap.objs.size)).get? (s.heap.objs.size+1)=some (Ld C s.heap.objs.size):=by
  have:=As (s.heap.push Dc) (o:=Ld C s.heap.objs.size) rfl
  rwa [Gi] at this
 have e3:(s.heap.push Dc).Ns s.heap.objs.size (fun _=>none):=⟨Dc,#[],_,e1,rfl,(fun e he=>absurd he (by simp)),fun _=>rfl⟩
 have I1:=I.laid (o:=.own (s.heap.objs.size+1)) (h':=s.heap.push Dc) (t':=s.toks) (fun b u q=>Ad _ q) (Ah _) ⟨_,e1⟩;refine I1.laid (t':=s.toks) (fun b u q=>Ad _ q) (Kq (Gi _ _)) ?_;have ne:s.heap.objs.size≠s.heap.objs.size+1:=By (Nat.lt_succ_self _);refine⟨by rw[q0l ne,q0d],Bg _,ne,e2,fun _=>none,(Oa e3).at fun o q=>Ad _ q,fun _=>True.intro,fun y hy=>absurd rfl hy⟩
theorem z9y(hb:Gy e f env (eval e env)=eval e env)(h:wpAny (model prog w) A (eval e env) (fun o s₁=>wpAny (model prog w) A (getAttr o f true) Q E s₁) E s):wpAny (model prog w) A (eval (.Attribute e f pos) env) Q E s :=
 Attribute_any_ h (by rw[arm_eval_Attribute,hb])
end
section
variable{X:Cx}{pins:List (Addr×Obj)}{σ:St}{H:Hp}{s:Ag}{A:Around}{E:Value->Ag->Prop}{Q:Value->Ag->Prop}{c:Value}{b:Bool}
inductive TyOf (K:Af) (H:Hp):V->Value->Prop where
 |non:TyOf K H .non (.type "NoneType")
 |bl (x:Bool):TyOf K H (.bl x) (.type "bool")
 |int (i:Int):TyOf K H (.int i) (.type "int")
 |str (x:Str):TyOf K H (.str x) (.type "str")
 |flt (x:UInt64):TyOf K H (.flt x) (.type "float")
 |lst {a:Addr} {xs:List V} (e:H a=some (.lst xs)):TyOf K H (.ref a) (.type "list")
 |frz {a:Addr} {o:Obj} {xs:List V} (e:H a=some (.frz o (.lst xs))):TyOf K H (.ref a) (.type "list")
 |tup {a:Addr} {xs:List V} (e:H a=some (.tup xs)):TyOf K H (.ref a) (.type "tuple")
 |dK {a:Addr} {kvs:List (Key×V)} (e:H a=some (.dK kvs)):TyOf K H (.ref a) (.type "dict")
 |dT {a:Addr} {kvs:List (List Key×V)} (e:H a=some (.dT kvs)):TyOf K H (.ref a) (.type "dict")
 |ins {a C dx:Addr} {fs:List (Str×V)} (e:H a=some (.ins C dx fs)) (cl:Cls K C) (ha:Bu K (.ref C) "__class__" = some (some (.builtin "object.__class__")))
   (hn:Hv K (.builtin "object.__class__") "__get__" = some (some (.builtin "getset_descriptor.__get__"))) (htk:Nn K (.builtin "object.__class__")=some true)
   (hm:Lw K C (.type "object")=some true):TyOf K H (.ref a) (.ref C)
end
open PySem PySem.Spec PyProof.Rows
structure Room (k:Nat) (A:Around):Prop where
 hd:A.handled=none
 dp:A.depth+3*k+5<recursionLimit
 un:A.units+16*k+200<cLine
 gd:A.guards=some []
theorem Room.mono(r:Room k A)(h:j<=k):Room j A:=⟨r.hd,by have:=r.dp;lia,by have:=r.un;lia,r.gd⟩
theorem Room.deeper(r:Room (k+1) A)(env:Env):Room k (A.deeper env) :=
 ⟨r.hd,by have:=r.dp;show A.depth+1+3*k+5<_;lia,by have:=r.un;show A.units+3+16*k+200<_;lia,r.gd⟩
theorem Room.in1(r:Room (k+1) A):Room k A.in1 :=
 ⟨r.hd,by have:=r.dp;show A.depth+3*k+5<_;lia,by have:=r.un;show A.units+1+16*k+200<_;lia,r.gd⟩
theorem z3m{A:Around}:(A.under (.builtin "type.__call__" ⟨.ref C::us,kw⟩)).depth=A.depth+1:=by
 first|rfl|simp[Kr,Code.weight,Code.isCreation,Code.isGuard,Code.isCaller,Code.frames,Np,guardIds]
theorem z3n{A:Around}:(A.under (.builtin "type.__call__" ⟨.ref C::us,kw⟩)).units=A.units+1:=by
 first|rfl|simp[Kr,Code.cUnits,Code.frames,Np]
theorem make_guards{A:Around}:(A.under (.builtin "type.__call__" ⟨.ref C::us,kw⟩)).guards=A.guards:=by
 have:(Code.builtin "type.__call__" ⟨.ref C::us,kw⟩).guards=[]:=by simp[Code.guards,Code.isGuard,guardIds]
 unfold Kr;rw[this];cases e:A.guards<;>simp[pushGuards,e]
theorem Room.make(r:Room (k+1) A)(C:Addr)(us:List Value)(kw:List (Str×Value)):Room k (A.under (.builtin "type.__call__" ⟨.ref C::us,kw⟩)) :=
 ⟨r.hd,by have:=r.dp;rw[z3m];lia,by have:=r.un;rw[z3n];lia,make_guards.trans r.gd⟩
theorem Room.depth(r:Room k A):A.depth<recursionLimit:=by have:=r.dp;lia
theorem Room.units(r:Room k A):A.units+64<cLine:=by have:=r.un;lia
def tNil:TA:=fun _ H Q=>Q [] H
def tCons(ta:TE)(tr:TA):TA:=fun σ H Q=>ta σ H fun x H1=>tr σ H1 fun xs H2=>Q (x::xs) H2
section
variable{X:Cx}{e:Expr}{es:List Expr}{te:TE}{t:TA}{pos:Pos}
theorem q0b:PA X [] tNil:=fun _ _ _ _ H Q I h=>Calls.spliced_nil ⟨[],H,I,.nil,h⟩
theorem q0a(ha:PE X e te)(hr:PA X es t)(hs:Ay (e::es) X.env=(false,eval e X.env)::Ay es X.env:=by rfl):PA X (e::es) (tCons te t):=by
 intro pos pins s σ H Q I h;rw[hs];refine Calls.spliced_cons (thn (ha pins s σ H _ I h) fun u s1 ⟨x,H1,I1,r1,q1⟩=>?_);exact thn (hr pos pins s1 σ H1 _ I1 q1) fun us s2 ⟨xs,H2,I2,r2,q2⟩=>⟨x::xs,H2,I2,.cons r1 r2,q2⟩
def tTup(t:TA):TE:=fun σ H Q=>t σ H fun xs H1=>xs.length<=sizeLine/\∀p,H1 p=none->Q (.ref p) (upd H1 p (.tup xs))
def tLst(t:TA):TE:=fun σ H Q=>t σ H fun xs H1=>xs.length<=sizeLine/\∀p,H1 p=none->Q (.ref p) (upd H1 p (.lst xs))
theorem q0o{x1}(h:PA X es t):PE X (.Tuple es x1 pos) (tTup t):=by
 intro pins s σ H Q I hq;refine wpAny_Tuple_spliced (thn (h pos pins s σ H _ I hq) fun us s1 ⟨xs,H1,I1,r,z,q⟩=>⟨by rw[<- r.length];exact z,?_⟩);have hf:=I1.hok.fresh (Ah _);refine⟨.ref s1.heap.objs.size,upd H1 s1.heap.objs.size (.tup xs),I1.laid (t':=s1.toks) (fun b u e=>Ad _ e) (Ah _) ?_,rfl,q _ hf⟩;exact⟨z,us,r,⟨_,As _ rfl,rfl,_,rfl⟩⟩
theorem q1b(h:PA X es t):PE X (.List es pos) (tLst t):=by
 intro pins s σ H Q I hq;refine wpAny_List_spliced (thn (h pos pins s σ H _ I hq) fun us s1 ⟨xs,H1,I1,r,z,q⟩=>⟨by rw[<- r.length];exact z,?_⟩);have hf:=I1.hok.fresh (Ah _);refine⟨.ref s1.heap.objs.size,upd H1 s1.heap.objs.size (.lst xs),I1.laid (t':=s1.toks) (fun b u e=>Ad _ e) (Ah _) ?_,rfl,q _ hf⟩;exact⟨z,us,0,r,As _ rfl⟩
end
abbrev Sp:=List V->Hp->VK->XK->Prop
abbrev CXT:=List Env->Hp->Ag->XK->Value->Ag->Prop
structure Env0 (P:Program) (w:World) (K:Af) (mg:Str->Option Value) (base:Heap) (A:Around) (outer:List Env) (s:Ag) (H:Hp):Prop where
 frames:A.frames=some outer
 mod:Mod K mg base
 bs:∀b o,base.get? b=some o->s.heap.get? b=some o/\H b=none
 bsz:base.objs.size<=s.heap.objs.size
 funs:s.heap.FunFrames base outer
 frf:∀b∈frs outer,H b=none
 hok:HOk P w H s.heap
 bare:Hl s.gens
def CE(outer:List Env)(P:Program)(w:World)(H:Hp)(s:Ag)(Q:VK)(u:Value)(s':Ag):Prop :=
 ∃v H',s'.os=s.os/\Hl s'.gens/\Un (frs outer) [] H H' s.heap s'.heap/\HOk P w H' s'.heap/\RelV v u/\Q v H'
def CR(CX:CXT)(outer:List Env)(P:Program)(w:World)(H:Hp)(s:Ag)(Q:VK)(E:XK)(r:Result)(s':Ag):Prop :=
 match r with
 |.ok (.ret u)=>CE outer P w H s Q u s'
 |.ok _=>False
 |.error e=>CX outer H s E e s'
structure FnOk (P:Program) (w:World) (K:Af) (mg:Str->Option Value) (base:Heap) (CX:CXT) (k:Nat) (f:Addr) (fd:Ib) (ps:List Str) (sp:Sp):Prop where
 len:∀vs H Q E,sp vs H Q E->vs.length=ps.length
 run:∀(A:Around) (outer:List Env) (s:Ag) (H:Hp) (args:Args) (us:List Value) (vs:List V) (Q:VK) (E:XK),Room k A->Env0 P w K mg base A outer s H->Lx s fd args (ps.zip us)->Vals vs us->sp vs H Q E ->
  Hm (model P w) A (.call (.ref f) args) (CR CX outer P w H s Q E) s
theorem FnOk.mono{K:Af}(F:FnOk P w K mg base CX j f fd ps sp)(h:j<=k):
  FnOk P w K mg base CX k f fd ps sp:=⟨F.len,fun A outer s H args us vs Q E hr=>F.run A outer s H args us vs Q E (hr.mono h)⟩
theorem FnOk.imp{K:Af}(F:FnOk P w K mg base CX k f fd ps sp)(h:∀vs H Q E,sp' vs H Q E->sp vs H Q E):FnOk P w K mg base CX k f fd ps sp' :=
 ⟨fun vs H Q E q=>F.len vs H Q E (h _ _ _ _ q),fun A outer s H args us vs Q E hr he hb hv hs=>F.run A outer s H args us vs Q E hr he hb hv (h _ _ _ _ hs)⟩
theorem Env0.make{K:Af}(e:Env0 P w K mg base A outer s H)(C:Addr)(us:List Value)(kw:List (Str×Value)):
  Env0 P w K mg base (A.under (.builtin "type.__call__" ⟨.ref C::us,kw⟩)) outer s H:=⟨by first|exact e.frames|(simpa[Kr,Code.envs,Np,pushEnvs] using e.frames),e.mod,e.bs,e.bsz,e.funs,e.frf,e.hok,e.bare⟩
theorem Env0.in1{K:Af}(e:Env0 P w K mg base A outer s H):
  Env0 P w K mg base A.in1 outer s H:=⟨e.frames,e.mod,e.bs,e.bsz,e.funs,e.frf,e.hok,e.bare⟩
section
variable{X:Cx}{pins:List (Addr×Obj)}{σ:St}{H:Hp}{s s':Ag}
theorem Inv.env0(I:Inv X pins σ H s):Env0 X.prog X.w X.K X.mg X.base X.A X.stack s H :=
 ⟨I.ok.frames,I.ok.mod,I.bs,Aw I.ok.bsz I.sz,I.stack,I.stkFree,I.hok,I.bare⟩
theorem Inv.after(I:Inv X pins σ H s)(h:CE X.stack X.prog X.w H s Q u s'):EP X pins σ Q u s':=by
 obtain⟨v,H',os,bare,un,hok,r,q⟩:=h;obtain⟨hh,g,d,t,os'⟩:=s';obtain rfl:os'=s.os:=os;exact⟨v,H',I.call (h':=hh) (g':=g) (d':=d) (t':=t) un hok bare (fun b z=>absurd z (by simp)),r,q⟩
end
def tCall(sp:Sp)(dvs:List V)(E:XK)(t:TA):TE:=fun σ H Q=>t σ H fun vs H1=>sp (vs++dvs) H1 Q E
def Binds(K:Af)(fd:Ib)(ps:List Str)(ds:List Value):Prop :=
 ∀(s:Ag) (us:List Value),K.In s.heap->(us++ds).length=ps.length->Lx s fd ⟨us,[]⟩ (ps.zip (us++ds))
theorem Binds.all{K:Af}(h:∀us:List Value,us.length=ps.length->bindArgs fd ⟨us,[]⟩=pure (ps.zip us)):Binds K fd ps []:=fun s us _ hl=>by
 rw[Dd] at hl ⊢;exact .of_eq (h us hl)
def Passes(CX:CXT)(X:Cx)(E:XK):Prop:=∀(pins:List (Addr×Obj)) (σ:St) (H:Hp) (s:Ag) (e:Value) (s':Ag),Inv X pins σ H s->CX X.stack H s E e s'->X.xe e s'
section
variable{X:Cx}{CX:CXT}{k:Nat}{f C:Addr}{fd:Ib}{ps:List Str}{sp:Sp}{dvs:List V}{ds:List Value}{E:XK}{x m:Str}{p pos apos:Pos}{e o:Expr}{es:List Expr}{ta:TE}{t:TA}
theorem z8u{σ:St}(F:FnOk X.prog X.w X.K X.mg X.base CX k f fd ps sp)(hr:Room k X.A)(hb:Binds X.K fd ps ds)(hd:Vals dvs ds)(hx:Passes CX X E)(I:Inv X pins σ H s)(r:Vals vs us)(h:sp (vs++dvs) H Q E):wpAny (model X.prog X.w) X.A (call (.ref f) us) (EP X pins σ Q) X.xe s:=by
 have r2:=r.append hd;have hl:(us++ds).length=ps.length:=by rw[<- r2.length];exact F.len _ _ _ _ h
 refine Et (Gj (F.run X.A X.stack s H ⟨us,[]⟩ (us++ds) (vs++dvs) Q E hr I.env0 (hb s us I.kIn hl) r2 h) fun r s' hq=>?_);cases r with
 |error e=>exact hx pins σ H s e s' I hq
 |ok fl =>
  cases fl with
  |ret u=>exact I.after hq
  |next=>exact False.elim hq
  |brk=>exact False.elim hq
  |cont=>exact False.elim hq
theorem z9z(F:FnOk X.prog X.w X.K X.mg X.base CX k f fd ps sp)(hr:Room k X.A)(hg:Gl X x)(hm:X.mg x=some (.ref f))(hk:Eo X.K (.ref f)=true)(hb:Binds X.K fd ps ds)(hd:Vals dvs ds)(hx:Passes CX X E)(ha:PA X (e::es) t)(hdb:(x==("__debug__" : Str))=false:=by decide)(he:Ay (e::es) X.env=(false,eval e X.env)::Ay es X.env:=by rfl)(hpl:(Fp pos (Ay es X.env)).any (·.1)=false:=by rfl):
  PE X (.Call (.Name x p) (e::es) [] pos) (tCall sp dvs E t):=by
 intro pins s σ H Q I h;refine Ea (q2v I hg hm ?_ hdb);refine Ks I.ok.mod.kin hk (thn (ha pos pins s σ H _ I h) fun us s1 ⟨vs,H1,I1,r,q⟩=>⟨I1.kIn,?_⟩) he hpl;exact z8u F hr hb hd hx I1 r q
theorem z7d(F:FnOk X.prog X.w X.K X.mg X.base CX k f fd ps sp)(hr:Room k X.A)(hg:Gl X x)(hm:X.mg x=some (.ref f))(hk:Eo X.K (.ref f)=true)(hb:Binds X.K fd ps ds)(hd:Vals dvs ds)(hx:Passes CX X E)(hdb:(x==("__debug__" : Str))=false:=by decide):PE X (.Call (.Name x p) [] [] pos) (tCall sp dvs E tNil):=by
 intro pins s σ H Q I h;refine Ea (q2v I hg hm ?_ hdb);exact W.callWith_K0 I.kIn hk (z8u F hr hb hd hx I .nil h)
end
structure FnScope (N P:List Str) (sc:Scope):Prop where
 kind:sc.kind=.function
 co:sc.isCoroutine=false
 gen:sc.isGenerator=false
 nd:N.Nodup
 pre:N.take P.length=P
 par:∀x∈P,sc.names.lookup x=some .local\/sc.names.lookup x=some .cell
 nofree:∀y∈sc.names,y.2≠.free
theorem q9q{kindOf:Str->Option Az}:∀{binds:List (Str×Value)} {m:Str->Option Value},(∀v,(x,v)∉binds)->bindL kindOf binds m x=m x
 |[],_,_=>rfl
 |(n,v)::r,m,h=>by
  unfold bindL;rw[q9q fun w hw=>h w (Av _ hw)];split
  ·have:x≠n:=by rintro rfl;exact h v Bo
   simp[this]
  ·rfl
theorem q9r{kindOf:Str->Option Az}:∀{binds:List (Str×Value)} {m:Str->Option Value},(∀v,(x,v)∉binds)->bindC kindOf binds m x=m x
 |[],_,_=>rfl
 |(n,v)::r,m,h=>by
  unfold bindC;rw[q9r fun w hw=>h w (Av _ hw)];split
  ·rfl
  ·have:x≠n:=by rintro rfl;exact h v Bo
   simp[this]
theorem q9s{kindOf:Str->Option Az}{x:Str}{v:Value}:∀{P:List Str} {vs:List Value} {i:Nat} {m:Str->Option Value},P.Nodup->P[i]?=some x->vs[i]?=some v->kindOf x=some .local ->
  bindL kindOf (P.zip vs) m x=some v
 |[],_,_,_,_,h,_,_=>by simp at h
 |_::_,[],_,_,_,_,h,_=>by simp at h
 |p::P,w::vs,0,m,nd,h1,h2,hk=>by
  simp at h1 h2;subst h1;subst h2;show bindL kindOf ((p,w)::P.zip vs) m p=_;unfold bindL;rw[q9q fun v hv=>(Im.mp nd).1 (Lh hv).1,if_pos hk];simp
 |p::P,w::vs,i+1,m,nd,h1,h2,hk=>by
  show bindL kindOf ((p,w)::P.zip vs) m x=_;unfold bindL;exact q9s (i:=i) (Im.mp nd).2 (by simpa using h1) (by simpa using h2) hk
theorem q9t{kindOf:Str->Option Az}{x:Str}{v:Value}:∀{P:List Str} {vs:List Value} {i:Nat} {m:Str->Option Value},P.Nodup->P[i]?=some x->vs[i]?=some v->kindOf x≠some .local ->
  bindC kindOf (P.zip vs) m x=some v
 |[],_,_,_,_,h,_,_=>by simp at h
 |_::_,[],_,_,_,_,h,_=>by simp at h
 |p::P,w::vs,0,m,nd,h1,h2,hk=>by
  simp at h1 h2;subst h1;subst h2;show bindC kindOf ((p,w)::P.zip vs) m p=_;unfold bindC;rw[q9r fun v hv=>(Im.mp nd).1 (Lh hv).1,if_neg hk];simp
 |p::P,w::vs,i+1,m,nd,h1,h2,hk=>by
  show bindC kindOf ((p,w)::P.zip vs) m x=_;unfold bindC;exact q9t (i:=i) (Im.mp nd).2 (by simpa using h1) (by simpa using h2) hk
def start(N:List Str)(vs:List V):St:=vs.map some++List.replicate (N.length-vs.length) none
def cxOf(CX:CXT)(P:Program)(w:World)(K:Af)(mg:Str->Option Value)(base:Heap)(N:List Str)(qual:Str)(scope:Scope)(f:Addr)(cd:Value)(A:Around)(outer:List Env)(s:Ag)(H:Hp)(E:XK):Cx where
 prog:=P
 w:=w
 K:=K
 mg:=mg
 base:=base
 A:=A.deeper (Fy qual scope s.heap.objs.size f cd)
 N:=N
 s₀:=s
 H₀:=H
 env:=Fy qual scope s.heap.objs.size f cd
 outer:=outer
 stack:=Fy qual scope s.heap.objs.size f cd::outer
 ex:=[]
 calm:=true
 fn:=fun _=>true
 pn:=[]
 xe:=fun e s'=>wpAny (model P w) (A.deeper (Fy qual scope s.heap.objs.size f cd)) (leaving (Fy qual scope s.heap.objs.size f cd) e) (fun _ s''=>CX outer H s E e s'') (fun e' s''=>CX outer H s E e' s'') s'
theorem z2j{sc:Scope}(h:sc.names.lookup x=some .cell):∃c,(cellsFrom n sc.names []).lookup x=some c:=by
 have q:=Om sc.names n [] (.inl h);exact Ei.mp q
theorem z4x{K:Af}(S:FnScope N ps scope)(hd:A.handled=none)(e0:Env0 P w K mg base A outer s H)(hl:vs.length=ps.length)(r:Vals vs us)(x:InCallC s s.heap.objs.size (bindL (Fy qual scope s.heap.objs.size f cd).kindOf (ps.zip us) fun _=>none) (cellsFrom (s.heap.objs.size+1) scope.names []) (bindC (Fy qual scope s.heap.objs.size f cd).kindOf (ps.zip us) fun _=>none) s1):
  Inv (cxOf CX P w K mg base N qual scope f cd A outer s H E) [] (start N vs) H s1:=by
 have hpl:ps.length<=N.length:=by have:=congrArg List.length S.pre;rw[Bk] at this;lia
 obtain⟨h1,tk,rfl,hk⟩:=x.done;have noA:∀b:Addr,b∉(cxOf CX P w K mg base N qual scope f cd A outer s H E).ex:=fun b z=>absurd (show b∈([]:List Addr) from z) (by simp)
 refine⟨⟨e0.mod,S.kind,rfl,rfl,Ah _,fun y z c h1 h2=>?_,fun y hy=>?_,fun y c _ h=>?_,fun _=>hd,Around.frames_deeper e0.frames,.inr ⟨rfl,rfl⟩,fun b z=>absurd z (noA b),e0.bs,e0.bsz,fun b _ _=>noA b,fun b z=>absurd z (noA b),e0.funs,e0.frf⟩,
  rfl,e0.bare,Un.kept hk,⟨_,x.toInCall.ns,fun i y v h1 h2 h3=>?_⟩,fun y c h=>⟨_,x.cell y c h⟩,e0.hok.fresh (Ah _),fun y c h=>?_,fun p hp=>absurd (show p∈([]:List (Addr×Obj)) from hp) (by simp),e0.hok.kept hk,?_⟩
 ·exact name_of_addr x.apart (Ds h1) (Ds h2)
 ·have hy:scope.names.lookup y=some .cell\/scope.names.lookup y=some .free:=hy;rcases hy with hy|hy
  ·exact z2j hy
  ·exact absurd rfl (S.nofree _ (Ds hy))
 ·exact Ni (x.above y c (Ds h))
 ·have hi:i<vs.length:=by
   unfold start at h2;by_cases hi:i<vs.length
   ·exact hi
   ·rw[Bl (by simpa using hi)] at h2;rw[List.getElem?_replicate] at h2;split at h2<;>cases h2
  have ha:vs[i]?=some v:=by
   unfold start at h2;rw[Ba (by simpa using hi),Cy] at h2;cases e:vs[i]? with
   |none=>simp_all
   |some a=>grind
  obtain⟨u,hu,rv⟩:=r.get ha;have hp:ps[i]?=some y:=by
   rw[<- S.pre,Kt (by lia)];exact h1
  have ndP:ps.Nodup:=by rw[<- S.pre];exact S.nd.sublist (Fh _ _)
  refine⟨u,rv,?_⟩;rcases S.par y (Am hp) with k|k
  ·exact .inl ⟨k,q9s ndP hp hu k⟩
  ·obtain⟨c,e⟩:=z2j k;refine .inr ⟨.inl k,c,e,?_⟩;have q:=x.cell y c e;rw[q9t ndP hp hu (by show scope.names.lookup y≠_;rw[k];decide)] at q;exact q
 ·exact e0.hok.fresh (Ni (x.above y c (Ds h)))
 ·unfold start;show _=N.length;rw[Ae,Ai,Ly];lia
theorem fn_of{K:Af}{kV:Value}(lk:K.lookup f=some ⟨oc,od,.func (Hg name qual params body scope dV kV doc pm an cdv ct),osl⟩)(hcd:Ku K cdv qual=true)(S:FnScope N ps scope)(len:∀vs H Q E,sp vs H Q E->vs.length=ps.length)(hbody:∀(A:Around) (outer:List Env) (s:Ag) (H:Hp) (vs:List V) (Q:VK) (E:XK),Room k (A.deeper (Fy qual scope s.heap.objs.size f cdv))->sp vs H Q E ->
   ∃t,PSs (cxOf CX P w K mg base N qual scope f cdv A outer s H E) body t/\t { nx:=fun _ H'=>Q .non H',rt:=Q } (start N vs) H):
  FnOk P w K mg base CX (k+1) f (Hg name qual params body scope dV kV doc pm an cdv ct) ps sp:=by
 refine⟨len,fun A outer s H args us vs Q E hr e0 hb r hsp=>?_⟩;have hl:=len _ _ _ _ hsp;have KX:=e0.mod.kin.keeps fun b o e=>(e0.bs b o e).1;have lim:=e0.mod.nolimit.keeps fun b o e=>(e0.bs b o e).1;have hkind:∀y∈ps.zip us,scope.names.lookup y.1=some .local\/(scope.names.lookup y.1=some .cell/\((cellsFrom (s.heap.objs.size+1) scope.names []).lookup y.1).isSome=true):=fun⟨n,v⟩ hy=>by
  rcases S.par n (Lh hy).1 with q|q
  ·exact .inl q
  ·exact .inr ⟨q,Om _ _ _ (.inl q)⟩
 refine codeAny_call_function hr.depth (KX _ _ lk) rfl S.co S.gen rfl (W.codeRec_of KX hcd) (hb _ _ _ _ ?_);refine wpAny_newFunctionEnv_cells S.kind hkind fun env he s1 x=>?_;subst he;refine⟨lim.keeps x.toInCall.keep,codeAny_func ?_⟩;obtain⟨t,ht,hq⟩:=hbody A outer s H vs Q E (hr.deeper _) hsp;have I:Inv (cxOf CX P w K mg base N qual scope f cdv A outer s H E) [] (start N vs) H s1:=z4x S hr.hd e0 hl r x;refine Cc (ht [] s1 (start N vs) H _ I hq) (fun fl s' hs=>?_) fun e s' hs=>hs;have fin:∀{σ':St} {H':Hp} {v:V} {u:Value},Inv (cxOf CX P w K mg base N qual scope f cdv A outer s H E) [] σ' H' s'->RelV v u->Q v H'->CE outer P w H s Q u s' :=
  fun{σ' H' v u} J rv q=>⟨v,H',J.os,J.bare,J.base,J.hok,rv,q⟩
 cases fl with
 |ret u =>
  obtain⟨v,σ',H',J,rv,q⟩:=hs;exact fin J rv q
 |next =>
  obtain⟨σ',H',J,q⟩:=hs;exact fin (v:=V.non) J rfl q
 |brk =>
  obtain⟨_,_,_,q⟩:=hs;exact False.elim q
 |cont =>
  obtain⟨_,_,_,q⟩:=hs;exact False.elim q
open PySem PySem.Spec PyProof.Rows
section
variable{X:Cx}{x:Str}{p pos:Pos}{e:Expr}{es:List Expr}{t:TA}{id T:String}{r:List V->Hp->VK->Prop}
def tCB(r:List V->Hp->VK->Prop)(t:TA):TE:=fun σ H Q=>t σ H fun vs H1=>r vs H1 Q
theorem q0n(hc:CallR X (.builtin id) r)(hg:Gl X x)(hm:X.mg x=none)(hv:Eg x=some (.builtin id))(ha:PA X (e::es) t)(hn:x ≠ "__name__" := by decide)(hdb:(x==("__debug__" : Str))=false:=by decide)(he:Ay (e::es) X.env=(false,eval e X.env)::Ay es X.env:=by rfl)(hpl:(Fp pos (Ay es X.env)).any (·.1)=false:=by rfl):PE X (.Call (.Name x p) (e::es) [] pos) (tCB r t):=by
 intro pins s σ H Q I h;refine Ea (q4c I hg hm hv ?_ hn hdb);exact Io (thn (ha pos pins s σ H _ I h) fun us s1 ⟨vs,H1,I1,r1,q1⟩=>hc pins s1 σ H1 vs us Q I1 r1 q1) he hpl
theorem q1a(hc:CallR X (.type T) r)(hg:Gl X x)(hm:X.mg x=none)(hv:Eg x=some (.type T))(ha:PA X (e::es) t)(hn:x ≠ "__name__" := by decide)(hdb:(x==("__debug__" : Str))=false:=by decide)(he:Ay (e::es) X.env=(false,eval e X.env)::Ay es X.env:=by rfl)(hpl:(Fp pos (Ay es X.env)).any (·.1)=false:=by rfl):PE X (.Call (.Name x p) (e::es) [] pos) (tCB r t):=by
 intro pins s σ H Q I h;refine Ea (q4c I hg hm hv ?_ hn hdb);exact Ck (thn (ha pos pins s σ H _ I h) fun us s1 ⟨vs,H1,I1,r1,q1⟩=>hc pins s1 σ H1 vs us Q I1 r1 q1) he hpl
end
end L2
namespace HT
open PySem PyProof.Rows
section
variable{prog:Program}{w:World}{A:Around}{E:Value->Ag->Prop}{s:Ag}
def sIx(n d:Nat):Option Int->Nat
 |none=>d
 |some v=>if v<0 then(v+(n:Int)).toNat else min v.toNat n
theorem z4y(v:Int)(n d:Nat):(if v<0 then max (v+(n:Int)) 0 else min v (n:Int))=((sIx n d (some v):Nat):Int):=by
 show(if v<0 then max (v+(n:Int)) 0 else min v (n:Int))=(((if v<0 then(v+(n:Int)).toNat else min v.toNat n):Nat):Int)
 by_cases hv:v<0
 ·grind
 ·grind
theorem z3o(lo hi:Option Int)(n:Nat):Ke lo hi 1 (n:Int)=(((sIx n 0 lo:Nat):Int),((sIx n n hi:Nat):Int)):=by
 refine Prod.ext ?_ ?_
 ·cases lo with
  |none=>rfl
  |some v=>exact z4y v n 0
 ·cases hi with
  |none=>rfl
  |some v=>exact z4y v n n
theorem z3p(i j:Nat):Fj (i:Int) (j:Int) 1=j-i:=by
 unfold Fj;have h1:(1:Int)>0:=by lia
 simp only[h1,if_true,Int.ediv_one];split<;>lia
theorem q7j(p:Jr v o)(h:Q o s):wpAny (model prog w) A (Dz.Slice.slicePartIndex v) Q E s:=by
 cases p with
 |none=>exact slicePart_none h
 |int i t=>exact slicePart_int h
theorem q5n{lo:Option Int}{n:Nat}(hs:s.heap.IsSliceOf sl vl vu .none)(pl:Jr vl lo)(pu:Jr vu hi)(h:Q (((sIx n 0 lo:Nat):Int),1,sIx n n hi-sIx n 0 lo) s):wpAny (model prog w) A (Dz.Slice.sliceApplied (.ref sl) (pure (n:Int))) Q E s:=by
 obtain⟨os,hos,hcs,hds⟩:=id hs;refine Ac (Ac (Bm hos hds rfl (Ac (Bm hos hds rfl (Ac (Bm hos hds rfl (Aj ?_)))))));refine Ac (slicePart_none ?_);refine Ac (q7j pl (Ac (q7j pu (Ac (Aj ?_)))));show wpAny _ _ (match Ke lo hi 1 (n:Int) with|(lo,hi)=>pure (lo,(1:Int),Fj lo hi 1)) _ _ s;rw[z3o lo hi n];show wpAny _ _ (pure (((sIx n 0 lo:Nat):Int),(1:Int),Fj ((sIx n 0 lo:Nat):Int) ((sIx n n hi:Nat):Int) 1)) _ _ s;rw[z3p];exact Aj h
theorem z7e(xs:Array Value)(i k:Nat):((List.range k).filterMap fun(m:Nat)=>xs[((i:Int)+(m:Int)*1).toNat]?).toArray=((xs.toList.drop i).take k).toArray:=by
 have e:(fun(m:Nat)=>xs[((i:Int)+(m:Int)*1).toNat]?)=fun m=>xs[i+m]?:=by grind
 rw[e];have:=pick_run xs i k;rw[List.filterMap_map] at this;have e2:((fun x=>xs[x]?)∘fun x=>i+x)=fun m=>xs[i+m]?:=rfl;rw[e2] at this;rw[this]
theorem getItem_tuple_cut{lo:Option Int}(ht:IsTup s.heap t items)(hs:s.heap.IsSliceOf sl vl vu .none)(pl:Jr vl lo)(pu:Jr vu hi)(hw:¬(sIx items.size 0 lo=0/\sIx items.size items.size hi=items.size))(h:Q (.ref s.heap.objs.size) { s with heap:=s.heap.push { cls:=.type "tuple",data:=.seq ((items.toList.drop (sIx items.size 0 lo)).take (sIx items.size items.size hi-sIx items.size 0 lo)).toArray } })(hsz:items.size<=sizeLine):wpAny (model prog w) A (getItem (.ref t) (.ref sl)) Q E s:=by
 have htake:sizeOk (.seq ((items.toList.drop (sIx items.size 0 lo)).take (sIx items.size items.size hi-sIx items.size 0 lo)).toArray):=by
  show((items.toList.drop (sIx items.size 0 lo)).take (sIx items.size items.size hi-sIx items.size 0 lo)).toArray.size<=sizeLine;rw[Ar,Bk,Bx,Jg];lia
 obtain⟨os,hos,hcs,hds⟩:=id hs;have hTs:s.TypeIs (.ref sl) "slice" := ⟨os,hos,hcs⟩
 unfold getItem;try with_reducible refine Dp ?_
 refine Ac (wpAny_sequenceKey ht.typeIs (by decide) ?_);refine Ac (Dg ht.typeIs Fv
  (Dw Fv ht.typeIs entry_tuple_getitem ?_ (args_tuple_getitem _ _)))
 show wpAny _ _ (Dz.Tuple.tupleItemsOf (.ref t) >>= _) _ _ s;refine Ac (tupleItemsOf_ ht ?_);refine Ac (wpAny_typeOf hTs ?_);refine Ac (q5n hs pl pu ?_);have hno:¬((((sIx items.size 0 lo:Nat):Int)==0&&(1:Int)==1&&(sIx items.size items.size hi-sIx items.size 0 lo)==items.size)=true):=by grind
 show wpAny _ _ (if (((sIx items.size 0 lo:Nat):Int)==0&&(1:Int)==1&&(sIx items.size items.size hi-sIx items.size 0 lo)==items.size)=true then _ else _) _ _ s;rw[if_neg hno,z7e];first
  |exact Ac (Dq (Aj ⟨_,rfl,Aj h⟩) htake)
  |exact Ac (Dq (Ac (Aj (Aj ⟨_,rfl,Aj h⟩))) htake)
  |exact Ac (Ac (Dq (Aj (Aj ⟨_,rfl,Aj h⟩)) htake))
  |exact Ac (Ac (Dq (Aj ⟨_,rfl,Aj h⟩) htake))
end
end HT
namespace L2
open PySem PySem.Spec PyProof.Rows
abbrev TO:=St->Hp->(Option Int->Hp->Prop)->Prop
def PO(X:Cx)(e:Option Expr)(t:TO):Prop :=
 ∀(pins:List (Addr×Obj)) (s:Ag) (σ:St) (H:Hp) (Q:Option Int->Hp->Prop),Inv X pins σ H s->t σ H Q ->
  wpAny (model X.prog X.w) X.A (evalPart e X.env) (fun u s'=>∃o H',Inv X pins σ H' s'/\Jr u o/\Q o H') X.xe s
def tNoPart:TO:=fun _ H Q=>Q none H
def tPart(t:TE):TO:=fun σ H Q=>t σ H fun x H1=>∃i,x=.int i/\Q (some i) H1
section
variable{X:Cx}{e:Expr}{te:TE}{lo hi:Option Expr}{tl th:TO}{pos p2:Pos}
theorem q6f:PO X none tNoPart:=by
 intro pins s σ H Q I h;exact Aj ⟨none,H,I,.none,h⟩
theorem q1f(h:PE X e te):PO X (some e) (tPart te):=by
 intro pins s σ H Q I hw;refine thn (h pins s σ H _ I hw) fun u s1 ⟨x,H1,I1,r1,q1⟩=>?_;obtain⟨i,rfl,q⟩:=q1;obtain⟨t,rfl⟩:=r1;exact⟨some i,H1,I1,.int i t,q⟩
def SlR(X:Cx)(r:V->Option Int->Option Int->Hp->VK->Prop):Prop :=
 ∀(pins:List (Addr×Obj)) (s:Ag) (σ:St) (H:Hp) (x:V) (v vl vu:Value) (lo hi:Option Int) (sl:Addr) (Q:VK),Inv X pins σ H s->RelV x v->s.heap.IsSliceOf sl vl vu .none->Jr vl lo->Jr vu hi->r x lo hi H Q ->
  ∃T id,Kf (.type T) "__getitem__" = pure (some (.builtin id))/\s.TypeIs v T/\wpAny (model X.prog X.w) X.A (getItem v (.ref sl)) (EP X pins σ Q) X.xe s
theorem SlR.or(h:SlR X r)(h':SlR X r'):SlR X (fun x lo hi H Q=>r x lo hi H Q\/r' x lo hi H Q):=by
 intro pins s σ H x v vl vu lo hi sl Q I rx hs pl pu q;rcases q with q|q
 ·exact h pins s σ H x v vl vu lo hi sl Q I rx hs pl pu q
 ·exact h' pins s σ H x v vl vu lo hi sl Q I rx hs pl pu q
def tSl(r:V->Option Int->Option Int->Hp->VK->Prop)(te:TE)(tl th:TO):TE:=fun σ H Q=>te σ H fun x H1=>tl σ H1 fun l H2=>th σ H2 fun u H3=>r x l u H3 Q
theorem q1n{r:V->Option Int->Option Int->Hp->VK->Prop}(hr:SlR X r)(he:PE X e te)(hl:PO X lo tl)(hu:PO X hi th):PE X (.Subscript e (.Slice lo hi none p2) pos) (tSl r te tl th):=by
 intro pins s σ H Q I h;refine Pd (thn (he pins s σ H _ I h) fun v s1 ⟨x,H1,I1,r1,q1⟩=>?_);refine wpAny_Slice (thn (hl pins s1 σ H1 _ I1 q1) fun vl s2 ⟨l,H2,I2,pl,q2⟩=>thn (hu pins s2 σ H2 _ I2 q2) fun vu s3 ⟨u,H3,I3,pu,q3⟩=>?_);refine Aj ?_;have I4:Inv X pins σ H3 { s3 with heap:=s3.heap.push { cls:=.type "slice",data:=.fields #[vl,vu,.none] } }:=I3.kept (t':=s3.toks) fun b ob q=>Ad _ q;obtain⟨T,id,hT,ht,hg⟩:=hr pins { s3 with heap:=s3.heap.push { cls:=.type "slice",data:=.fields #[vl,vu,.none] } } σ H3 x v vl vu l u s3.heap.objs.size Q I4 r1 (Heap.IsSliceOf.new ..) pl pu q3;exact tail_any ht hT hg (by with_unfolding_all rfl)
def cutV(xs:List V)(lo hi:Option Int):List V:=(xs.drop (HT.sIx xs.length 0 lo)).take (HT.sIx xs.length xs.length hi-HT.sIx xs.length 0 lo)
theorem q6g(xs:List V)(lo hi:Option Int):(cutV xs lo hi).length<=xs.length:=by
 unfold cutV;rw[Bk,Bx];lia
def rSlT(K:Af):V->Option Int->Option Int->Hp->VK->Prop:=fun x lo hi H Q=>∃a xs,x=.ref a/\SqT K H a xs /\
 ¬(HT.sIx xs.length 0 lo=0/\HT.sIx xs.length xs.length hi=xs.length)/\∀p,H p=none->Q (.ref p) (upd H p (.tup (cutV xs lo hi)))
theorem sl_tup:SlR X (rSlT X.K):=by
 intro pins s σ H x v vl vu lo hi sl Q I rx hs pl pu h;obtain⟨a,xs,rfl,hx,hw,q⟩:=h;cases rx;obtain⟨its,r,ht,hz⟩:=I.tuple hx;have hlen:its.toArray.size=xs.length:=by rw[Ar];exact r.length.symm
 refine⟨"tuple",_,Fv.lookup,ht.typeIs,?_⟩;refine HT.getItem_tuple_cut ht hs pl pu (by rw[hlen];exact hw) ?_ (by rw[hlen];exact hz);rw[hlen];refine⟨.ref s.heap.objs.size,_,I.laid (t':=s.toks) (fun b ob q=>Ad _ q) (Ah _) ?_,rfl,q _ (I.hok.fresh (Ah _))⟩;exact⟨Aw (q6g xs lo hi) hz,_,(r.drop (HT.sIx xs.length 0 lo)).take (HT.sIx xs.length xs.length hi-HT.sIx xs.length 0 lo),IsTup.new _ _⟩
end
open PySem PySem.Spec PyProof.Rows
def ixN(n:Nat)(i:Int):Option Nat:=if 0<=i then(if i<n then some i.toNat else none) else if -(n:Int)<=i then some (i+n).toNat else none
def atI{α:Type}(xs:List α)(i:Int):Option α:=(ixN xs.length i).bind fun j=>xs[j]?
theorem z4z(h:ixN n i=some j):seqIndex? i n=some j/\j<n /\ -(n:Int)<=i/\i<n:=by
 unfold ixN at h;by_cases h0:0<=i
 ·rw[if_pos h0] at h;by_cases h1:i<n
  ·rw[if_pos h1] at h;have e:=Cf h;exact⟨by rw[Ln h0 h1,e],by lia,by lia,h1⟩
  ·grind
 ·rw[if_neg h0] at h;by_cases h1 : -(n:Int)<=i
  ·rw[if_pos h1] at h;have e:=Cf h;exact⟨by rw[seqIndex_neg (by lia) h1,e],by lia,h1,by lia⟩
  ·grind
theorem q8a{xs:List α}{v:α}(h:atI xs i=some v):∃j,seqIndex? i xs.length=some j/\xs[j]?=some v/\j<xs.length /\ -(xs.length:Int)<=i/\i<xs.length:=by
 unfold atI at h;cases e:ixN xs.length i with
 |none=>rw[e] at h;cases h
 |some j =>
  rw[e] at h;obtain⟨h1,h2,h3,h4⟩:=z4z e;exact⟨j,h1,h,h2,h3,h4⟩
theorem q1t{xs:List α}{j:Nat}{v:α}(h:xs[j]?=some v):atI xs (j:Int)=some v:=by
 have hj:=(Ak.mp h).1;have e:ixN xs.length (j:Int)=some j:=by
  unfold ixN;rw[if_pos (by lia),if_pos (by lia)];simp
 unfold atI;rw[e];exact h
def PlainIx(b:Expr):Prop:=∀o i,Lo b false o i=operate [o,i] (getItem o i)
def IxR(X:Cx)(r:R2):Prop :=
 ∀(value slice:Expr) (pins:List (Addr×Obj)) (s:Ag) (σ:St) (H:Hp) (x y:V) (v u:Value) (Q:VK),Inv X pins σ H s->RelV x v->RelV y u->r x y H Q ->
  Lo slice false v u=operate [v,u] (getItem v u)->wpAny (model X.prog X.w) X.A (subscriptTail value slice v u) (EP X pins σ Q) X.xe s
def MtR(X:Cx)(id:String)(r:V->List V->Hp->VK->Prop):Prop :=
 ∀(pins:List (Addr×Obj)) (s:Ag) (σ:St) (H:Hp) (x:V) (xs:List V) (v:Value) (us:List Value) (Q:VK),Inv X pins σ H s->RelV x v->Vals xs us->r x xs H Q ->
  wpAny (model X.prog X.w) X.A (call (.builtin id) (v::us)) (EP X pins σ Q) X.xe s
section
variable{X:Cx}{a b:Expr}{ta tb:TE}{pos:Pos}
theorem IxR.or(h:IxR X r)(h':IxR X r'):IxR X (fun x y H Q=>r x y H Q\/r' x y H Q):=by
 intro value slice pins s σ H x y v u Q I rx ry q hs;rcases q with q|q
 ·exact h value slice pins s σ H x y v u Q I rx ry q hs
 ·exact h' value slice pins s σ H x y v u Q I rx ry q hs
theorem MtR.or{id:String}(h:MtR X id r)(h':MtR X id r'):MtR X id (fun x xs H Q=>r x xs H Q\/r' x xs H Q):=by
 intro pins s σ H x xs v us Q I rx rs q;rcases q with q|q
 ·exact h pins s σ H x xs v us Q I rx rs q
 ·exact h' pins s σ H x xs v us Q I rx rs q
theorem q0x{r:R2}(hr:IxR X r)(ha:PE X a ta)(hb:PE X b tb)(hs:PlainIx b):PE X (.Subscript a b pos) (tOp r ta tb):=by
 intro pins s σ H Q I h;exact Pd (binT ha hb I h fun v u s2 x y H2 I2 rx ry q=>hr a b pins s2 σ H2 x y v u Q I2 rx ry q (hs _ _))
def rIxL(K:Af):R2:=fun x y H Q=>∃p xs i v,x=.ref p/\y=.int i/\SqL K H p xs/\atI xs i=some v/\Q v H
def rIxT(K:Af):R2:=fun x y H Q=>∃p xs i v,x=.ref p/\y=.int i/\SqT K H p xs/\atI xs i=some v/\Q v H
def rIxS:R2:=fun x y H Q=>∃z i c,x=.str z/\y=.int i/\z.length<=sizeLine/\atI z.cps.toList i=some c/\Q (.str ⟨#[c]⟩) H
theorem ix_list:IxR X (rIxL X.K):=by
 intro value slice pins s σ H x y v u Q I rx ry h hs;obtain⟨p,xs,i,z,rfl,rfl,hq,he,q⟩:=h;cases rx;obtain⟨t,rfl⟩:=ry;obtain⟨its,r,pl,hz⟩:=I.list hq;obtain⟨j,h1,h2,h3,h4,h5⟩:=q8a he;obtain⟨w,ew,rw'⟩:=r.get h2;have hl:=r.length;have hn:=line63;have fin:EP X pins σ Q w s:=⟨z,H,I,rw',q⟩
 by_cases h0:0<=i
 ·have hj:i.toNat=j:=by
   rw[Ln h0 h5] at h1;exact Cf h1
  exact item_listR pl.isList h0 (by lia) (by rw[hj];simpa using ew) fin hs
 ·have hj:(i+(its.toArray.size:Int)).toNat=j:=by
   rw[seqIndex_neg (by lia) h4] at h1;rw[Ar,<- hl];exact Cf h1
  exact Lp pl.isList.typeIs slot_list_getitem.lookup
   (Lq pl.isList (by lia) (by rw[Ar]<;>lia) (by lia) (by rw[hj];simpa using ew) ⟨rfl,fin⟩) hs
theorem ix_tup:IxR X (rIxT X.K):=by
 intro value slice pins s σ H x y v u Q I rx ry h hs;obtain⟨p,xs,i,z,rfl,rfl,hq,he,q⟩:=h;cases rx;obtain⟨t,rfl⟩:=ry;obtain⟨its,r,pl,hz⟩:=I.tuple hq;obtain⟨j,h1,h2,h3,h4,h5⟩:=q8a he;obtain⟨w,ew,rw'⟩:=r.get h2;have hl:=r.length;have hn:=line63;have fin:EP X pins σ Q w s:=⟨z,H,I,rw',q⟩
 exact Lp pl.typeIs slot_tuple_getitem.lookup
  (getItem_tuple pl (by lia) (by lia) (by rw[Ar,<- hl];exact h1) (by simpa using ew) ⟨rfl,fin⟩) hs
theorem ix_str:IxR X rIxS:=by
 intro value slice pins s σ H x y v u Q I rx ry h hs;obtain⟨z,i,c,rfl,rfl,hz,he,q⟩:=h;obtain⟨t,rfl⟩:=rx;obtain⟨t',rfl⟩:=ry;obtain⟨j,h1,h2,h3,h4,h5⟩:=q8a he;have hl:z.cps.toList.length=z.length:=by simp[Str.length]
 rw[hl] at h1 h4 h5;have hn:=line63;exact tail_any (Pe s z t) slot_str_getitem.lookup (getItem_str (by
  have e1:decide (i < -(2^63:Int))=false:=decide_eq_false (by lia);have e2:decide (i>=2^63)=false:=decide_eq_false (by lia);rw[e1,e2,Bool.or_false]) (by rw[h1];simpa using h2) ⟨.str ⟨#[c]⟩,H,I.tok _,⟨_,rfl⟩,q⟩) hs
def rIx(K:Af):R2:=fun x y H Q=>rIxL K x y H Q\/rIxT K x y H Q\/rIxS x y H Q
theorem ix_seq:IxR X (rIx X.K):=ix_list.or (ix_tup.or ix_str)
theorem z3q(its:List Value)(n j:Nat)(u:Value):Kg (·.setIfInBounds j u) { cls:=.type "list",data:=.seq its.toArray n }={ cls:=.type "list",data:=.seq (its.set j u).toArray n }:=by
 simp[Kg]
theorem Inv.lst{pins:List (Addr×Obj)}{σ:St}{H:Hp}{s:Ag}{p:Addr}{xs:List V}(I:Inv X pins σ H s)(h:H p=some (.lst xs)):
  ∃(its:List Value) (n:Nat),Vals xs its/\s.heap.get? p=some { cls:=.type "list",data:=.seq its.toArray n }/\xs.length<=sizeLine:=by
 obtain⟨z,its,n,r,e⟩:=I.hok p _ h;exact⟨its,n,r,e,z⟩
theorem Inv.lstUpd{σ:St}{its:List Value}(I:Inv X pins σ H s)(h:H p=some (.lst xs))(ho:s.heap.get? p=some { cls:=.type "list",data:=.seq its.toArray n })(hf:f { cls:=.type "list",data:=.seq its.toArray n }={ cls:=.type "list",data:=.seq its'.toArray n' })(r:Vals ys its')(hz:ys.length<=sizeLine)(t:Nat):
  Inv X pins σ (upd H p (.lst ys)) { s with heap:=s.heap.update p f,toks:=t }:=by
 have e:(s.heap.update p f).get? p=some { cls:=.type "list",data:=.seq its'.toArray n' }:=by
  rw[Dl f ho (by rw[hf]<;>rfl),hf]
 refine I.write (by rw[h];trivial) (.inl rfl) (fun b u hb q=>(Bz _ _ (Cu hb)).trans q) ⟨_,e⟩ ?_;exact⟨hz,its',n',r,e⟩
def rSetL:V->V->V->Hp->(Hp->Prop)->Prop:=fun o i v H Q=>∃p xs k j,o=.ref p/\i=.int k/\H p=some (.lst xs)/\ixN xs.length k=some j/\Q (upd H p (.lst (xs.set j v)))
theorem q4h:PSet X rSetL:=by
 intro pins s σ H o i v ov iv u Q I ro ri rv h;obtain⟨p,xs,k,j,rfl,rfl,hp,hj,q⟩:=h;cases ro;obtain⟨t,rfl⟩:=ri;obtain⟨its,n,r,ho,hz⟩:=I.lst hp;obtain⟨h1,h2,h3,h4⟩:=z4z hj;have hl:=r.length;have hn:=line63;have I':Inv X pins σ (upd H p (.lst (xs.set j v))) { s with heap:=s.heap.update p (Kg (·.setIfInBounds j u)) } :=
  I.lstUpd hp ho (z3q its n j u) (r.set rv j) (by rw[List.length_set];exact hz) s.toks
 by_cases h0:0<=k
 ·have hk:k.toNat=j:=by
   rw[Ln h0 h4] at h1;exact Cf h1
  exact W.ki_setAt ho h0 (by lia) (by rw[Ar,<- hl];exact h4) (by rw[hk];exact⟨_,I',q⟩)
 ·have hk:(k+(its.toArray.size:Int)).toNat=j:=by
   rw[seqIndex_neg (by lia) h3] at h1;rw[Ar,<- hl];exact Cf h1
  exact W.ki_setBack ho (by lia) (by rw[Ar,<- hl];exact h3) (by lia) (by rw[hk];exact⟨_,I',q⟩)
theorem q9u(lo hi:Option Int)(n:Nat):(Hb lo hi none n).1=((HT.sIx n 0 lo:Nat):Int)/\(Hb lo hi none n).2.1=((HT.sIx n n hi:Nat):Int)/\(Hb lo hi none n).2.2=1:=by
 refine⟨?_,?_,rfl⟩
 ·cases lo with
  |none=>simp[Hb,HT.sIx]
  |some i =>
   simp only[Hb,HT.sIx,Oo,show(1:Int)>0 by decide,if_true];by_cases h:i<0
   ·simp only[h,if_true]<;>lia
   ·simp only[h,if_false]<;>lia
 ·cases hi with
  |none=>simp[Hb,HT.sIx]
  |some i =>
   simp only[Hb,HT.sIx,Oo,show(1:Int)>0 by decide,if_true];by_cases h:i<0
   ·simp only[h,if_true]<;>lia
   ·simp only[h,if_false]<;>lia
theorem q8b(its:List Value)(lo hi:Option Int):slicePick its.toArray lo hi none=((its.drop (HT.sIx its.length 0 lo)).take (HT.sIx its.length its.length hi-HT.sIx its.length 0 lo)).toArray:=by
 obtain⟨h1,h2,h3⟩:=q9u lo hi its.toArray.size;unfold slicePick;rw[h1,h2,h3];simp only[sliceRange_one,pick_run,Ar]<;>rfl
def rSlL(K:Af):V->Option Int->Option Int->Hp->VK->Prop:=fun x lo hi H Q=>∃a xs,x=.ref a/\SqL K H a xs/\∀p,H p=none->Q (.ref p) (upd H p (.lst (cutV xs lo hi)))
theorem sl_list:SlR X (rSlL X.K):=by
 intro pins s σ H x v vl vu lo hi sl Q I rx hs pl pu h;obtain⟨a,xs,rfl,hx,q⟩:=h;cases rx;obtain⟨its,r,ht,hz⟩:=I.list hx;have hlen:=r.length;refine⟨"list",_,slot_list_getitem.lookup,ht.isList.typeIs,?_⟩;refine wpAny_getItem_list_slice ht.isList hs pl pu .none (by simp) ?_ (by rw[Ar]<;>lia);rw[q8b,<- hlen];refine⟨.ref s.heap.objs.size,_,I.laid (t':=s.toks) (fun b ob q=>Ad _ q) (Ah _) ?_,rfl,q _ (I.hok.fresh (Ah _))⟩;exact⟨Aw (q6g xs lo hi) hz,_,0,(r.drop (HT.sIx xs.length 0 lo)).take (HT.sIx xs.length xs.length hi-HT.sIx xs.length 0 lo),As _ rfl⟩
def flatV:V->Bool
 |.non=>true
 |.bl _=>true
 |.int _=>true
 |.str _=>true
 |_=>false
def eqV:V->V->Bool
 |.non,.non=>true
 |.bl a,.bl b=>a==b
 |.bl a,.int b=>(if a then 1 else 0)==b
 |.int a,.bl b=>a==(if b then 1 else 0)
 |.int a,.int b=>a==b
 |.str a,.str b=>a==b
 |_,_=>false
theorem eqAt_V(ry:RelV y u)(rx:RelV x v)(fy:flatV y=true)(fx:flatV x=true):Di A s u v (eqV y x):=by
 cases y with
 |non =>
  cases ry;cases x with
  |non=>cases rx;exact Di.same _
  |bl b=>cases rx;exact Di.none_bool b
  |int b=>obtain⟨t,rfl⟩:=rx;exact Di.none_int b t
  |str b=>obtain⟨t,rfl⟩:=rx;exact Di.none_str b t
  |_=>exact absurd (show false=true from fx) Bf
 |bl a =>
  cases ry;cases x with
  |non=>cases rx;exact Di.bool_none a
  |bl b=>cases rx;exact Di.bool_bool a b
  |int b=>obtain⟨t,rfl⟩:=rx;exact Di.bool_int a b t
  |str b=>obtain⟨t,rfl⟩:=rx;exact Di.bool_str a b t
  |_=>exact absurd (show false=true from fx) Bf
 |int a =>
  obtain⟨t',rfl⟩:=ry;cases x with
  |non=>cases rx;exact Di.int_none a t'
  |bl b=>cases rx;exact Di.int_bool a t' b
  |int b=>obtain⟨t,rfl⟩:=rx;exact Di.int_int a t' b t
  |str b=>obtain⟨t,rfl⟩:=rx;exact Nd a t' b t
  |_=>exact absurd (show false=true from fx) Bf
 |str a =>
  obtain⟨t',rfl⟩:=ry;cases x with
  |non=>cases rx;exact Di.str_none a t'
  |bl b=>cases rx;exact Di.str_bool a t' b
  |int b=>obtain⟨t,rfl⟩:=rx;exact Nf a t' b t
  |str b=>obtain⟨t,rfl⟩:=rx;exact Di.str_str a t' b t
  |_=>exact absurd (show false=true from fx) Bf
 |_=>exact absurd (show false=true from fy) Bf
def eqU(x:V)(u:Value):Bool:=match u with
 |.none=>eqV .non x
 |.bool b=>eqV (.bl b) x
 |.int i _=>eqV (.int i) x
 |.str z _=>eqV (.str z) x
 |_=>false
theorem z8v(r:RelV y u)(f:flatV y=true):eqU x u=eqV y x:=by
 cases y with
 |non=>cases r;rfl
 |bl b=>cases r;rfl
 |int i=>obtain⟨t,rfl⟩:=r;rfl
 |str z=>obtain⟨t,rfl⟩:=r;rfl
 |_=>exact absurd (show false=true from f) Bf
theorem q6h{x:V}:∀{xs:List V} {us:List Value},Vals xs us->xs.all flatV=true->us.any (eqU x)=xs.any fun y=>eqV y x
 |_,_,.nil,_=>rfl
 |y::xs,u::us,.cons r t,f=>by
  rw[List.all_cons,Gq] at f;rw[Mx,Mx,z8v r f.1,q6h t f.2]
theorem q4i{A:Around}{s:Ag}{x:V}{v:Value}(rx:RelV x v)(fx:flatV x=true):∀{xs:List V} {us:List Value},Vals xs us->xs.all flatV=true->∀u∈us,Di A s u v (eqU x u)
 |_,_,.nil,_=>fun u hu=>by cases hu
 |y::xs,u::us,.cons r t,f=>fun u' hu=>by
  rw[List.all_cons,Gq] at f;rcases Bd.mp hu with rfl|hu
  ·rw[z8v r f.1];exact eqAt_V r rx f.1 fx
  ·exact q4i rx fx t f.2 u' hu
def inV(x:V)(xs:List V):Bool:=xs.any fun y=>eqV y x
def rIn(K:Af)(neg:Bool):R2:=fun x y H Q=>∃p xs,y=.ref p/\(SqL K H p xs\/SqT K H p xs)/\flatV x=true/\xs.all flatV=true/\Q (.bl (if neg then !inV x xs else inV x xs)) H
theorem z5a:OpR X (Cd .In) (rIn X.K false):=by
 intro pins s σ H x y v u Q I rx ry h;obtain⟨p,xs,rfl,hq,fx,fs,q⟩:=h;cases ry;rcases hq with hq|hq
 ·obtain⟨its,r,pl,hz⟩:=I.list hq;refine SeqAt.in_listAt (eqU x) pl.isList (fun w hw=>q4i rx fx r fs w (by simpa using hw)) ⟨.bl _,H,I,rfl,?_⟩;rw[show its.toArray.any (eqU x)=its.any (eqU x) by simp,q6h r fs];exact q
 ·obtain⟨its,r,pl,hz⟩:=I.tuple hq;refine SeqAt.in_tupleAt (eqU x) pl (fun w hw=>q4i rx fx r fs w (by simpa using hw)) ⟨.bl _,H,I,rfl,?_⟩;rw[show its.toArray.any (eqU x)=its.any (eqU x) by simp,q6h r fs];exact q
theorem q9v:OpR X (Cd .NotIn) (rIn X.K true):=by
 intro pins s σ H x y v u Q I rx ry h;obtain⟨p,xs,rfl,hq,fx,fs,q⟩:=h;cases ry;rcases hq with hq|hq
 ·obtain⟨its,r,pl,hz⟩:=I.list hq;refine SeqAt.notIn_listAt (eqU x) pl.isList (fun w hw=>q4i rx fx r fs w (by simpa using hw)) ⟨.bl _,H,I,rfl,?_⟩;rw[show its.toArray.any (eqU x)=its.any (eqU x) by simp,q6h r fs];exact q
 ·obtain⟨its,r,pl,hz⟩:=I.tuple hq;refine SeqAt.notIn_tupleAt (eqU x) pl (fun w hw=>q4i rx fx r fs w (by simpa using hw)) ⟨.bl _,H,I,rfl,?_⟩;rw[show its.toArray.any (eqU x)=its.any (eqU x) by simp,q6h r fs];exact q
theorem op_notIn_str:OpR X (Cd .NotIn) (fun x y H Q=>∃i j,x=.str i/\y=.str j/\Q (.bl (!(!(En j i 0 j.length 1).isEmpty))) H):=by
 intro pins s σ H x y v u Q I rx ry h;obtain⟨i,j,rfl,rfl,q⟩:=h;obtain⟨t,rfl⟩:=rx;obtain⟨t',rfl⟩:=ry;exact notIn_str ⟨.bl _,H,I,rfl,q⟩
theorem CallR.or(h:CallR X f r)(h':CallR X f r'):CallR X f (fun xs H Q=>r xs H Q\/r' xs H Q):=by
 intro pins s σ H xs us Q I rs q;rcases q with q|q
 ·exact h pins s σ H xs us Q I rs q
 ·exact h' pins s σ H xs us Q I rs q
theorem q9w:CallR X (.type "list") (fun xs H Q=>∃p ys,xs=[.ref p]/\(SqL X.K H p ys\/SqT X.K H p ys)/\∀l,H l=none->Q (.ref l) (upd H l (.lst ys))):=by
 intro pins s σ H xs us Q I r h;obtain⟨p,ys,rfl,hq,q⟩:=h;obtain⟨u,rfl,rx⟩:=vals1 r;cases rx;have fin:∀(its:List Value),Vals ys its->ys.length<=sizeLine->∀(h':Heap) (c':Nat),(∀b o',s.heap.get? b=some o'->h'.get? b=some o') ->
   h'.get? s.heap.objs.size=some { cls:=.type "list",dict:=none,data:=.seq its.toArray c',slots:=#[] }->EP X pins σ Q (.ref s.heap.objs.size) { s with heap:=h' }:=fun its r' hz h' c' kp e =>
  ⟨.ref s.heap.objs.size,_,I.laid (t':=s.toks) kp (Ah _) (show ObjOk X.prog X.w _ h' _ (.lst ys) from⟨hz,its,c',r',e⟩),rfl,q _ (I.hok.fresh (Ah _))⟩
 rcases hq with hq|hq
 ·obtain⟨its,r',pl,hz⟩:=I.list hq;have hlen:=r'.length;obtain⟨o,ho,hc,n,hd⟩:=pl.isList;exact call_list_seq p (.inl rfl) ho hc hd (fun h' c' kp e=>fin its r' hz h' c' kp e) (by simp only[Ar]<;>lia)
 ·obtain⟨its,r',pl,hz⟩:=I.tuple hq;have hlen:=r'.length;obtain⟨o,ho,hc,n,hd⟩:=pl;exact call_list_seq p (.inr rfl) ho hc hd (fun h' c' kp e=>fin its r' hz h' c' kp e) (by simp only[Ar]<;>lia)
theorem q8c:CallR X (.type "tuple") (fun xs H Q=>∃p ys,xs=[.ref p]/\((SqL X.K H p ys/\∀l,H l=none->Q (.ref l) (upd H l (.tup ys)))\/(SqT X.K H p ys/\Q (.ref p) H))):=by
 intro pins s σ H xs us Q I r h;obtain⟨p,ys,rfl,h⟩:=h;obtain⟨u,rfl,rx⟩:=vals1 r;cases rx;rcases h with⟨hq,q⟩|⟨hq,q⟩
 ·obtain⟨its,r',pl,hz⟩:=I.list hq;have hlen:=r'.length;refine call_tuple_list pl.isList (fun h' kp=>?_) (by simp only[Ar]<;>lia);have I1:Inv X pins σ H { s with heap:=h' }:=I.kept (t':=s.toks) kp;have I2:Inv X pins σ (upd H h'.objs.size (.tup ys)) { s with heap:=h'.push { cls:=.type "tuple",data:=.seq its.toArray } } :=
   I1.laid (t':=s.toks) (fun b o e=>Ad _ e) (Ah _) (show ObjOk X.prog X.w _ _ _ (.tup ys) from⟨hz,its,r',IsTup.new _ _⟩)
  exact⟨.ref h'.objs.size,_,I2,rfl,q _ (I1.hok.fresh (Ah _))⟩
 ·obtain⟨its,r',pl,hz⟩:=I.tuple hq;exact call_tuple_same pl ⟨.ref p,H,I,rfl,q⟩
def tyV(K:Af)(T:String)(x:V)(H:Hp):Prop:=match x with
 |.str _=>T = "str"
 |.int _=>T = "int"
 |.ref p=>(T = "list" /\ ∃xs,SqL K H p xs)\/(T = "tuple" /\ ∃o,K.lookup p=some o/\o.cls=.type "tuple" /\ o.dict=none) \/
   (T = "dict" /\ ((∃kvs,H p=some (.dK kvs))\/∃kvs,H p=some (.dT kvs)))\/(T = "set" /\ ∃S n,H p=some (.set S n))
 |_=>False
theorem z8w{σ:St}(I:Inv X pins σ H s)(r:RelV x v)(ty:tyV X.K T x H):
  s.TypeIs v T/\∀a,v=.ref a->∃ob,s.heap.get? a=some ob/\ob.dict=none:=by
 cases x with
 |str z =>
  obtain⟨t,rfl⟩:=r;cases(show T = "str" from ty);exact⟨Pe s z t,fun _ e=>nomatch e⟩
 |int i =>
  obtain⟨t,rfl⟩:=r;cases(show T = "int" from ty);exact⟨Pf s i t,fun _ e=>nomatch e⟩
 |ref p =>
  cases r;rcases ty with⟨rfl,xs,hq⟩|⟨rfl,o,hk,hc,hd⟩|⟨rfl,hk⟩|⟨rfl,S,n,hk⟩
  ·obtain⟨its,_,pl,_⟩:=I.list hq;refine⟨pl.isList.typeIs,fun a e=>?_⟩;cases e;obtain⟨o,n,e,c,hd,_⟩:=pl;exact⟨o,e,hd⟩
  ·refine⟨⟨o,I.kIn p o hk,hc⟩,fun a e=>?_⟩;cases e;exact⟨o,I.kIn _ o hk,hd⟩
  ·have z:∃o,s.heap.get? p=some o/\o.ExactDict:=by
    rcases hk with⟨kvs,hk⟩|⟨kvs,hk⟩
    ·obtain⟨_,_,_,_,o,_,_,e,ex,_⟩:=I.hok p _ hk;exact⟨o,e,ex⟩
    ·obtain⟨_,_,_,_,o,_,_,e,ex,_⟩:=I.hok p _ hk;exact⟨o,e,ex⟩
   obtain⟨o,e,ex⟩:=z;refine⟨⟨o,e,ex.1⟩,fun a e2=>?_⟩;cases e2;exact⟨o,e,ex.2.1⟩
  ·obtain⟨o,_,_,_,e,ex,_⟩:=I.hok p _ hk;refine⟨⟨o,e,ex.1⟩,fun a e2=>?_⟩;cases e2;exact⟨o,e,ex.2.1⟩
 |_=>exact False.elim ty
def tBM0(K:Af)(T:String)(r:V->List V->Hp->VK->Prop)(to:TE):TE:=fun σ H Q=>to σ H fun x H1=>tyV K T x H1/\r x [] H1 Q
def tBM(K:Af)(T:String)(r:V->List V->Hp->VK->Prop)(to:TE)(t:TA):TE:=fun σ H Q=>to σ H fun x H1=>tyV K T x H1/\t σ H1 fun xs H2=>r x xs H2 Q
variable{o e:Expr}{es:List Expr}{to:TE}{t:TA}{name:Str}{apos cpos:Pos}{T id:String}{r:V->List V->Hp->VK->Prop}
theorem pe_bm0(pa:Mp T)(slot:Slot T name id)(hty:typeOf (.builtin id)=pure (.type "method_descriptor"))(hm:MtR X id r)(ho:PE X o to)(hbase:Gy o name X.env (eval o X.env)=eval o X.env:=by rfl)(hline:(apos.endLine==cpos.line)=true:=by rfl):PE X (.Call (.Attribute o name apos) [] [] cpos) (tBM0 X.K T r to):=by
 intro pins s σ H Q I h;refine wpAny_Call_method0_late hbase hline (thn (ho pins s σ H _ I h) fun v s1 ⟨x,H1,I1,r1,ty,q1⟩=>?_);obtain⟨h1,h2⟩:=z8w I1 r1 ty;exact⟨T,id,pa,slot,hty,h1,h2,Lr rfl (PySem.evalArgs_none (hm pins s1 σ H1 x [] v [] Q I1 r1 .nil q1))⟩
theorem pe_bm(pa:Mp T)(slot:Slot T name id)(hty:typeOf (.builtin id)=pure (.type "method_descriptor"))(hm:MtR X id r)(ho:PE X o to)(ha:PA X (e::es) t)(hbase:Gy o name X.env (eval o X.env)=eval o X.env:=by rfl)(hfew:((Fp cpos (Ay (e::es) X.env)).all (fun x => !x.1)&&(backToKw cpos (Oj [] X.env)).all (fun x=>x.1.isSome)
   && decide ((e::es).length+([]:List Pn).length+(if ([]:List Pn).isEmpty then 0 else 1)<30))=true:=by rfl)(hline:(apos.endLine==cpos.line)=true:=by rfl)(hs:Ay (e::es) X.env=(false,eval e X.env)::Ay es X.env:=by rfl)(hplain:(Fp cpos (Ay es X.env)).any (·.1)=false:=by rfl):
  PE X (.Call (.Attribute o name apos) (e::es) [] cpos) (tBM X.K T r to t):=by
 intro pins s σ H Q I h;refine wpAny_Call_method_late hbase hfew hline rfl (thn (ho pins s σ H _ I h) fun v s1 ⟨x,H1,I1,r1,ty,q1⟩=>?_);obtain⟨h1,h2⟩:=z8w I1 r1 ty;refine⟨T,id,pa,slot,hty,h1,h2,?_⟩;have hA:=ha cpos pins s1 σ H1 _ I1 q1;rw[hs] at hA ⊢;refine Lr (by show(false||(Fp cpos (Ay es X.env)).any (·.1))=false;rw[hplain]<;>rfl) (Calls.evalArgs_plain ?_);exact thn hA fun us s2 ⟨vs,H2,I2,r2,q2⟩=>hm pins s2 σ H2 x vs v us Q I2 r1 r2 q2
end
open PySem PySem.Spec PyProof.Rows
def MtM(X:Cx)(id:String)(r:V->List V->Hp->VK->Prop):Prop :=
 ∀(pins:List (Addr×Obj)) (s:Ag) (σ:St) (H:Hp) (x:V) (xs:List V) (v:Value) (us:List Value) (Q:VK),Inv X pins σ H s->RelV x v->Vals xs us->r x xs H Q ->
  wpAny (model X.prog X.w) X.A (call (.builtin id) (v::us)) (EP X pins σ Q) X.xe s
theorem Vals.one:∀{x:V} {us:List Value},Vals [x] us->∃u,us=[u]/\RelV x u
 |_,_,.cons r .nil=>⟨_,rfl,r⟩
theorem Vals.two:∀{x y:V} {us:List Value},Vals [x,y] us->∃u v,us=[u,v]/\RelV x u/\RelV y v
 |_,_,_,.cons r (.cons q .nil)=>⟨_,_,rfl,r,q⟩
theorem Vals.zero:∀{us:List Value},Vals [] us->us=[]
 |_,.nil=>rfl
theorem Vals.dropLast(h:Vals xs us):Vals xs.dropLast us.dropLast:=by
 induction h with
 |nil=>exact .nil
 |cons r t ih =>
  cases t with
  |nil=>exact .nil
  |cons q t'=>exact .cons r ih
theorem Vals.reverse(h:Vals xs us):Vals xs.reverse us.reverse:=by
 induction h with
 |nil=>exact .nil
 |cons r t ih=>rw[Ob,Ob];exact Vals.append ih (.cons r .nil)
theorem Vals.rep{xs:List V}{us:List Value}(h:Vals xs us):∀k:Nat,Vals (List.replicate k xs).flatten (List.replicate k us).flatten
 |0=>.nil
 |k+1=>by
  rw[Ji,Ji,Kb,Kb];exact Vals.append h (Vals.rep h k)
theorem q9x(its:List Value):∀(k:Nat) (acc:List Value),
  List.foldl (fun x1 x2=>x1++x2) acc.toArray (List.replicate k its.toArray)=(acc++(List.replicate k its).flatten).toArray
 |0,acc=>by simp
 |k+1,acc=>by
  have e:acc.toArray++its.toArray=(acc++its).toArray:=by simp
  have e2:(acc++its)++(List.replicate k its).flatten=acc++(List.replicate (k+1) its).flatten:=by grind
  rw[<- e2,<- q9x its k (acc++its),<- e,Ji,Li]
section
variable{X:Cx}{pins:List (Addr×Obj)}{σ:St}{H:Hp}{s:Ag}{l b:Addr}{xs ys zs:List V}
theorem Inv.lset{its:List Value}(I:Inv X pins σ H s)(hH:H l=some (.lst xs))(e:s.heap.get? l=some { cls:=.type "list",data:=.seq its.toArray n })(hf:f its.toArray=its'.toArray)(hv:Vals ys its')(hz:ys.length<=sizeLine):
  Inv X pins σ (upd H l (.lst ys)) { s with heap:=s.heap.update l (Kg f),toks:=t' }:=by
 have q:=PySem.IsL.update e f;rw[hf] at q;refine I.write (by rw[hH];exact trivial) (.inl rfl) (fun b' u hb hu=>(Bz s.heap (Kg f) (Cu hb)).trans hu) ⟨_,q⟩ ?_;exact⟨hz,its',_,hv,q⟩
theorem Inv.lnew(I:Inv X pins σ H s)(hv:Vals ys its)(hz:ys.length<=sizeLine):
  Inv X pins σ (upd H s.heap.objs.size (.lst ys)) { s with heap:=s.heap.push { cls:=.type "list",data:=.seq its.toArray },toks:=t' } :=
 I.laid (fun _ _ q=>Ad _ q) (Ah _) ⟨hz,its,0,hv,As _ rfl⟩
theorem Inv.fresh(I:Inv X pins σ H s):H s.heap.objs.size=none:=I.hok.fresh (Ah _)
theorem Inv.lstM(I:Inv X pins σ H s)(hH:H l=some (.lst xs)):xs.length<=sizeLine/\∃(its:List Value) (n:Nat),Vals xs its/\xs.length=its.length/\s.heap.get? l=some { cls:=.type "list",data:=.seq its.toArray n }:=by
 obtain⟨z,its,n,r,e⟩:=I.hok l _ hH;exact⟨z,its,n,r,r.length,e⟩
theorem notLongL(h:n<=sizeLine):Hh n=false:=by
 exact decide_eq_false (by lia)
end
section
variable{X:Cx}
def rAppend:V->List V->Hp->VK->Prop:=fun x vs H Q=>∃l xs y,x=.ref l/\vs=[y]/\H l=some (.lst xs)/\xs.length<sizeLine/\Q .non (upd H l (.lst (xs++[y])))
theorem q1j:MtM X "list.append" rAppend:=by
 intro pins s σ H x vs v us Q I rx rv h;obtain⟨l,xs,y,rfl,rfl,hH,hz,q⟩:=h;cases rx;obtain⟨u,rfl,ru⟩:=rv.one;obtain⟨z,its,n,r,hl,e⟩:=I.lstM hH;refine Ip F.slot_list_append ⟨_,e,rfl⟩ F.entry_list_append (F.args_list_append_2 _ _) (PySem.list_append l its.toArray n u (by rw[Ar];lia)) ⟨e,?_⟩;refine⟨.non,_,I.lset (its':=its++[u]) hH e (by simp) (r.append (.cons ru .nil)) ?_,rfl,q⟩;rw[Ae,Aq];lia
def rExtend:V->List V->Hp->VK->Prop:=fun x vs H Q=>∃l b xs zs,x=.ref l/\vs=[.ref b]/\H l=some (.lst xs)/\H b=some (.lst zs)/\xs.length+zs.length<=sizeLine/\Q .non (upd H l (.lst (xs++zs)))
theorem q4j:MtM X "list.extend" rExtend:=by
 intro pins s σ H x vs v us Q I rx rv h;obtain⟨l,b,xs,zs,rfl,rfl,hH,hB,hz,q⟩:=h;cases rx;obtain⟨u,rfl,ru⟩:=rv.one;cases ru;obtain⟨z,its,n,r,hl,e⟩:=I.lstM hH;obtain⟨z2,its2,n2,r2,hl2,e2⟩:=I.lstM hB;have hsz:its.toArray.size+its2.toArray.size<=sizeLine:=by grind
 have hlong:¬(!its.toArray.isEmpty&&Hh (its.toArray.size+its2.toArray.size))=true:=by
  rw[notLongL hsz,Bool.and_false];exact Bf
 refine Ip F.slot_list_extend ⟨_,e,rfl⟩ F.entry_list_extend (F.args_list_extend_2 _ _)
  (AutoSeq1.list_extend_list_list_0 l its.toArray n b its2.toArray n2 hlong (by rw[Ar];lia) (by lia)) ⟨e,e2,?_⟩
 refine⟨.non,_,I.lset (its':=its++its2) hH e (by simp) (r.append r2) ?_,rfl,q⟩;rw[Ae];lia
def rPop:V->List V->Hp->VK->Prop:=fun x vs H Q=>∃l xs y,x=.ref l/\vs=[]/\H l=some (.lst xs)/\xs[xs.length-1]?=some y/\Q y (upd H l (.lst xs.dropLast))
theorem z8x:MtM X "list.pop" rPop:=by
 intro pins s σ H x vs v us Q I rx rv h;obtain⟨l,xs,y,rfl,rfl,hH,hy,q⟩:=h;cases rx;have hus:=rv.zero;subst hus;obtain⟨z,its,n,r,hl,e⟩:=I.lstM hH;obtain⟨u,hu,ru⟩:=r.get hy;have hy':its.toArray[its.toArray.size-1]?=some u:=by simp_all
 refine Ip F.slot_list_pop ⟨_,e,rfl⟩ F.entry_list_pop (F.args_list_pop_1 _) (MeetsSeq.list_pop_last l its.toArray n u hy' (by rw[Ar];lia)) ⟨e,?_⟩;refine⟨y,_,I.lset (its':=its.dropLast) hH e ?_ r.dropLast ?_,ru,q⟩
 ·simp_all
 ·rw[Iq];lia
def rReverse:V->List V->Hp->VK->Prop:=fun x vs H Q=>∃l xs,x=.ref l/\vs=[]/\H l=some (.lst xs)/\Q .non (upd H l (.lst xs.reverse))
theorem z3r:MtM X "list.reverse" rReverse:=by
 intro pins s σ H x vs v us Q I rx rv h;obtain⟨l,xs,rfl,rfl,hH,q⟩:=h;cases rx;have hus:=rv.zero;subst hus;obtain⟨z,its,n,r,hl,e⟩:=I.lstM hH;refine Ip F.slot_list_reverse ⟨_,e,rfl⟩ F.entry_list_reverse (F.args_list_reverse_1 _) (AutoSeq1.list_reverse_list_0 l its.toArray n (by rw[Ar];lia)) ⟨e,?_⟩;refine⟨.non,_,I.lset (its':=its.reverse) hH e (by simp) r.reverse ?_,rfl,q⟩;rw[Nc];lia
def rCat:R2:=fun x y H Q=>∃l b xs zs,x=.ref l/\y=.ref b/\H l=some (.lst xs)/\H b=some (.lst zs)/\xs.length+zs.length<=sizeLine/\∀p,H p=none->Q (.ref p) (upd H p (.lst (xs++zs)))
theorem op_cat:OpR X (Fc .Add) rCat:=by
 intro pins s σ H x y v u Q I rx ry h;obtain⟨l,b,xs,zs,rfl,rfl,hH,hB,hz,q⟩:=h;cases rx;cases ry;obtain⟨z,its,n,r,hl,e⟩:=I.lstM hH;obtain⟨z2,its2,n2,r2,hl2,e2⟩:=I.lstM hB;refine PySem.P.add_list e e2 ?_ (by rw[Ar,Ar];lia);have ea:its.toArray++its2.toArray=(its++its2).toArray:=by simp
 rw[ea];exact⟨.ref _,_,I.lnew (t':=s.toks) (r.append r2) (by rw[Ae];lia),rfl,q _ I.fresh⟩
def rRep:R2:=fun x y H Q=>∃l k xs,x=.ref l/\y=.int k/\H l=some (.lst xs) /\ -(2^63)<=k/\k<2^63/\xs.length*k.toNat<=sizeLine /\
 ∀p,H p=none->Q (.ref p) (upd H p (.lst (List.replicate k.toNat xs).flatten))
theorem x0a{α:Type}(xs:List α)(k:Nat):(List.replicate k xs).flatten.length=k*xs.length:=by simp_all
theorem op_rep:OpR X (Fc .Mult) rRep:=by
 intro pins s σ H x y v u Q I rx ry h;obtain⟨l,k,xs,rfl,rfl,hH,h1,h2,hz,q⟩:=h;cases rx;obtain⟨t,rfl⟩:=ry;obtain⟨z,its,n,r,hl,e⟩:=I.lstM hH;have hlen:its.toArray.size*k.toNat<=sizeLine:=by simp_all
 have hcap:¬its.toArray.size*k.toNat>(2^63-1) / 8:=by
  have:(sizeLine:Nat)<=(2^63-1) / 8:=by decide
  lia
 have hfit:¬(!Builtin.List.listFitsIndex k)=true:=by
  rw[fitsIndex_both h1 h2];exact Bf
 have hlong:¬Hh (its.toArray.size*k.toNat)=true:=by
  rw[notLongL hlen];exact Bf
 have hnew:List.foldl (fun x1 x2=>x1++x2) #[] (List.replicate (if its.toArray.isEmpty=true then 0 else k.toNat) its.toArray)=(List.replicate k.toNat its).flatten.toArray:=by
  have f0:∀m:Nat,List.foldl (fun x1 x2=>x1++x2) #[] (List.replicate m its.toArray)=(List.replicate m its).flatten.toArray:=fun m=>by
   have:=q9x its m [];exact this
  cases its with
  |nil=>simp
  |cons a r'=>grind
 refine wpAny_binaryOp_repeat_ref (by decide) ⟨_,e,rfl⟩ (fun s'=>Pf s' k t) noFill_list_mul F.fills_int_mul Pg repeat_list F.slot_int_index.lookup
  (Ip Pg (Pf s k t) F.entry_int_rmul (F.args_int_rmul_2 _ _) (int___rmul___int_list k t l its.toArray n)
   ⟨e,rfl,⟨_,e,rfl⟩,Ip F.slot_list_mul ⟨_,e,rfl⟩ F.entry_list_mul (F.args_list_mul_2 _ _) (AutoListH.list___mul___list_int_3 l its.toArray n k t hfit hcap hlong) ⟨e,?_⟩⟩)
 rw[hnew];exact⟨.ref _,_,I.lnew (t':=s.toks) (r.rep k.toNat) (by rw[x0a,Nat.mul_comm];exact hz),rfl,q _ I.fresh⟩
end
end L2
namespace Att
open PySem PySem.W PySem.Calls PyProof.Rows
theorem q6i:∀(ns:List Int) (vs:List Value),WellAll P h vs (ns.map WData.int)->Ny vs ns:=by
 intro ns;induction ns with
 |nil =>
  intro vs w;cases w;exact .nil
 |cons n ns ih =>
  intro vs w;cases w with
  |cons a b =>
   cases a;exact .cons _ _ (ih _ b)
theorem z5b{l:OpenLaw}(hn:l.most=some n)(hpre:l.row.toRowW.claim.pre args=true)(hwl:WellAll P h vals args):
  ∃a vs ns,vals=[Value.ref a]/\args=[WData.list (ns.map WData.int)]/\h.get? a=some { cls:=.type "list",data:=.seq vs.toArray }/\Ny vs ns/\ns.length<=n:=by
 have hsh:=(pre_splitW hpre).1;have hc:l.pre.holds [] { args:=args }=true:=(pre_splitW hpre).2;obtain⟨d,r,rfl,h1,h2⟩:=hasAllW_cons hsh;obtain rfl:=hasAllW_nil h2;obtain⟨xs,rfl,h3⟩:=hasW_list h1;obtain⟨ns,rfl⟩:=items_int h3;have hlen:ns.length<=n:=by
  have h4:(WTm.not (.lt (.lit (.int (n:Int))) (.len (.arg 0)))).holds [] { args:=[.list (ns.map .int)] }=true:=by
   have h4:=(holds_andW hc).1;rw[hn] at h4;exact h4
  have h5:=condW_of h4 (w_not (w_lt w_lit (w_len_list (w_arg rfl))));first
   |(rw[decide_eq_true q'] at h5;exact absurd h5 (by decide))
   |(simp at h5;lia)
 cases hwl with
 |cons w1 w2 =>
  cases w2;cases w1 with
  |list ho hall=>exact⟨_,_,ns,rfl,rfl,ho,q6i ns _ hall,hlen⟩
theorem z5c(l:OpenLaw)(args:List WData):l.row.toRowW.claim.post args (.bool true) args=true :=
 postW_of
  (show WShape.has [] (.bool true) .bool=true by first|rfl|decide|simp[WShape.has,WShape.arms,WShape.armsAll])
  (show(WTm.eq .res (.lit (.bool true))).value [] { args:=args,res:=some (.bool true),after:=args }=some (.bool (true==true)) from w_eq_bool (w_res rfl) w_lit) rfl
theorem attach_call{l:OpenLaw}(hn:l.most=some n)(hdf:d.params.defaults=[])(call:∀(w:World) (s₀ s₁:Ag) (mg mb:Str->Option Value) (fa:Addr) (o:Obj) (pm cd doc:Value) (a:Addr) (vs:List Value) (ns:List Int),
   Ground q loose [] XP w s₀ mg mb s₁.heap->YP w s₁.heap ->
   s₁.heap.get? fa=some o->o.data=.func (docDef d.name d.params d.body d.scope pm cd doc)->s₁.heap.CodeRec cd d.name->mg d.name=some (.ref fa) ->
   s₁.heap.get? a=some { cls:=.type "list",data:=.seq vs.toArray }->Ny vs ns->ns.length<=n->s₁.gens=#[] ->
   Hm (model l.prog w) Km (.call (.ref fa) ⟨[.ref a],[]⟩) (fun r s'=>r=.ok (.ret (.bool true))/\OldK s₁.heap s'.heap/\s'.os=s₁.os/\Hl s'.gens) s₁):
  WalkO q loose XP YP l.row.toRowW d [] (fun f vs=>Ph f vs):=by
 intro w s₀ s₁ mg mb G Y fa o pm cd doc dV kV ho hd hcd hD hmg hg args vals as hpre hlay hrd hwl hlo;obtain rfl:dV=.none:=Dflts.none hD hdf;obtain rfl:kV=.none:=Dflts.noKw hD;obtain⟨a,vs,ns,rfl,rfl,hobj,hints,hlen⟩:=z5b hn hpre hwl;refine enter_call (Gj (call w s₀ s₁ mg mb fa o pm cd doc a vs ns G Y ho (fd_plain hd) hcd hmg hobj hints hlen hg) fun r s' hq=>?_);obtain⟨rfl,h2,h3,h4⟩:=hq;exact⟨.inl ⟨.bool true,.bool true,[],rfl,fun _=>rfl,.bool true,z5c l _,fun _=>⟨List.Pairwise.nil,fun _ hm=>(nomatch hm)⟩⟩,h2,h3,h4⟩
end Att
namespace L2
open PySem PySem.Spec PyProof.Rows
theorem q9y:∀{vs:List Value} {ns:List Int},Ny vs ns->Vals (ns.map V.int) vs
 |_,_,.nil=>.nil
 |_,_,.cons n t h=>.cons ⟨t,rfl⟩ (q9y h)
def Only(H:Hp):Prop:=∀b,H b=none\/∃o xs,H b=some (.frz o (.lst xs))
theorem z7f{K:Af}(KX:K.In s₁.heap)(hns:s₁.heap.Ns Bt mg)(hb:s₁.heap.Ns builtinsNs mb)(hbb:∀x:Str,x ≠ "__name__" -> mb x=Eg x)(hlim:s₁.heap.NoLimit)(hg:s₁.gens=#[])(ha:s₁.heap.get? a=some { cls:=.type "list",data:=.seq vs.toArray })(hi:Ny vs ns)(hl:ns.length<=sizeLine)(hr:Room k Km)(F:∀base:Heap,K.In base->base.Ns Bt mg->FnOk P w K mg base CX k fa fd [x] sp)(hbind:∀(s:Ag) (u:Value),Lx s fd ⟨[u],[]⟩ [(x,u)])(hsp:∀H:Hp,Only H->SqL K H a (ns.map V.int)->sp [.ref a] H (fun v _=>v=.bl true) fun _ _ _=>False)(hCX:∀H e s',CX [] H s₁ (fun _ _ _=>False) e s'->False):
  Hm (model P w) Km (.call (.ref fa) ⟨[.ref a],[]⟩) (fun r s'=>r=.ok (.ret (.bool true))/\OldK s₁.heap s'.heap/\s'.os=s₁.os/\Hl s'.gens) s₁:=by
 have rv:=q9y hi;have lenV:=hi.length;have core:∀H:Hp,Only H->SqL K H a (ns.map V.int)->HOk P w H s₁.heap->(∀b,H b≠none->b=a)->(H a≠none->K.lookup a=none) ->
   Hm (model P w) Km (.call (.ref fa) ⟨[.ref a],[]⟩) (fun r s'=>r=.ok (.ret (.bool true))/\OldK s₁.heap s'.heap/\s'.os=s₁.os/\Hl s'.gens) s₁:=by
  intro H hO hS hok hA hK;have base_of:∀{b:Addr} {o:Obj},s₁.heap.get? b=some o->H b=none->(hidT s₁.heap H).get? b=some o:=fun e n=>z7a e n;have noA:∀{b:Addr} {o:Obj} {es:Array Jq} {ep:Nat},s₁.heap.get? b=some o->o.data=.dict es ep->H b=none:=fun{b o es ep} e d=>by
   cases q:H b with
   |none=>rfl
   |some u =>
    have e':=hA b (by rw[q];simp);subst e';rw[ha] at e;cases e;have d':=d;cases d'
  have nsK:∀{b:Addr} {m:Str->Option Value},s₁.heap.Ns b m->(hidT s₁.heap H).Ns b m:=fun{b m} ⟨o,es,ep,e,d,r⟩=>⟨o,es,ep,base_of e (noA e d),d,r⟩
  have hKb:=fun b o e=>base_of (KX b o e) (by
   cases q:H b with
   |none=>rfl
   |some u =>
    have e':=hA b (by rw[q];simp);subst e';rw[hK (by rw[q];simp)] at e;cases e)
  have hM:Mod K mg (hidT s₁.heap H):=⟨hKb,nsK hns,⟨mb,nsK hb,hbb⟩,let ⟨mc,h1,h2⟩:=hlim;⟨mc,nsK h1,h2⟩⟩
  have e0:Env0 P w K mg (hidT s₁.heap H) Km [] s₁ H:=⟨rfl,hM,fun b o e=>z9w e,Kq (z4m _ _),trivial,fun b hb=>absurd (show b∈([]:List Addr) from hb) (by simp),hok,.of_eq hg⟩
  refine Gj ((F _ hKb (nsK hns)).run Km [] s₁ H ⟨[.ref a],[]⟩ [.ref a] [.ref a] _ _ hr e0 (hbind s₁ (.ref a)) (.cons rfl .nil) (hsp H hO hS)) fun r s' h=>?_;cases r with
  |error e=>exact(hCX H e s' h).elim
  |ok fl =>
   cases fl with
   |next=>exact False.elim h
   |brk=>exact False.elim h
   |cont=>exact False.elim h
   |ret u =>
    obtain⟨v,H',os,bare,un,hok',r',q⟩:=h;have q':=q;subst q';obtain rfl:u=Value.bool true:=r';refine⟨rfl,OldK.of_keep fun b o e=>?_,os,bare⟩;cases q:H b with
    |none=>exact un.keep b o e q (by intro z;exact absurd (show b∈([]:List Addr) from z) (by simp)) (by simp)
    |some u =>
     rcases hO b with z|⟨ob,xs,z⟩
     ·grind
     ·have z2:=un.frzs b ob _ z;obtain⟨e1,_⟩:=hok b _ z;obtain⟨e2,_⟩:=hok' b _ z2;rw[e] at e1;cases e1;exact e2
 cases hk:K.lookup a with
 |some o =>
  have e:=KX a o hk;rw[ha] at e;cases e;refine core (fun _=>none) (fun _=>.inl rfl) (.inr ⟨_,vs.toArray,_,hk,rfl,rfl,rfl,by rw[Ar,lenV];exact hl,by simpa using rv⟩) (fun b u z=>by have z':(none:Option HO)=some u:=z;cases z') (fun b z=>absurd rfl z) fun z=>absurd rfl z
 |none =>
  refine core (fun b=>if b=a then some (.frz { cls:=.type "list",data:=.seq vs.toArray } (.lst (ns.map V.int))) else none) (fun b=>?_) (.inl (.inr ⟨{ cls:=.type "list",data:=.seq vs.toArray },if_pos rfl⟩)) (fun b u z=>?_) (fun b z=>?_) fun _=>hk
  ·by_cases hb:b=a
   ·simp_all
   ·simp_all
  ·by_cases hb:b=a
   ·have z':=(if_pos hb).symm.trans z;cases z';subst hb;exact⟨ha,by rw[Ai];exact hl,vs,_,rv,ha⟩
   ·grind
  ·grind
theorem walk_of{l:Po}{K:Params->Af}{CX:World->CXT}{sp:World->Sp}(hn:l.most=some n)(hn2:n<=sizeLine)(hdf:d.params.defaults=[])(hr:Room k Km)(hY:∀(w:World) (h:Heap),YP w h->(K w.params).In h)(F:∀(w:World) (mg:Str->Option Value) (fa:Addr) (h:Heap),(K w.params).In h->h.Ns Bt mg->mg d.name=some (.ref fa) ->
   ∃fd:Ib,(∀(s:Ag) (u:Value),Lx s fd ⟨[u],[]⟩ [(x,u)]) /\
    ∀base:Heap,(K w.params).In base->base.Ns Bt mg->FnOk l.prog w (K w.params) mg base (CX w) k fa fd [x] (sp w))(hsp:∀(w:World) (H:Hp) (a:Addr) (ns:List Int),ns.length<=n->Only H->SqL (K w.params) H a (ns.map V.int)->sp w [.ref a] H (fun v _=>v=.bl true) fun _ _ _=>False)(hCX:∀(w:World) (H:Hp) (s:Ag) (e:Value) (s':Ag),CX w [] H s (fun _ _ _=>False) e s'->False):
  W.WalkO q loose XP YP l.row.toRowW d [] (fun f vs=>Ph f vs):=by
 refine Att.attach_call hn hdf fun w s₀ s₁ mg mb fa o pm cd doc a vs ns G Y ho hd hcd hmg hobj hints hlen hg=>?_;have KX:=hY w _ Y;obtain⟨fd,hb,hF⟩:=F w mg fa _ KX G.T.g hmg;exact z7f KX G.T.g G.T.b G.T.builtins G.T.nolimit hg hobj hints (Aw hlen hn2) hr hF hb (fun H hO hS=>hsp w H a ns hlen hO hS) fun H e s'=>hCX w H s₁ e s'
def inClass(s:Stmt)(j:Nat):Stmt:=match s with
 |.ClassDef _ _ _ body _ _ _ _ _ _ _=>body.getD j (.Pass ⟨0,0,0,0⟩)
 |_=>.Pass ⟨0,0,0,0⟩
def defArgs(s:Stmt):Arguments:=match s with
 |.FunctionDef _ a _ _ _ _ _ _ _ _=>a
 |_=>{ posonlyargs:=[],args:=[],vararg:=none,kwonlyargs:=[],kw_defaults:=[],kwarg:=none,defaults:=[] }
def defBody(s:Stmt):List Stmt:=match s with
 |.FunctionDef _ _ b _ _ _ _ _ _ _=>b
 |_=>[]
def defScope(s:Stmt):Scope:=match s with
 |.FunctionDef _ _ _ _ _ _ sc _ _ _=>sc
 |_=>{ kind:=.function,names:=[],isGenerator:=false,isCoroutine:=false }
abbrev CX0:CXT:=fun _ _ _ _ _ _=>False
abbrev E0:XK:=fun _ _ _=>False
theorem pass0:Passes CX0 X E0:=fun _ _ _ _ _ _ _ h=>h.elim
structure Fun (K:Af) (x qual:Str) (st:Stmt) (f:Addr) (fd:Ib):Prop where
 ex:∃(oc:Value) (od:Option Addr) (kV doc pm:Value) (an:Option Addr) (cdv ct:Value) (osl:Array (Option Value)),
  fd=Hg x qual (defArgs st) (defBody st) (defScope st) .none kV doc pm an cdv ct/\K.lookup f=some ⟨oc,od,.func fd,osl⟩/\Ku K cdv qual=true
 kp:Eo K (.ref f)=true
section
variable{P:Program}{w:World}{K:Af}{mg:Str->Option Value}{base:Heap}
theorem Fun.ok{st:Stmt}(F:Fun K x qual st f fd)(S:FnScope N ps (defScope st))(len:∀vs H Q E,sp vs H Q E->vs.length=ps.length)(hbody:∀(cdv:Value) (A:Around) (outer:List Env) (s:Ag) (H:Hp) (vs:List V) (Q:VK) (E:XK),Room k (A.deeper (Fy qual (defScope st) s.heap.objs.size f cdv))->sp vs H Q E ->
   ∃t,PSs (cxOf CX0 P w K mg base N qual (defScope st) f cdv A outer s H E).nox (defBody st) t/\t { nx:=fun _ H'=>Q .non H',rt:=Q } (start N vs) H):FnOk P w K mg base CX0 (k+1) f fd ps sp:=by
 obtain⟨oc,od,kV,doc,pm,an,cdv,ct,osl,rfl,lk,hcd⟩:=F.ex;refine fn_of lk hcd S len fun A outer s H vs Q E hr hsp=>?_
 obtain⟨t,h,q⟩:=hbody cdv A outer s H vs Q E hr hsp;exact⟨t,h.nox,q⟩
theorem Fun.binds{st:Stmt}(F:Fun K x qual st f fd)(h:∀(kV doc pm:Value) (an:Option Addr) (cdv ct:Value) (us:List Value),us.length=ps.length->bindArgs (Hg x qual (defArgs st) (defBody st) (defScope st) .none kV doc pm an cdv ct) ⟨us,[]⟩=pure (ps.zip us)):Binds K fd ps []:=by
 obtain⟨oc,od,kV,doc,pm,an,cdv,ct,osl,rfl,lk,hcd⟩:=F.ex;exact .all (h kV doc pm an cdv ct)
theorem q9z{st:Stmt}{kV:Value}(l:K.lookup f=some ⟨oc,od,.func (Hg x qual (defArgs st) (defBody st) (defScope st) .none kV doc pm an cdv ct),osl⟩)(c:Ku K cdv qual=true)(k:Eo K (.ref f)=true):Fun K x qual st f (Hg x qual (defArgs st) (defBody st) (defScope st) .none kV doc pm an cdv ct):=⟨⟨oc,od,kV,doc,pm,an,cdv,ct,osl,rfl,l,c⟩,k⟩
end
theorem z7g(hr:Room k A):A.units+1<cLine:=Js (Nat.add_le_add_left (by decide:1<=64) _) hr.units
section
variable{X:Cx}
theorem pv(i:Nat){x:Str}{pos:Pos}(hN:X.N[i]?=some x:=by rfl)(hv:Vis X.env.scope x:=by first|exact Or.inl rfl|exact Or.inr (Or.inl rfl)|exact Or.inr (Or.inr rfl))(hd:(x==("__debug__" : Str))=false:=by decide)(hcd:(x==("__classdict__" : Str))=false:=by decide):PE X (.Name x pos) (tVar i):=pe_var hN hv hd hcd
end
theorem iteF{B:Prop}(h:B):if false=true then A else B:=by
 exact h
theorem iteT{B:Prop}(h:A):if true=true then A else B:=by
 exact h
theorem ite2{B:Prop}[Decidable c](h1:c->A)(h2:¬c->B):if c then A else B:=by grind
def Same(H H':Hp):Prop:=∀b o,H b=some o->H' b=some o
theorem Same.refl(H:Hp):Same H H:=fun _ _ h=>h
theorem Same.trans(a:Same H H1)(b:Same H1 H2):Same H H2:=fun c o h=>b c o (a c o h)
theorem Same.free(e:Same H H')(h:H' l=Option.none):H l=Option.none:=by
 cases q:H l with
 |none=>rfl
 |some o =>
  rw[e l o q] at h;cases h
theorem Same.seq{K:Af}(e:Same H H')(h:SqL K H a xs):SqL K H' a xs:=by
 rcases h with(h|⟨o,h⟩)|h
 ·exact .inl (.inl (e _ _ h))
 ·exact .inl (.inr ⟨o,e _ _ h⟩)
 ·exact .inr h
open PySem PySem.Spec PyProof.Rows
abbrev Caps:=List (Str×Nat)
def capV(σ:St):Caps->St
 |[]=>[]
 |(_,i)::r=>(σ[i]?).join::capV σ r
def CapOk(X:Cx)(scope:Scope):Caps->Prop
 |[]=>True
 |(x,i)::r=>(X.N[i]?=some x/\scope.names.lookup x=some .free/\(X.env.scope.names.lookup x=some .cell\/X.env.scope.names.lookup x=some .free))/\CapOk X scope r
def cxComp(X:Cx)(N:List Str)(scope:Scope)(cl:List (Str×Addr))(C:Addr)(fp:List Addr)(s:Ag)(H:Hp):Cx where
 prog:=X.prog
 w:=X.w
 K:=X.K
 mg:=X.mg
 base:=X.base
 A:=X.A
 N:=N
 s₀:=s
 H₀:=H
 env:=Jj scope cl C X.env
 outer:=X.stack
 stack:=X.stack
 ex:=fp
 fn:=fun _=>false
 calm:=X.calm
 pn:=[]
 xe:=fun _ _=>False
theorem z3s(names:List (Str×Az))(hh:∀x,(x,Az.free)∈names->∃c,env.cells.lookup x=some c):∀acc:List (Str×Addr),
  ∃cl,(forIn names acc (fun(x:Str×Az) (r:List (Str×Addr))=>match x with
   |(name,kind)=>if (kind==Az.free)=true then do let a<-cellOf env name;pure (ForInStep.yield ((name,a)::r)) else pure (ForInStep.yield r)):Sem (List (Str×Addr)))=pure cl /\
   (∀x c,(x,c)∈cl->(x,c)∈acc\/env.cells.lookup x=some c)/\(∀x,((x,Az.free)∈names\/∃c,(x,c)∈acc)->∃c,(x,c)∈cl):=by
 induction names with
 |nil=>intro acc;exact⟨acc,rfl,fun x c h=>.inl h,fun x h=>h.elim (fun z=>nomatch z) id⟩
 |cons n r ih =>
  intro acc;obtain⟨name,kind⟩:=n;by_cases hk:kind=Az.free
  ·subst hk;obtain⟨c,hc⟩:=hh name Bo;obtain⟨cl,e,h1,h2⟩:=ih (fun x hx=>hh x (Av _ hx)) ((name,c)::acc);refine⟨cl,?_,fun x d hd=>?_,fun x hx=>?_⟩
   ·rw[List.forIn_cons];have:cellOf env name=pure c:=by unfold cellOf;rw[hc]
    simp only[beq_self_eq_true,if_true,this];exact e
   ·rcases h1 x d hd with z|z
    ·rcases Bd.mp z with z|z
     ·cases z;exact .inr hc
     ·exact .inl z
    ·exact .inr z
   ·refine h2 x ?_;rcases hx with hx|⟨d,hd⟩
    ·rcases Bd.mp hx with z|z
     ·simp_all
     ·exact .inl z
    ·grind
  ·obtain⟨cl,e,h1,h2⟩:=ih (fun x hx=>hh x (Av _ hx)) acc;refine⟨cl,?_,h1,fun x hx=>h2 x ?_⟩
   ·simp_all
   ·grind
theorem q8d{cl:List (Str×Addr)}(h:(x,c)∈cl):∃d,cl.lookup x=some d:=by
 induction cl with
 |nil=>cases h
 |cons y r ih =>
  obtain⟨n,a⟩:=y;cases e:x==n with
  |true=>simp_all
  |false =>
   rcases Bd.mp h with z|z
   ·cases z;simp at e
   ·obtain⟨d,hd⟩:=ih z;exact⟨d,by simp only[Gr,e];exact hd⟩
theorem z3t(hh:∀x,(x,Az.free)∈scope.names->∃c,env.cells.lookup x=some c):
  ∃cl,Pj scope env=pure cl/\(∀x c,cl.lookup x=some c->env.cells.lookup x=some c)/\∀x,(x,Az.free)∈scope.names->∃c,cl.lookup x=some c:=by
 obtain⟨cl,e,h1,h2⟩:=z3s scope.names hh [];refine⟨cl,?_,fun x c h=>?_,fun x hx=>?_⟩
 ·unfold Pj;have e2:=congrArg (fun m:Sem (List (Str×Addr))=>m >>= fun cs=>(pure cs:Sem _)) e;exact e2
 ·rcases h1 x c (Ds h) with z|z
  ·cases z
  ·exact z
 ·obtain⟨c,hc⟩:=h2 x (.inl hx);exact q8d hc
theorem q3x{env:Env}{k:Az}(hk:k=.cell\/k=.free):∀{names:List (Str×Az)} {x:Str},(∀y∈names,y.2≠.cell) ->
  (names.map fun(n,k)=>if (k==Az.free&&env.scope.kind==.function&&env.kindOf n==some .cell) then(n,Az.cell) else(n,k)).lookup x=some k->(x,Az.free)∈names
 |[],_,_,h=>by simp at h
 |(n,k')::r,x,hc,h=>by
  have ih:=@q3x env k hk r x fun y hy=>hc y (Av _ hy);by_cases c:(k'==Az.free&&env.scope.kind==.function&&env.kindOf n==some .cell)=true
  ·have h':((n,Az.cell)::r.map fun(n,k)=>if (k==Az.free&&env.scope.kind==.function&&env.kindOf n==some .cell) then(n,Az.cell) else(n,k)).lookup x=some k:=by
    have e:(if (k'==Az.free&&env.scope.kind==.function&&env.kindOf n==some .cell)=true then(n,Az.cell) else(n,k'))=(n,Az.cell):=if_pos c;rw[<- e];exact h
   cases e:x==n with
   |true =>simp_all
   |false=>exact Av _ (ih (by simp only[Gr,e] at h';exact h'))
  ·have h':((n,k')::r.map fun(n,k)=>if (k==Az.free&&env.scope.kind==.function&&env.kindOf n==some .cell) then(n,Az.cell) else(n,k)).lookup x=some k:=by
    have e:(if (k'==Az.free&&env.scope.kind==.function&&env.kindOf n==some .cell)=true then(n,Az.cell) else(n,k'))=(n,k'):=if_neg c;rw[<- e];exact h
   cases e:x==n with
   |true =>simp_all
   |false=>exact Av _ (ih (by simp only[Gr,e] at h';exact h'))
theorem q5j{env:Env}:∀{names:List (Str×Az)} {x:Str},names.lookup x=some .free ->
    ((names.map fun(n,k)=>if (k==Az.free&&env.scope.kind==.function&&env.kindOf n==some .cell) then(n,Az.cell) else(n,k)).lookup x=some .cell \/
     (names.map fun(n,k)=>if (k==Az.free&&env.scope.kind==.function&&env.kindOf n==some .cell) then(n,Az.cell) else(n,k)).lookup x=some .free)
  |[],_,h=>by simp at h
  |(n,k')::r,x,h=>by
    have ih:=@q5j env r x;by_cases c:(k'==Az.free&&env.scope.kind==.function&&env.kindOf n==some .cell)=true
    · have e:(if (k'==Az.free&&env.scope.kind==.function&&env.kindOf n==some .cell)=true then(n,Az.cell) else(n,k'))=(n,Az.cell):=if_pos c;show(List.lookup x ((if (k'==Az.free&&env.scope.kind==.function&&env.kindOf n==some .cell)=true then(n,Az.cell) else(n,k'))::_)=_\/List.lookup x ((if (k'==Az.free&&env.scope.kind==.function&&env.kindOf n==some .cell)=true then(n,Az.cell) else(n,k'))::_)=_);rw[e];cases ex:x==n with
      |true=>simp_all
      |false =>
        simp only[Gr,ex] at h ⊢;exact ih h
    · have e:(if (k'==Az.free&&env.scope.kind==.function&&env.kindOf n==some .cell)=true then(n,Az.cell) else(n,k'))=(n,k'):=if_neg c;show(List.lookup x ((if (k'==Az.free&&env.scope.kind==.function&&env.kindOf n==some .cell)=true then(n,Az.cell) else(n,k'))::_)=_\/List.lookup x ((if (k'==Az.free&&env.scope.kind==.function&&env.kindOf n==some .cell)=true then(n,Az.cell) else(n,k'))::_)=_);rw[e];cases ex:x==n with
      |true =>simp_all
      |false =>
        simp only[Gr,ex] at h ⊢;exact ih h
theorem q6j(σ:St):∀caps:Caps,(capV σ caps).length=caps.length
 |[]=>rfl
 |(_,_)::r=>congrArg (· + 1) (q6j σ r)
theorem z2k:∀{caps:Caps} {j:Nat} {x:Str} {v:V},CapOk X scope caps->(caps.map (·.1))[j]?=some x->(capV σ caps)[j]?=some (some v) ->
  ∃i:Nat,X.N[i]?=some x/\σ[i]?=some (some v)/\scope.names.lookup x=some .free/\(X.env.scope.names.lookup x=some .cell\/X.env.scope.names.lookup x=some .free)
 |[],_,_,_,_,h,_=>by simp at h
 |(y,i)::r,0,x,v,hc,h1,h2=>by
  simp at h1;subst h1;have e:(σ[i]?).join=some v:=by simpa[capV] using h2
  refine⟨i,hc.1.1,?_,hc.1.2⟩;cases q:σ[i]? with
  |none=>rw[q] at e;cases e
  |some z=>simp_all
 |(y,i)::r,j+1,x,v,hc,h1,h2=>z2k hc.2 (by simpa using h1) (by simpa[capV] using h2)
def tg0(tg:List Str)(σ:St)(caps:Caps):St:=tg.map (fun _=>none)++capV σ caps
theorem Inv.ofcomp{σ:St}{C:Addr}(tg:List Str)(I:Inv X pins σ H s)(hkind:scope.kind=.function)(hnc:∀y∈scope.names,y.2≠.cell)(hc1:∀x c,cl.lookup x=some c->X.env.cells.lookup x=some c)(hc2:∀x,(x,Az.free)∈scope.names->∃c,cl.lookup x=some c)(hf:∀b∈fp,FpOk X pins H b)(hfo:∀b∈fp,∃o,s.heap.get? b=some o)(hC:s.heap.objs.size<=C)(hns:h₁.Ns C m)(hk:∀b o,s.heap.get? b=some o->h₁.get? b=some o)(co:CapOk X scope caps):
  Inv (cxComp X (tg++caps.map (·.1)) scope cl C fp s H) [] (tg0 tg σ caps) H { s with heap:=h₁,toks:=tk }:=by
 have hfs:∀b∈fp,b∉frs X.stack:=fun b hb hx=>by
  rcases Bd.mp (I.stkSub b hx) with z|z
  ·exact(hf b hb).2.1 z
  ·exact(hf b hb).2.2.1 z
 have ok:(cxComp X (tg++caps.map (·.1)) scope cl C fp s H).Ok:=by
  refine⟨I.ok.mod,hkind,I.ok.glob,I.ok.blt,hC,fun x y c h1 h2=>I.ok.inj x y c (hc1 x c h1) (hc1 y c h2),fun x hx=>?_,fun x c h=>(nomatch h),I.ok.hd,I.ok.frames,.inl rfl,fun b hb=>⟨?_,fun x c h=>(hf b hb).2.2.2.2.1 x c (hc1 x c h)⟩,
   I.bs,Aw I.ok.bsz I.sz,fun b o e hb=>?_,hfs,I.stack,I.stkFree⟩
  ·rcases hx with hx|hx
   ·exact hc2 x (q3x (.inl rfl) hnc hx)
   ·exact hc2 x (q3x (.inr rfl) hnc hx)
  ·obtain⟨o,e⟩:=hfo b hb;exact By (Bb (An e) hC)
  ·rcases(hf b hb).2.2.2.1 with z|z
   ·exact I.ok.noex b o e z
   ·exact absurd (Bb (An (I.ok.bs b o e).1) z) (Fb _)
 refine⟨ok,rfl,I.bare,Un.kept hk,⟨m,hns,fun j x v h1 h2 h3=>?_⟩,fun x c h=>?_,I.hok.fresh hC,fun x c h=>I.freeC x c (hc1 x c h),fun p hp=>(nomatch hp),I.hok.kept hk,?_⟩
 ·have h1':(tg++caps.map (·.1))[j]?=some x:=h1;have h2':(tg.map (fun _=>none)++capV σ caps)[j]?=some (some v):=h2;by_cases hj:j<tg.length
  ·rw[Ba (by simpa using hj),Cy] at h2';cases e:tg[j]? with
   |none=>grind
   |some z=>simp_all
  ·rw[Bl (by simpa using hj)] at h2' h1';rw[Ai] at h2';obtain⟨i,e1,e2,e3,e4⟩:=z2k co h1' h2';obtain⟨mX,hn,hl⟩:=I.loc;obtain⟨u,r,l⟩:=hl i x v e1 e2 (.inr e4);refine⟨u,r,?_⟩;have key:∃c,X.env.cells.lookup x=some c/\s.heap.IsCell c (some u):=by
    rcases l with⟨k,_⟩|⟨_,c,e,z⟩
    ·have k':X.env.scope.names.lookup x=some .local:=k;rcases e4 with e4|e4 <;> · rw[e4] at k';cases k'
    ·exact⟨c,e,z⟩
   obtain⟨c,ec,o,ho,hd⟩:=key;obtain⟨d,ed⟩:=hc2 x (Ds e3);have hdc:=Cf ((hc1 x d ed).symm.trans ec);subst hdc;exact .inr ⟨q5j e3,d,ed,o,hk _ o ho,hd⟩
 ·obtain⟨v,o,ho,hd⟩:=I.cell x c (hc1 x c h);exact⟨v,o,hk _ o ho,hd⟩
 ·show(tg.map (fun _=>(none:Option V))++capV σ caps).length=(tg++caps.map (·.1)).length;rw[Ae,Ae,Ai,Ai,q6j]
def PIfs(X:Cx)(ifs:List Expr)(t:TT):Prop :=
 ∀(pins:List (Addr×Obj)) (s:Ag) (σ:St) (H:Hp) (Q:Bool->Hp->Prop),Inv X pins σ H s->t σ H Q ->
  wpAny (model X.prog X.w) X.A (forIn ifs true fun c r=>if r=true then do let ok<-isTrue c X.env (eval c X.env);pure (ForInStep.yield ok) else pure (ForInStep.yield r)) (TP X pins σ Q) X.xe s
def tIf0:TT:=fun _ H Q=>Q true H
theorem z1d:PIfs X [] tIf0:=fun pins s σ H Q I h=>wpAny_tests_nil ⟨H,I,h⟩
theorem q8e{X:Cx}{c:Expr}{t:TT}(h:PT X c t):PIfs X [c] t:=fun pins s σ H Q I q=>wpAny_tests_one (h pins s σ H Q I q)
def Keeps0(σ0 σ2:St):Prop:=σ0.length=σ2.length/\∀(i:Nat) v,σ0[i]?=some (some v)->σ2[i]?=some (some v)
def CompW(J:It)(g:TG)(tt:TT)(te:TE)(σ0:St)(D:Addr)(Fin:List V->Hp->Prop)(H1:Hp):Prop :=
 ∃W:Nat->Nat->List V->Hp->Prop,(∃m,W 0 m [] (upd H1 D (.lst [])))/\∀i m ys H,W i m ys H->H D=some (.lst ys) /\
  ((J.stop i H/\Fin ys H)\/(J.go i H/\∃N:List V->Hp->Prop,(∀zs H',N zs H'->∃m',m'<m/\W (i+1) m' zs H')/\∀x H',J.yld i H x H'->g x σ0 H' fun σ2 H2=>Keeps0 σ0 σ2/\tt σ2 H2 fun b H3 =>
   if b=true then te σ2 H3 fun v H4=>H4 D=some (.lst ys)/\ys.length<sizeLine/\N (ys++[v]) (upd H4 D (.lst (ys++[v])))
   else N ys H3))
theorem z2l{σ:St}{Fin:Addr->List V->Hp->Prop}{RR:Value->Addr->Result->Ag->Prop}(hc:X.calm=true)(hkind:scope.kind=.function)(hnc:∀y∈scope.names,y.2≠.cell)(hc1:∀x c,cl.lookup x=some c->X.env.cells.lookup x=some c)(hc2:∀x,(x,Az.free)∈scope.names->∃c,cl.lookup x=some c)(co:CapOk X scope caps)(hg:∀C s H,PG (cxComp X (tg++caps.map (·.1)) scope cl C fp s H) target g)(ht:∀C s H,PIfs (cxComp X (tg++caps.map (·.1)) scope cl C fp s H) ifs tt)(he:∀C s H,PE (cxComp X (tg++caps.map (·.1)) scope cl C fp s H) elt te)(I2:Inv X pins σ H1 s₂)(T:Turn X.prog X.w X.K target J fp it tn)(st:tn 0 s₂.heap)(hf:∀b∈fp,FpOk X pins H1 b)(hw:∀D,H1 D=none->CompW J g tt te (tg0 tg σ caps) D (Fin D) H1)(hRR:∀D C ys H' s',H1 D=none->Inv X pins σ H' s'->(∃m,s'.heap.Ns C m)->FpOk X pins H' C->Fin D ys H'->RR (.ref D) C (.ok .next) s'):
  wpAny (model X.prog X.w) X.A (newList []) (fun acc s₃=>wpAny (model X.prog X.w) X.A (newFunctionEnv scope X.env.globals cl [] X.env.qual none .none (some X.env)) (fun cenv s₄ =>
   Hm (model X.prog X.w) X.A (.compStart (.ListComp elt [⟨target,iter,ifs,0⟩] scope pos) 0 (.ref it) acc { cenv with scope:=relabel scope X.env }) (RR acc cenv.locals) s₄) E s₃) E s₂:=by
 have I3:Inv X pins σ (upd H1 s₂.heap.objs.size (.lst [])) { s₂ with heap:=s₂.heap.push { cls:=.type "list",dict:=none,data:=.seq ([]:List Value).toArray },toks:=s₂.toks }:=I2.lnew .nil (Bg _);have hD0:=I2.fresh;refine Dq (wpAny_newFunctionEnv hnc (by intro y hy;simp at hy) (fun h₁ hns₁ hsb₁=>?_) hkind);dsimp only at hns₁ hsb₁ ⊢;generalize hDd:s₂.heap.objs.size=D at I3 hD0 hns₁ hsb₁ ⊢;generalize hs3:({ s₂ with heap:=s₂.heap.push { cls:=.type "list",dict:=none,data:=.seq ([]:List Value).toArray } }:Ag)=s₃ at I3 hns₁ hsb₁ ⊢;have e3:s₂.heap.push { cls:=.type "list",dict:=none,data:=.seq ([]:List Value).toArray }=s₃.heap:=by grind
 have o3:({ s₂ with heap:=h₁,toks:=s₂.toks+([]:List (Str×Value)).length }:Ag)={ s₃ with heap:=h₁,toks:=s₂.toks }:=by grind
 have size3:s₃.heap.objs.size=D+1:=by rw[<- e3,Gi,hDd]
 rw[e3] at hns₁ hsb₁ ⊢;have old3:∀b o,s₂.heap.get? b=some o->s₃.heap.get? b=some o:=fun b o e=>by rw[<- e3];exact Ad _ e
 generalize hCd:s₃.heap.objs.size=C at hns₁ hsb₁ ⊢;have hk:=fun b o e=>hsb₁.extBut b o (by rw[<- hCd];exact By (An e)) (Ad _ e);have fpo:∀b∈fp,∃o,s₂.heap.get? b=some o:=fun b hb=>by obtain⟨o,e,_⟩:=T.obj 0 _ st b hb;exact⟨o,e⟩
 have fpne:∀b∈fp,b≠D:=fun b hb=>by obtain⟨o,e⟩:=fpo b hb;rw[<- hDd];exact By (An e)
 have hf3:∀b∈fp,FpOk X pins (upd H1 D (.lst [])) b:=fun b hb=>⟨by rw[q0l (fpne b hb)];exact(hf b hb).1,(hf b hb).2⟩
 have IY:=Inv.ofcomp (tk:=s₂.toks) tg I3 hkind hnc hc1 hc2 hf3 (fun b hb=>let ⟨o,e⟩:=fpo b hb;⟨o,old3 b o e⟩) (Kq hCd) hns₁ hk co;have FC:FpOk X pins H1 C:=by
  have z:=I3.fpOk (H':=H1) (Kq hCd) (I2.hok.fresh (by rw[hDd,<- hCd,size3];exact Hc _));exact z
 generalize hY:cxComp X (tg++caps.map (·.1)) scope cl C fp s₃ (upd H1 D (.lst []))=Y at IY;have hgY:PG Y target g:=by grind
 have htY:PIfs Y ifs tt:=by grind
 have heY:PE Y elt te:=by grind
 have hYp:Y.prog=X.prog:=by rw[<- hY];rfl
 have hYw:Y.w=X.w:=by rw[<- hY];rfl
 have hYK:Y.K=X.K:=by rw[<- hY];rfl
 have hYA:Y.A=X.A:=by rw[<- hY];rfl
 have hYe:Y.env=Jj scope cl C X.env:=by rw[<- hY];rfl
 have hYx:Y.ex=fp:=by rw[<- hY];rfl
 have hYn:Y.pn=[]:=by rw[<- hY];rfl
 have hYc:Y.calm=true:=by rw[<- hY];exact hc
 have hYxe:Y.xe=fun _ _=>False:=by rw[<- hY];rfl
 have fpY:∀{H':Hp},(∀b∈fp,H' b=none)->∀b∈fp,FpOk Y [] H' b:=fun{H'} hn b hb=>by
  refine⟨hn b hb,?_,?_,.inl (by rw[hYx];exact hb),fun x c e=>?_,fun p hp=>?_⟩
  ·have:=(IY.ok.exf b (by rw[hYx];exact hb)).1;exact this
  ·exact IY.ok.exfs b (by rw[hYx];exact hb)
  ·exact(IY.ok.exf b (by rw[hYx];exact hb)).2 x c e
  ·grind
 obtain⟨W,⟨m0,w0⟩,turn⟩:=hw D hD0;have stY:=T.keep 0 _ _ st fun b hb o e=>hk b o (old3 b o e)
 have back:∀{H':Hp} {s':Ag} {σ':St},Inv Y [] σ' H' s'->Inv X pins σ H' s':=fun{H' s' σ'} IE=>by
  have hun:=IE.base;have hos:=IE.os;rw[<- hY] at hun hos;exact I3.call' hos hun (by have z:=IE.hok;rw[hYp,hYw] at z;exact z) IE.bare fun b hb=>⟨(hf b hb).2.2.2.1,(hf b hb).2.1,(hf b hb).2.2.2.2.1,(hf b hb).2.2.2.2.2⟩
 have gY:∀pins s σ H v u Q (E':Value->Ag->Prop),Inv Y pins σ H s->RelV v u->g v σ H Q->wpAny (model X.prog X.w) X.A (assign target (Jj scope cl C X.env) u) (fun _ s'=>∃σ' H',Inv Y pins σ' H' s'/\Q σ' H') E' s:=fun pins s σ H v u Q E' IE r q=>by
  have z:=hgY pins s σ H v u Q IE r q;rw[hYp,hYw,hYA,hYe,hYxe] at z;exact Cc z (fun _ _ x=>x) fun _ _ f=>f.elim
 have tY:∀pins s σ H Q (E':Value->Ag->Prop),Inv Y pins σ H s->tt σ H Q->wpAny (model X.prog X.w) X.A (forIn ifs true fun c r=>if r=true then do let ok<-isTrue c (Jj scope cl C X.env) (eval c (Jj scope cl C X.env));pure (ForInStep.yield ok) else pure (ForInStep.yield r)) (TP Y pins σ Q) E' s:=fun pins s σ H Q E' IE q=>by
  have z:=htY pins s σ H Q IE q;rw[hYp,hYw,hYA,hYe,hYxe] at z;exact Cc z (fun _ _ x=>x) fun _ _ f=>f.elim
 have eY:∀pins s σ H Q (E':Value->Ag->Prop),Inv Y pins σ H s->te σ H Q->wpAny (model X.prog X.w) X.A (eval elt (Jj scope cl C X.env)) (EP Y pins σ Q) E' s:=fun pins s σ H Q E' IE q=>by
  have z:=heY pins s σ H Q IE q;rw[hYp,hYw,hYA,hYe,hYxe] at z;exact Cc z (fun _ _ x=>x) fun _ _ f=>f.elim
 have aY:∀pins s σ H ys v u Q (E':Value->Ag->Prop),Inv Y pins σ H s->RelV v u->H D=some (.lst ys)->ys.length<sizeLine->Q .non (upd H D (.lst (ys++[v])))->wpAny (model X.prog X.w) X.A (call (.builtin "list.append") [.ref D,u]) (EP Y pins σ Q) E' s:=fun pins s σ H ys v u Q E' IE r hH hz q=>by
  have z:=q1j pins s σ H (.ref D) [v] (.ref D) [u] Q IE rfl (.cons r .nil) ⟨D,ys,v,rfl,rfl,hH,hz,q⟩;rw[hYp,hYw,hYA,hYxe] at z;exact Cc z (fun _ _ x=>x) fun _ _ f=>f.elim
 have tiY:∀i pins s σ H (E':Value->Ag->Prop),Inv Y pins σ H s->(∀b∈fp,FpOk Y pins H b)->tn i s.heap->J.go i H ->
   wpAny (model X.prog X.w) X.A (Nl (.ref it)) (fun r s1=>∃u,r=some u /\
    wpAny (model X.prog X.w) X.A (Lf target (.ref it) u) (fun _ s2=>∃x H',Inv Y pins σ H' s2/\RelV x u/\J.yld i H x H'/\tn (i+1) s2.heap/\∀b∈fp,H' b=none) E' s1) E' s:=fun i pins s σ H E' IE hfy st go=>by
  have z:=T.item Y hYp hYw hYK hYc i pins s σ H E' IE hfy st go;rw[hYA] at z;exact z
 have tdY:∀i pins s σ H (E':Value->Ag->Prop),Inv Y pins σ H s->(∀b∈fp,FpOk Y pins H b)->tn i s.heap->J.stop i H ->
   wpAny (model X.prog X.w) X.A (Nl (.ref it)) (fun r s1=>r=none/\Inv Y pins σ H s1) E' s:=fun i pins s σ H E' IE hfy st go=>by
  have z:=T.done Y hYp hYw hYK hYc i pins s σ H E' IE hfy st go;rw[hYA] at z;exact z
 have loop:Hm (model X.prog X.w) X.A (.compLoop (.ListComp elt [⟨target,iter,ifs,0⟩] scope pos) 0 (.ref it) (.ref D) (Jj scope cl C X.env)) (RR (.ref D) C) { s₃ with heap:=h₁,toks:=s₂.toks }:=by
  refine codeAny_loop rfl (fun n s'=>∃i ys H',Inv Y [] (tg0 tg σ caps) H' s'/\tn i s'.heap/\(∀b∈fp,H' b=none)/\W i n ys H') ?_ m0 ⟨0,[],_,IY,stY,fun b hb=>(hf3 b hb).1,w0⟩;rintro n s4 ⟨i,ys,H4,I4,st4,fr4,w4⟩;refine wpAny_noted ?_;obtain⟨hHD,alt⟩:=turn i n ys H4 w4;rcases alt with⟨stop,fin⟩|⟨go,N,hN,step⟩
  ·refine Ac (Co (Ac (thn (tdY i [] s4 _ H4 _ I4 (fpY fr4) st4 stop) fun r s5 ⟨hr,I5⟩=>?_)));subst hr;refine Aj (hRR D C ys H4 s5 hD0 (back I5) ?_ ⟨?_,FC.2⟩ fin)
   ·obtain⟨m,hm,_⟩:=I5.loc;rw[hYe] at hm;exact⟨m,hm⟩
   ·have z:=I5.free;rw[hYe] at z;exact z
  ·refine Ac (Co (Ac (thn (tiY i [] s4 _ H4 _ I4 (fpY fr4) st4 go) fun r s5 ⟨u,hr,h5⟩=>?_)));subst hr;refine Ac (thn h5 fun _ s6 ⟨x,H6,I6,r6,y6,st6,fr6⟩=>?_);have I6':=I6.pinned (fpY fr6) (T.obj _ _ st6);refine Ac (thn (gY _ s6 _ H6 x u _ _ I6' r6 (step x H6 y6)) fun _ s7 ⟨σ7,H7,I7,kp,q7⟩=>?_);refine Ac (thn (tY _ s7 σ7 H7 _ _ I7 q7) fun b s8 ⟨H8,I8,q8⟩=>?_);have again:∀{H9:Hp} {s9:Ag} {zs:List V} {m':Nat},Inv Y ([]++pinsAt fp s6.heap) σ7 H9 s9->m'<n->W (i+1) m' zs H9->∃m,m<n/\∃i ys H',Inv Y [] (tg0 tg σ caps) H' s9/\tn i s9.heap/\(∀b∈fp,H' b=none)/\W i m ys H':=fun{H9 s9 zs m'} I9 hm w9=>by
    refine⟨m',hm,i+1,zs,H9,I9.unpinned.weak kp.1 kp.2,T.keep _ _ _ st6 fun b hb o e=>(I9.pin (b,o) (Cg _ (Cg _ (q3n hb e)))).1,fun b hb=>?_,w9⟩;obtain⟨o,e,d⟩:=T.obj _ _ st6 b hb;exact(I9.pin (b,o) (Cg _ (Cg _ (q3n hb e)))).2.1
   cases b with
   |true =>
    refine Ac (Ac (thn (eY _ s8 σ7 H8 _ _ I8 q8) fun v s9 ⟨vv,H9,I9,r9,hH9,hz9,n9⟩=>?_));obtain⟨m',hm',w9⟩:=hN _ _ n9;refine Ac (thn (aY _ s9 σ7 H9 ys vv v (fun _ H10=>W (i+1) m' (ys++[vv]) H10) _ I9 r9 hH9 hz9 w9) fun _ s10 ⟨_,H10,I10,_,w10⟩=>?_);exact Aj (Aj ⟨rfl,again I10 hm' w10⟩)
   |false =>
    obtain⟨m',hm',w8⟩:=hN _ _ q8;exact Aj ⟨rfl,again I8 hm' w8⟩
 rw[o3];exact codeAny_compStart_list loop (T.self _ 0 _ _ _ stY loop)
def isCF(k:Option Az):Bool:=k==some .cell||k==some .free
def capChk(N:List Str)(names outer:List (Str×Az)):Caps->Bool
 |[]=>true
 |(x,i)::r=>decide (N[i]?=some x)&&(names.lookup x==some .free)&&isCF (outer.lookup x)&&capChk N names outer r
def compChk(N:List Str)(outer scope:Scope)(caps:Caps):Bool :=
 (scope.kind==.function)&&(scope.names.all fun y=>y.2 != .cell&&(y.2 != .local||scope.names.lookup y.1==some .local)&&(y.2 != .free||isCF (outer.names.lookup y.1)))&&capChk N scope.names outer.names caps
theorem z5d(h:isCF k=true):k=some .cell\/k=some .free:=by
 unfold isCF at h;simpa using h
theorem z0a:∀{caps:Caps},capChk X.N scope.names X.env.scope.names caps=true->CapOk X scope caps
 |[],_=>trivial
 |(x,i)::r,h=>by
  unfold capChk at h;simp only[Gq] at h;obtain⟨⟨⟨h1,h2⟩,h3⟩,h4⟩:=h;exact⟨⟨of_decide_eq_true h1,by simpa using h2,z5d h3⟩,z0a h4⟩
theorem q7k(h:compChk X.N X.env.scope scope caps=true):
  scope.kind=.function/\(∀y∈scope.names,y.2≠.cell)/\(∀y∈scope.names,y.2=.local->scope.names.lookup y.1=some .local)/\(∀x,(x,Az.free)∈scope.names->X.env.scope.names.lookup x=some .cell\/X.env.scope.names.lookup x=some .free)/\CapOk X scope caps:=by
 unfold compChk at h;simp only[Gq,Oq] at h;obtain⟨⟨h1,h2⟩,h3⟩:=h;refine⟨by simpa using h1,fun y hy e=>?_,fun y hy e=>?_,fun x hx=>?_,z0a h3⟩
 ·have z:=(h2 y hy).1.1;rw[e] at z;simp at z
 ·have z:=(h2 y hy).1.2;rw[e] at z;simpa using z
 ·have z:=(h2 _ hx).2;exact z5d (by simpa using z)
def tComp(wi:TI)(g:TG)(tt:TT)(te:TE)(tg:List Str)(caps:Caps):TE:=fun σ H Q=>wi σ H fun J H1=>∀D,H1 D=none->CompW J g tt te (tg0 tg σ caps) D (fun _ H'=>Q (.ref D) H') H1
section
variable{X:Cx}{iter target elt:Expr}{ifs:List Expr}{scope:Scope}{pos:Pos}{wi:TI}{g:TG}{tt:TT}{te:TE}
theorem z5e{σ:St}(I:Inv X pins σ H s)(hfree:∀x,(x,Az.free)∈scope.names->X.env.scope.names.lookup x=some .cell\/X.env.scope.names.lookup x=some .free):
  ∃cl,Pj scope X.env=pure cl/\(∀x c,cl.lookup x=some c->X.env.cells.lookup x=some c)/\∀x,(x,Az.free)∈scope.names->∃c,cl.lookup x=some c :=
 z3t fun x hx=>I.ok.has x (hfree x hx)
theorem q8f(tg:List Str)(caps:Caps)(hc:X.calm=true)(hi:PI X target iter wi)(hg:∀cl C fp s H,PG (cxComp X (tg++caps.map (·.1)) scope cl C fp s H) target g)(ht:∀cl C fp s H,PIfs (cxComp X (tg++caps.map (·.1)) scope cl C fp s H) ifs tt)(he:∀cl C fp s H,PE (cxComp X (tg++caps.map (·.1)) scope cl C fp s H) elt te)(hk:compChk X.N X.env.scope scope caps=true:=by rfl)(hs:∀x,Ka iter X.env x=pure x:=by intro _;rfl):
  PE X (.ListComp elt [⟨target,iter,ifs,0⟩] scope pos) (tComp wi g tt te tg caps):=by
 intro pins s σ H Q I h;obtain⟨hkind,hnc,hnames,hfree,co⟩:=q7k hk;obtain⟨cl,hclos,hc1,hc2⟩:=z5e I hfree;refine Kv rfl hs hclos hkind hnames (thn (hi pins s σ H _ I h) fun v s1 h1=>thn h1 fun itv s2 h2=>?_);obtain⟨it,fp,tn,J,H2,e,I2,T,st2,f2,hw⟩:=h2;subst e;refine z2l hc hkind hnc hc1 hc2 co (fun C s H=>hg cl C fp s H) (fun C s H=>ht cl C fp s H) (fun C s H=>he cl C fp s H) I2 T st2 f2 hw ?_;intro D C ys H' s' hD I' hm F fin;obtain⟨m,hm⟩:=hm;refine⟨m,hm,fun h' hsb=>⟨.ref D,H',I'.turned (t':=s'.toks) (fun b o hb e=>(hsb.2 b hb).trans e) F.1 F.2.1 F.2.2.2.1 F.2.2.2.2.1 F.2.2.2.2.2,rfl,fin⟩⟩
def tSetC(wi:TI)(g:TG)(tt:TT)(te:TE)(tg:List Str)(caps:Caps)(i:Nat):TS:=fun D' σ H=>wi σ H fun J H1=>∀D,H1 D=none->CompW J g tt te (tg0 tg σ caps) D (fun _ H'=>D'.nx (σ.set i (some (.ref D))) H') H1
theorem q8g{i:Nat}{y:Str}{py spos:Pos}(tg:List Str)(caps:Caps)(hN:X.N.Nodup)(hiN:X.N[i]?=some y)(hx:Loc X.env.scope y)(hc:X.calm=true)(hi:PI X target iter wi)(hg:∀cl C fp s H,PG (cxComp X (tg++caps.map (·.1)) scope cl C fp s H) target g)(ht:∀cl C fp s H,PIfs (cxComp X (tg++caps.map (·.1)) scope cl C fp s H) ifs tt)(he:∀cl C fp s H,PE (cxComp X (tg++caps.map (·.1)) scope cl C fp s H) elt te)(hk:compChk X.N X.env.scope scope caps=true:=by rfl)(hs:∀x,Ka iter X.env x=pure x:=by intro _;rfl)(hsw:Le (.ListComp elt [⟨target,iter,ifs,0⟩] scope pos) (some (.Name y py)) spos.line X.env=pure true:=by rfl)(hf:X.fn y=true\/X.env.scope.names.lookup y=some .local:=by first|exact .inl rfl|exact .inr rfl|assumption):
  PS X (.Assign [.Name y py] (.ListComp elt [⟨target,iter,ifs,0⟩] scope pos) spos) (tSetC wi g tt te tg caps i):=by
 intro pins s σ H D' I h;obtain⟨hkind,hnc,hnames,hfree,co⟩:=q7k hk;obtain⟨cl,hclos,hc1,hc2⟩:=z5e I hfree;rw[exec_Assign_Name_used _ _ _ _ hsw];refine Ac (Co (Ac ?_));refine Ac (Cc (Kv (use:=some (assign (.Name y py) X.env)) rfl hs hclos hkind hnames
  (thn (hi pins s σ H _ I h) fun v s1 h1=>thn h1 fun itv s2 h2=>?_)) (fun _ s' hq=>Aj (Aj hq)) fun _ _ e=>e)
 obtain⟨it,fp,tn,J,H2,e,I2,T,st2,f2,hw⟩:=h2;subst e;refine z2l (RR:=fun acc C=>compPost (model X.prog X.w) X.A X.xe (some (assign (.Name y py) X.env)) (fun _ s'=>SP X pins D' .next s') acc C) (Fin:=fun D _ H'=>D'.nx (σ.set i (some (.ref D))) H') hc hkind hnc hc1 hc2 co (fun C s H=>hg cl C fp s H) (fun C s H=>ht cl C fp s H) (fun C s H=>he cl C fp s H) I2 T st2 f2 hw ?_;intro D C ys H' s' hD I' hm F fin;obtain⟨m,hm⟩:=hm;refine Nz (q9l (v:=.ref D) I' hN hiN hx rfl (fun s'' I'' hsb=>?_) hf);obtain⟨a,sb,ha⟩:=hsb;have hCa:C≠a:=by
  rcases ha with ha|ha
  ·rw[ha];exact F.2.1
  ·exact fun z=>F.2.2.2.2.1 y a ha z.symm
 refine⟨m,hm.sameBut sb hCa,fun h' hs'=>?_⟩;exact⟨_,H',I''.turned (t':=s''.toks) (fun b o hb e=>(hs'.2 b hb).trans e) F.1 F.2.1 F.2.2.2.1 F.2.2.2.2.1 F.2.2.2.2.2,fin⟩
end
theorem z1e{Fin:List V->Hp->Prop}(Pv:Nat->List V->Hp->Prop)(h0:Pv 0 [] (upd H1 D (.lst [])))(hl:∀i ys H,Pv i ys H->H D=some (.lst ys))(hgo:∀i ys H,i<n->Pv i ys H->J.go i H)(hstop:∀ys H,Pv n ys H->J.stop n H)(hs:∀i ys H x H',i<n->Pv i ys H->J.yld i H x H'->g x σ0 H' fun σ2 H2=>Keeps0 σ0 σ2/\tt σ2 H2 fun b H3 =>
   if b=true then te σ2 H3 fun v H4=>H4 D=some (.lst ys)/\ys.length<sizeLine/\Pv (i+1) (ys++[v]) (upd H4 D (.lst (ys++[v]))) else Pv (i+1) ys H3)(hd:∀ys H,Pv n ys H->Fin ys H):CompW J g tt te σ0 D Fin H1:=by
 refine⟨fun i m ys H=>m=n-i/\i<=n/\Pv i ys H,⟨n,by simp,Bg _,h0⟩,?_⟩;rintro i m ys H ⟨rfl,hi,p⟩;refine⟨hl i ys H p,?_⟩;by_cases hlt:i<n
 ·exact .inr ⟨hgo i ys H hlt p,Pv (i+1),fun zs H' q=>⟨n-(i+1),by lia,rfl,hlt,q⟩,fun x H' y=>hs i ys H x H' hlt p y⟩
 ·grind
theorem q7l{lo:Int}{Fin:List V->Hp->Prop}(Pv:Nat->List V->Hp->Prop)(h0:Pv 0 [] (upd H1 D (.lst [])))(hl:∀i ys H,Pv i ys H->H D=some (.lst ys))(hs:∀i ys H,i<n->Pv i ys H->g (.int (lo+i)) σ0 H fun σ2 H2=>Keeps0 σ0 σ2/\tt σ2 H2 fun b H3 =>
   if b=true then te σ2 H3 fun v H4=>H4 D=some (.lst ys)/\ys.length<sizeLine/\Pv (i+1) (ys++[v]) (upd H4 D (.lst (ys++[v]))) else Pv (i+1) ys H3)(hd:∀ys H,Pv n ys H->Fin ys H):CompW (Itr lo n) g tt te σ0 D Fin H1 :=
 z1e Pv h0 hl (fun i ys H h _=>h) (fun ys H _=>Ah _) (fun i ys H x H' h p y=>by obtain⟨e,y⟩:=y;subst e y;exact hs i ys _ h p) hd
theorem q4k{K:Af}{Fin:List V->Hp->Prop}(Pv:Nat->List V->Hp->Prop)(h0:Pv 0 [] (upd H1 D (.lst [])))(hl:∀i ys H,Pv i ys H->H D=some (.lst ys)/\SqL K H a xs)(hs:∀i ys H x,xs[i]?=some x->Pv i ys H->g x σ0 H fun σ2 H2=>Keeps0 σ0 σ2/\tt σ2 H2 fun b H3 =>
   if b=true then te σ2 H3 fun v H4=>H4 D=some (.lst ys)/\ys.length<sizeLine/\Pv (i+1) (ys++[v]) (upd H4 D (.lst (ys++[v]))) else Pv (i+1) ys H3)(hd:∀ys H,Pv xs.length ys H->Fin ys H):CompW (Itl K a) g tt te σ0 D Fin H1 :=
 z1e Pv h0 (fun i ys H p=>(hl i ys H p).1) (fun i ys H h p=>⟨xs,xs[i],(hl i ys H p).2,by simp[h]⟩) (fun ys H p=>⟨xs,(hl _ ys H p).2,Ah _⟩)
  (fun i ys H x H' h p y=>by obtain⟨e,y⟩:=y;subst e;exact hs i ys _ x (y xs (hl i ys _ p).2) p) hd
theorem q5c{r:St}:Keeps0 (none::r) (v::r):=⟨rfl,fun i w h=>by
 cases i with
 |zero=>cases h
 |succ i=>exact h⟩
theorem q3p{r:St}:Keeps0 (none::none::r) (v::w::r):=⟨rfl,fun i u h=>by
 cases i with
 |zero=>cases h
 |succ i=>cases i with
  |zero=>cases h
  |succ i=>exact h⟩
open PySem PySem.Spec PyProof.Rows
section
variable{X:Cx}
def rSlS:V->Option Int->Option Int->Hp->VK->Prop:=fun x lo hi H Q=>∃z,x=.str z/\z.length<=sizeLine/\Q (.str (Nq z lo hi)) H
theorem q6k(h:Jr v o):∃p:Option (Int×Tok),v=partValue p/\o=p.map (·.1):=by
 cases h with
 |none=>exact⟨none,rfl,rfl⟩
 |int i t=>exact⟨some (i,t),rfl,rfl⟩
theorem sl_str:SlR X rSlS:=by
 intro pins s σ H x v vl vu lo hi sl Q I rx hs pl pu h;obtain⟨z,rfl,hz,q⟩:=h;obtain⟨t,rfl⟩:=rx;obtain⟨p1,rfl,rfl⟩:=q6k pl;obtain⟨p2,rfl,rfl⟩:=q6k pu;refine⟨"str",_,F.slot_str_getitem.lookup,Pe _ _ _,wpAny_getItem_str_slice (st:=none) hs rfl
  (post_val_or_str ⟨Aw (Txt.slice_le z _ _) hz,fun t' k=>⟨.str (Nq z (p1.map (·.1)) (p2.map (·.1))),H,I.tok _,⟨t',rfl⟩,q⟩⟩)⟩
def rLower:V->List V->Hp->VK->Prop:=fun x vs H Q=>∃z,x=.str z/\vs=[]/\3*z.length<=sizeLine/\Q (.str (Txt.lower z)) H
theorem fit3(h:n<=3*m)(h2:3*m<=sizeLine):Dz.Str.tooLong n=false:=by
 exact decide_eq_false (by lia)
theorem z7h:MtM X "str.lower" rLower:=by
 intro pins s σ H x vs v us Q I rx rv h;obtain⟨z,rfl,rfl,hz,q⟩:=h;obtain⟨t,rfl⟩:=rx;cases rv.zero;exact SC.lower (fit3 (len_lower z) hz) ⟨.str _,H,I.tok _,⟨_,rfl⟩,q⟩
def rUpper:V->List V->Hp->VK->Prop:=fun x vs H Q=>∃z,x=.str z/\vs=[]/\3*z.length<=sizeLine/\Q (.str (Txt.upper z)) H
theorem z7i:MtM X "str.upper" rUpper:=by
 intro pins s σ H x vs v us Q I rx rv h;obtain⟨z,rfl,rfl,hz,q⟩:=h;obtain⟨t,rfl⟩:=rx;cases rv.zero;exact SC.upper (fit3 (len_upper z) hz) ⟨.str _,H,I.tok _,⟨_,rfl⟩,q⟩
theorem q5d:∀{ys:List Str} {us:List Value},Vals (ys.map V.str) us->StrsAre us ys
 |[],_,.nil=>.nil
 |y::ys,_,.cons r t=>by obtain⟨k,rfl⟩:=r;exact .cons y k (q5d t)
def rJoin(K:Af):V->List V->Hp->VK->Prop:=fun x vs H Q=>∃(z:Str) (p:Addr) (ys:List Str),x=.str z/\vs=[.ref p]/\(SqL K H p (ys.map V.str)\/SqT K H p (ys.map V.str))/\(ys.map (·.length)).sum+ys.length*z.length<=16777216/\Q (.str (Ot z ys)) H
theorem x0b:MtM X "str.join" (rJoin X.K):=by
 intro pins s σ H x vs v us Q I rx rv h;obtain⟨z,p,ys,rfl,rfl,hq,hz,q⟩:=h;obtain⟨t,rfl⟩:=rx;obtain⟨u,rfl,ru⟩:=rv.one;cases ru;rcases hq with hq|hq
 ·obtain⟨its,r,pl,_⟩:=I.list hq;exact join_list pl.isList (q5d (by simpa using r)) hz fun t' k=>⟨.str _,H,I.tok _,⟨_,rfl⟩,q⟩
 ·obtain⟨its,r,pl,_⟩:=I.tuple hq;exact join_tuple pl (q5d (by simpa using r)) hz fun t' k=>⟨.str _,H,I.tok _,⟨_,rfl⟩,q⟩
def rMulS:R2:=fun x y H Q=>∃z n,x=.str z/\y=.int n/\MulOk z n/\Q (.str (Txt.mul z n)) H
theorem op_mulS:OpR X (Fc .Mult) rMulS:=by
 intro pins s σ H x y v u Q I rx ry h;obtain⟨z,n,rfl,rfl,hm,q⟩:=h;obtain⟨t,rfl⟩:=rx;obtain⟨t',rfl⟩:=ry;exact SB.mul hm fun t2 k=>⟨.str _,H,I.tok _,⟨_,rfl⟩,q⟩
theorem q6l:∀{bs:List Bool} {us:List Value},Vals (bs.map V.bl) us->LSm.BoolsAre us bs
 |[],_,.nil=>.nil
 |b::bs,_,.cons r t=>by cases r;exact .cons b (q6l t)
theorem z7j(hc:X.calm=true):CallR X (.builtin "all") (fun xs H Q=>∃(p:Addr) (bs:List Bool),xs=[.ref p]/\SqL X.K H p (bs.map V.bl)/\Q (.bl (bs.all id)) H):=by
 intro pins s σ H xs us Q I r h;obtain⟨p,bs,rfl,hq,q⟩:=h;obtain⟨u,rfl,rx⟩:=vals1 r;cases rx;obtain⟨its,r',pl,hz⟩:=I.list hq;have hb:=q6l r';have hlt:p<s.heap.objs.size:=by obtain⟨_,e,_⟩:=pl.isList;exact An e
 refine call_all_walk (Jz pl.isList ?_);refine⟨s.heap.objs.size,[s.heap.objs.size,p],[s.heap.objs.size],its.toArray.size,_,_,fun i=>(bs[i]?).getD true,rfl,Walks.list (A:=X.A.in1) (I.ok.hd hc) _ p (By hlt) its.toArray,
  ⟨⟨_,As _ rfl,rfl,rfl⟩,pl.isList.push _⟩,fun i v s' Q' E' hP hQ=>?_,fun h' tk hk=>?_⟩
 ·obtain⟨b,e,rfl⟩:=hb.get i v (by simpa using hP);simp only[e,Option.getD_some] at hQ;exact Gg hQ
 ·have e:((List.range its.toArray.size).all fun i=>(bs[i]?).getD true)=bs.all id:=by
   rw[Ar,hb.length];exact LSm.range_all bs
  rw[e];exact⟨.bl _,H,I.kept (t':=tk) (LSm.kept_iter hk),rfl,q⟩
def Its(z:Str):It:=⟨fun i _=>i<z.length,fun i H x H'=>H'=H/\∃c,z.cps[i]?=some c/\x=.str ⟨#[c]⟩,fun i _=>z.length<=i⟩
end
theorem z5f{K:Af}(it:Addr)(z:Str)(t:Tok):Turn P w K tg (Its z) [it] it (fun i h=>i<=z.length/\h.IsStrIter it "str_ascii_iterator" z t i) where
 mem:=by simp
 obj:=fun i h st b hb=>by
  have e:b=it:=by grind
  subst e;obtain⟨_,o,e,c,d⟩:=st;exact⟨o,e,fun v z=>by rw[d] at z;cases z⟩
 keep:=fun i h h' st k=>⟨st.1,let ⟨o,e,c,d⟩:=st.2;⟨o,k it (by simp) o e,c,d⟩⟩
 item:=by
  intro X hP hw hK hc i pins s σ H E I hf st hg;obtain⟨f0,f1,f2,f3,f4,f5⟩:=hf it (by simp);have hi:i<z.cps.size:=hg;refine wpAny_pyNext_ascii_item st.2 (c:=z.cps[i]) (by simp[hi]) fun h' hit' hs'=>?_;have I1:Inv X pins σ H { s with heap:=h',toks:=s.toks+1 }:=I.turned (fun b o hb e=>(hs'.2 b hb).trans e) f0 f1 f3 f4 f5;obtain⟨o,e,c,d⟩:=id hit';exact⟨_,rfl,z3i e c d (by decide) ⟨.str ⟨#[z.cps[i]]⟩,H,I1,⟨_,rfl⟩,⟨rfl,_,by simp[hi],rfl⟩,⟨hg,hit'⟩,fun b hb=>(hf b hb).1⟩⟩
 done:=by
  intro X hP hw hK hc i pins s σ H E I hf st hg;obtain⟨f0,f1,f2,f3,f4,f5⟩:=hf it (by simp);have hi:z.cps.size<=i:=hg;exact wpAny_pyNext_ascii_end (I.ok.hd hc) st.2 (by simp;lia) fun h' eb=>⟨rfl,I.turned (t':=s.toks) (fun b o hb e=>eb b o hb e) f0 f1 f3 f4 f5⟩
 self:=fun _ _ _ _ _ st h=>wpAny_pyIter_striter_ascii st.2 h
theorem z5g{K:Af}(it:Addr)(z:Str)(t:Tok):Turn P w K tg (Its z) [it] it (fun i h=>i<=z.length/\h.IsStrIter it "str_iterator" z t i) where
 mem:=by simp
 obj:=fun i h st b hb=>by
  have e:b=it:=by grind
  subst e;obtain⟨_,o,e,c,d⟩:=st;exact⟨o,e,fun v z=>by rw[d] at z;cases z⟩
 keep:=fun i h h' st k=>⟨st.1,let ⟨o,e,c,d⟩:=st.2;⟨o,k it (by simp) o e,c,d⟩⟩
 item:=by
  intro X hP hw hK hc i pins s σ H E I hf st hg;obtain⟨f0,f1,f2,f3,f4,f5⟩:=hf it (by simp);have hi:i<z.cps.size:=hg;refine wpAny_pyNext_wide_item st.2 (c:=z.cps[i]) (by simp[hi]) fun h' hit' hs'=>?_;have I1:Inv X pins σ H { s with heap:=h',toks:=s.toks+1 }:=I.turned (fun b o hb e=>(hs'.2 b hb).trans e) f0 f1 f3 f4 f5;obtain⟨o,e,c,d⟩:=id hit';exact⟨_,rfl,z3i e c d (by decide) ⟨.str ⟨#[z.cps[i]]⟩,H,I1,⟨_,rfl⟩,⟨rfl,_,by simp[hi],rfl⟩,⟨hg,hit'⟩,fun b hb=>(hf b hb).1⟩⟩
 done:=by
  intro X hP hw hK hc i pins s σ H E I hf st hg;obtain⟨f0,f1,f2,f3,f4,f5⟩:=hf it (by simp);have hi:z.cps.size<=i:=hg;exact wpAny_pyNext_wide_end (I.ok.hd hc) st.2 (by simp;lia) fun h' eb=>⟨rfl,I.turned (t':=s.toks) (fun b o hb e=>eb b o hb e) f0 f1 f3 f4 f5⟩
 self:=fun _ _ _ _ _ st h=>wpAny_pyIter_striter_wide st.2 h
theorem z7k{Fin:List V->Hp->Prop}(Pv:Nat->List V->Hp->Prop)(h0:Pv 0 [] (upd H1 D (.lst [])))(hl:∀i ys H,Pv i ys H->H D=some (.lst ys))(hs:∀i ys H c,z.cps[i]?=some c->Pv i ys H->g (.str ⟨#[c]⟩) σ0 H fun σ2 H2=>Keeps0 σ0 σ2/\tt σ2 H2 fun b H3 =>
   if b=true then te σ2 H3 fun v H4=>H4 D=some (.lst ys)/\ys.length<sizeLine/\Pv (i+1) (ys++[v]) (upd H4 D (.lst (ys++[v]))) else Pv (i+1) ys H3)(hd:∀ys H,Pv z.length ys H->Fin ys H):CompW (Its z) g tt te σ0 D Fin H1 :=
 z1e Pv h0 hl (fun i ys H h _=>h) (fun ys H _=>Ah _) (fun i ys H x H' h p y=>by obtain⟨e,c,hc,y⟩:=y;subst e y;exact hs i ys _ c hc p) hd
open PySem PySem.Spec PyProof.Rows
structure Vw (K:Af) (H:Hp) (h:Heap):Prop where
 lst:∀a xs,SqL K H a xs->∃its:List Value,Vals xs its/\h.IsList a its.toArray
 tup:∀a xs,SqT K H a xs->∃its:List Value,Vals xs its/\h.IsTuple a its.toArray
theorem SqL.ne{K:Af}(h:SqL K H a xs)(hb:H b=none)(hk:K.lookup b=none):a≠b:=by
 rintro rfl;rcases h with(h|⟨o,h⟩)|⟨o,_,_,h,_⟩
 ·rw[hb] at h;cases h
 ·rw[hb] at h;cases h
 ·rw[hk] at h;cases h
theorem SqT.ne{K:Af}(h:SqT K H a xs)(hb:H b=none)(hk:K.lookup b=none):a≠b:=by
 rintro rfl;rcases h with(h|⟨o,h⟩)|⟨o,_,_,h,_⟩
 ·rw[hb] at h;cases h
 ·rw[hb] at h;cases h
 ·rw[hk] at h;cases h
theorem Vw.but{K:Af}(v:Vw K H h)(hb:H b=none)(hk:K.lookup b=none)(k:∀c o,c≠b->h.get? c=some o->h'.get? c=some o):Vw K H h' :=
 ⟨fun a xs q=>let ⟨its,r,l⟩:=v.lst a xs q;⟨its,r,l.at fun o e=>k a o (q.ne hb hk) e⟩,fun a xs q=>let ⟨its,r,l⟩:=v.tup a xs q;⟨its,r,by
  obtain⟨o,e,z⟩:=l;exact⟨o,k a o (q.ne hb hk) e,z⟩⟩⟩
theorem Vw.linj{K:Af}(v:Vw K H h)(p:SqL K H a xs)(q:SqL K H a ys):xs=ys:=by
 obtain⟨its,r,o,e,_,n,d⟩:=v.lst a xs p;obtain⟨its',r',o',e',_,n',d'⟩:=v.lst a ys q;have:its=its':=by grind
 subst this;exact r.inj r'
theorem Inv.vw{σ:St}(I:Inv X pins σ H s):Vw X.K H s.heap :=
 ⟨fun a xs q=>let ⟨its,r,l,_⟩:=I.list q;⟨its,r,l.isList⟩,fun a xs q=>let ⟨its,r,l,_⟩:=I.tuple q;⟨its,r,l⟩⟩
structure Srce (P:Program) (w:World) (K:Af) (J:It) (it:Addr) (st:Nat->Heap->Prop):Prop where
 obj:∀i h,st i h->∃o,h.get? it=some o/\∀v,o.data≠.cell v
 keep:∀i h h',st i h->(∀o,h.get? it=some o->h'.get? it=some o)->st i h'
 item:∀(A:Around) (i:Nat) (s:Ag) (H:Hp) (Q:Value->Ag->Prop) (E:Value->Ag->Prop),A.handled=none->Vw K H s.heap->H it=none->K.lookup it=none->st i s.heap->J.go i H ->
  (∀u x h' tk,RelV x u->J.yld i H x H->st (i+1) h'->Gh it s.heap h'->Q u { s with heap:=h',toks:=tk })->wpAny (model P w) A (Kh (.ref it)) Q E s
 done:∀(A:Around) (i:Nat) (s:Ag) (H:Hp) (Q:Value->Ag->Prop) (E:Value->Ag->Prop),A.handled=none->Vw K H s.heap->H it=none->K.lookup it=none->st i s.heap->J.stop i H ->
  (∀h' e,Heap.ExtBut it s.heap h'->(∃o,h'.get? e=some o/\o.cls=.type "StopIteration")->E (.ref e) { s with heap:=h' })->wpAny (model P w) A (Kh (.ref it)) Q E s
theorem q6m{K:Af}(a it:Addr):Srce P w K (Itl K a) it (fun i h=>h.IsListIter it a i) where
 obj:=fun i h st=>by obtain⟨o,e,c,d⟩:=st;exact⟨o,e,fun v z=>by rw[d] at z;cases z⟩
 keep:=fun i h h' st k=>st.at fun o e=>k o e
 item:=fun A i s H Q E hh vw hn hk st go hQ=>by
  obtain⟨xs,x,hq,hx⟩:=go;obtain⟨its,rv,p⟩:=vw.lst a xs hq;obtain⟨u,hu,ru⟩:=rv.get hx;refine wpAny_nextOf_list_item st p (by simpa using hu) fun h' st' sb=>?_
  exact hQ u x h' s.toks ru ⟨rfl,fun ys hy=>by rw[vw.linj hy hq];exact hx⟩ st' sb
 done:=fun A i s H Q E hh vw hn hk st stop hE=>by
  obtain⟨xs,hq,hx⟩:=stop;obtain⟨its,rv,p⟩:=vw.lst a xs hq;have hl:=rv.length;exact wpAny_nextOf_list_end hh st p (by simp;lia) hE
def stStr(it:Addr)(z:Str)(t:Tok)(i:Nat)(h:Heap):Prop:=h.IsStrIter it (Fm z) z t i
theorem q8h{K:Af}(it:Addr)(z:Str)(t:Tok):Srce P w K (Its z) it (stStr it z t) where
 obj:=fun i h st=>by obtain⟨o,e,c,d⟩:=st;exact⟨o,e,fun v z=>by rw[d] at z;cases z⟩
 keep:=fun i h h' st k=>by obtain⟨o,e,r⟩:=st;exact⟨o,k o e,r⟩
 item:=fun A i s H Q E hh vw hn hk st go hQ=>by
  have hi:i<z.cps.size:=go;unfold stStr Fm at st;cases ha:z.cps.all (· < 128)
  ·rw[ha] at st;refine wpAny_nextOf_wide_item st (c:=z.cps[i]) (by simp[hi]) fun h' hit' hs'=>?_;exact hQ _ (.str ⟨#[z.cps[i]]⟩) h' (s.toks+1) ⟨_,rfl⟩ ⟨rfl,_,by simp[hi],rfl⟩ (by unfold stStr Fm;rw[ha];exact hit') hs'
  ·rw[ha] at st;refine wpAny_nextOf_ascii_item st (c:=z.cps[i]) (by simp[hi]) fun h' hit' hs'=>?_;exact hQ _ (.str ⟨#[z.cps[i]]⟩) h' (s.toks+1) ⟨_,rfl⟩ ⟨rfl,_,by simp[hi],rfl⟩ (by unfold stStr Fm;rw[ha];exact hit') hs'
 done:=fun A i s H Q E hh vw hn hk st stop hE=>by
  have hi:z.cps.size<=i:=stop;unfold stStr Fm at st;cases ha:z.cps.all (· < 128)
  ·rw[ha] at st;exact wpAny_nextOf_wide_end hh st (by simp;lia) hE
  ·rw[ha] at st;exact wpAny_nextOf_ascii_end hh st (by simp;lia) hE
theorem Inv.turnedL{σ:St}{ch:List Addr}(I:Inv X pins σ H s)(k:∀b o,b∉ch->s.heap.get? b=some o->h'.get? b=some o)(hf:∀b∈ch,FpOk X pins H b):Inv X pins σ H { s with heap:=h',toks:=t' }:=by
 have nit:∀b u,H b=some u->b∉ch:=fun b u e z=>by rw[(hf b z).1] at e;cases e
 refine I.step (g':=s.gens) (d':=s.drawn) (fun b hb=>?_) (fun b o _ _ hc e _=>k b o hc e) (fun b o _ _ hc e _=>⟨o.slots,k b o hc e⟩) (fun _ _ _ _ n=>n)
  (fun b o hc e=>?_) (fun _ _ e=>e) (fun _ _ _ e=>e) (fun b ps e=>⟨#[],by rw[e];simp⟩) (fun m hm=>?_) (fun b u e=>?_) I.bare
 ·exact⟨(hf b hb).2.2.2.1,(hf b hb).2.1,(hf b hb).2.2.2.2.1,(hf b hb).2.2.2.2.2⟩
 ·exact⟨o,k b o hc e⟩
 ·obtain⟨o,es,ep,ho,r⟩:=hm;exact⟨o,es,ep,k _ o (fun z=>(hf _ z).2.1 rfl) ho,r⟩
 ·refine(I.hok b u e).stay (fun c v hc q=>k c v ?_ q) (fun _ q=>q) fun _ _ q=>q;rcases hc with z|z
  ·rw[z];exact nit b u e
  ·exact nit c _ z
theorem Inv.track{σ:St}{T:Addr}(I:Inv X pins σ H s)(hT:X.s₀.heap.objs.size<=T)(hF:FpOk X pins H T)(new:ObjOk X.prog X.w (upd H T o) s.heap T o):Inv X pins σ (upd H T o) s:=by
 have hn:=hF.1;refine⟨I.ok,I.os,I.bare,⟨I.base.keep,I.base.slot,fun b ob e n hx=>?_,I.base.there,fun b xs e=>?_,fun b ob u e=>?_,fun b ps e=>?_⟩,I.loc,I.cell,?_,fun x c e=>?_,fun p hp=>?_,fun b u e=>?_,I.len⟩
 ·rw[q0l (By (Bb (An e) hT))];exact I.base.free b ob e n hx
 ·have z:=I.base.tups b xs e;rw[q0l (q0w z hn)];exact z
 ·have z:=I.base.frzs b ob u e;rw[q0l (q0w z hn)];exact z
 ·obtain⟨m,z⟩:=I.base.tbls b ps e;exact⟨m,by rw[q0l (q0w z hn)];exact z⟩
 ·rw[q0l (Cu hF.2.1)];exact I.free
 ·rw[q0l (hF.2.2.2.2.1 x c e)];exact I.freeC x c e
 ·obtain⟨e,n,ne,nf,d⟩:=I.pin p hp;exact⟨e,by rw[q0l (hF.2.2.2.2.2 p hp)];exact n,ne,nf,d⟩
 ·by_cases hb:b=T
  ·subst hb;rw[q0d] at e;cases e;exact new
  ·rw[q0l hb] at e;exact(I.hok b u e).stay (fun _ _ _ q=>q) (fun c q=>by rw[q0l (q0w q hn)];exact q) fun c xs q=>by rw[q0l (q0w q hn)];exact q
theorem FpOk.noK{σ:St}(I:Inv X pins σ H' s)(f:FpOk X pins H b):X.K.lookup b=none:=by
 cases e:X.K.lookup b with
 |none=>rfl
 |some o =>
  have e1:=I.ok.mod.kin b o e;rcases f.2.2.2.1 with z|z
  ·exact absurd z (I.ok.noex b o e1)
  ·exact absurd (Bb (An (I.ok.bs b o e1).1) z) (Fb _)
structure ZipA (z TI TO i1 i2:Addr):Prop where
 TIz:TI≠z
 TOz:TO≠z
 i1z:i1≠z
 i2z:i2≠z
 TITO:TI≠TO
 TIi1:TI≠i1
 TIi2:TI≠i2
 TOi1:TO≠i1
 TOi2:TO≠i2
 i12:i1≠i2
section
variable{prog:Program}{w:World}{K:Af}{A:Around}{E:Value->Ag->Prop}{s:Ag}{J1 J2:It}{t1 t2:Nat->Heap->Prop}{z TI TO i1 i2:Addr}{H:Hp}
theorem z5h{Q:Value->Ag->Prop}(D:ZipA z TI TO i1 i2)(S1:Srce prog w K J1 i1 t1)(S2:Srce prog w K J2 i2 t2)(hh:A.handled=none)(vw:Vw K H s.heap)(nH:∀b∈[z,TI,TO,i1,i2],H b=none)(nK:∀b∈[z,TI,TO,i1,i2],K.lookup b=none)(hz:IsZip s.heap z TI TO .none)(hTI:Hw s.heap TI (.ref i1) (.ref i2))(hTO:Hw s.heap TO a b)(h1:t1 i s.heap)(h2:t2 i s.heap)(g1:J1.go i H)(g2:J2.go i H)(hQ:∀u v x y h' tk,RelV x u->RelV y v->J1.yld i H x H->J2.yld i H y H->IsZip h' z TI TO (Eh s.heap.objs.size)->Hw h' TO u v->t1 (i+1) h'->t2 (i+1) h'->Hw h' s.heap.objs.size u v->h'.objs.size=s.heap.objs.size+1 ->
   (∀c o,c≠z->c≠TO->c≠i1->c≠i2->s.heap.get? c=some o->h'.get? c=some o)->Q (.ref s.heap.objs.size) { s with heap:=h',toks:=tk }):
  wpAny (model prog w) A (Dz.«zip.__next__» ⟨[.ref z],[]⟩) (fun fin s'=>∃v,fin=.done (.ret v)/\Q v s') E s:=by
 show wpAny _ _ (field (.ref z) 2 >>= _) _ _ _;refine Ac (Bm hz rfl rfl ?_);refine Ac (Bm hz rfl rfl ?_);refine Ac (Fo hTI rfl ?_);refine Ac ?_;refine Ac (Bm hz rfl rfl (Aj ?_));refine Ac (Mq ?_);refine Ac (Bm hz rfl rfl ?_);refine Ac (Ci hz (by simp) fun h₁ hz₁ hs₁=>?_);replace hz₁:IsZip h₁ z TI TO .ellipsis:=hz₁;have vw₁:=vw.but (nH z (by simp)) (nK z (by simp)) fun c o hc e=>hs₁.extBut _ _ hc e;refine Ac ?_;refine Ac (Ac (Jx ?_));refine Ac (S1.item _ i _ H _ _ hh vw₁ (nH i1 (by simp)) (nK i1 (by simp)) (S1.keep _ _ _ h1 fun o e=>hs₁.extBut _ _ D.i1z e) g1 fun u x h₂ tk₂ rx yx h1₂ hs₂=>Aj ?_);have hTO₂:=hs₂.extBut _ _ D.TOi1 (hs₁.extBut _ _ D.TOz hTO);refine Ac (Fo hTO₂ rfl ?_);refine Ac (Ir hTO₂ fun h₃ hTO₃ hs₃=>?_);have vw₃:=(vw₁.but (nH i1 (by simp)) (nK i1 (by simp)) fun c o hc e=>hs₂.extBut _ _ hc e).but (nH TO (by simp)) (nK TO (by simp)) fun c o hc e=>hs₃.extBut _ _ hc e;refine Ac (Ls (Aj ?_));refine Ac (Ac (Jx ?_));refine Ac (S2.item _ i _ H _ _ hh vw₃ (nH i2 (by simp)) (nK i2 (by simp)) (S2.keep _ _ _ h2 fun o e=>hs₃.extBut _ _ D.TOi2.symm (hs₂.extBut _ _ D.i12.symm (hs₁.extBut _ _ D.i2z e))) g2 fun v y h₄ tk₄ ry yy h2₄ hs₄=>Aj ?_);have hTO₄:=hs₄.extBut _ _ D.TOi2 hTO₃;refine Ac (Fo hTO₄ rfl ?_);refine Ac (Ir hTO₄ fun h₅ hTO₅ hs₅=>?_);replace hTO₅:Hw h₅ TO u v:=hTO₅;refine Ac (Ls (Aj (Aj ?_)));refine Ac (Fo hTO₅ rfl ?_);refine Ac (wpAny_newTuple ?_);have hsz:h₅.objs.size=s.heap.objs.size:=by rw[hs₅.1,hs₄.1,hs₃.1,hs₂.1,hs₁.1]
 have hz₅:=hs₅.extBut _ _ D.TOz.symm (hs₄.extBut _ _ D.i2z.symm (hs₃.extBut _ _ D.TOz.symm (hs₂.extBut _ _ D.i1z.symm hz₁)));have hk₅:∀c o,c≠z->c≠TO->c≠i1->c≠i2->s.heap.get? c=some o->h₅.get? c=some o:=fun c o c1 c2 c3 c4 e =>
  hs₅.extBut _ _ c2 (hs₄.extBut _ _ c4 (hs₃.extBut _ _ c2 (hs₂.extBut _ _ c3 (hs₁.extBut _ _ c1 e))))
 have h1₅:=S1.keep _ _ _ h1₂ fun o e=>hs₅.extBut _ _ D.TOi1.symm (hs₄.extBut _ _ D.i12 (hs₃.extBut _ _ D.TOi1.symm e));have h2₅:=S2.keep _ _ _ h2₄ fun o e=>hs₅.extBut _ _ D.TOi2.symm e;have hzlt:=An hz₅;refine Ac ?_;have hz₆:IsZip (h₅.push { cls:=.type "tuple",data:=.seq #[u,v] }) z TI TO .ellipsis:=Ad _ hz₅;refine Ac (Ci hz₆ (by simp) fun h₇ hz₇ hs₇=>?_);refine Ci hz₇ (by simp) fun h₈ hz₈ hs₈=>?_;have up:∀c o,c≠z->h₅.get? c=some o->h₈.get? c=some o:=fun c o c1 e=>hs₈.extBut _ _ c1 (hs₇.extBut _ _ c1 (Ad _ e));have hT₈:=hs₈.extBut _ _ (Fq hzlt) (hs₇.extBut _ _ (Fq hzlt) (As _ rfl));have hz8:h₈.objs.size=h₅.objs.size+1:=by rw[hs₈.1,hs₇.1,Gi]
 rw[hsz] at hz₈ hT₈ hz8;refine Aj ⟨_,rfl,?_⟩;rw[hsz];exact hQ u v x y h₈ tk₄ rx ry yx yy hz₈ (up _ _ D.TOz hTO₅) (S1.keep _ _ _ h1₅ fun o e=>up _ o D.i1z e) (S2.keep _ _ _ h2₅ fun o e=>up _ o D.i2z e) hT₈ hz8 fun c o c1 c2 c3 c4 e=>up c o c1 (hk₅ c o c1 c2 c3 c4 e)
theorem z7l(D:ZipA z TI TO i1 i2)(S1:Srce prog w K J1 i1 t1)(S2:Srce prog w K J2 i2 t2)(hh:A.handled=none)(vw:Vw K H s.heap)(nH:∀b∈[z,TI,TO,i1,i2],H b=none)(nK:∀b∈[z,TI,TO,i1,i2],K.lookup b=none)(hz:IsZip s.heap z TI TO .none)(hTI:Hw s.heap TI (.ref i1) (.ref i2))(hTO:Hw s.heap TO a b)(h1:t1 i s.heap)(h2:t2 i s.heap)(hend:J1.stop i H\/(J1.go i H/\J2.stop i H))(hE:∀h' e tk,(∀c o,c≠z->c≠TO->c≠i1->c≠i2->s.heap.get? c=some o->h'.get? c=some o)->(∃o,h'.get? e=some o/\o.cls=.type "StopIteration")->E (.ref e) { s with heap:=h',toks:=tk }):
  wpAny (model prog w) A (Dz.«zip.__next__» ⟨[.ref z],[]⟩) Q E s:=by
 show wpAny _ _ (field (.ref z) 2 >>= _) _ _ _;refine Ac (Bm hz rfl rfl ?_);refine Ac (Bm hz rfl rfl ?_);refine Ac (Fo hTI rfl ?_);refine Ac ?_;refine Ac (Bm hz rfl rfl (Aj ?_));refine Ac (Mq ?_);refine Ac (Bm hz rfl rfl ?_);refine Ac (Ci hz (by simp) fun h₁ hz₁ hs₁=>?_);have vw₁:=vw.but (nH z (by simp)) (nK z (by simp)) fun c o hc e=>hs₁.extBut _ _ hc e;refine Ac ?_;refine Ac (Ac (Jx ?_));rcases hend with st|⟨g1,st⟩
 ·refine Ac (S1.done _ i _ H _ _ hh vw₁ (nH i1 (by simp)) (nK i1 (by simp)) (S1.keep _ _ _ h1 fun o e=>hs₁.extBut _ _ D.i1z e) st fun h₂ e hs₂ he=>?_);obtain⟨oe,hoe,hce⟩:=he;have hz₂:=hs₂ _ _ D.i1z.symm hz₁;have hez:e≠z:=fun x=>by subst x;rw[hz₂] at hoe;cases hoe;simp at hce
  refine Ci hz₂ (by simp) fun h₃ _ hs₃=>hE h₃ e _ (fun c o c1 _ c3 _ x=>hs₃.extBut _ _ c1 (hs₂ _ _ c3 (hs₁.extBut _ _ c1 x))) ⟨oe,hs₃.extBut _ _ hez hoe,hce⟩
 ·refine Ac (S1.item _ i _ H _ _ hh vw₁ (nH i1 (by simp)) (nK i1 (by simp)) (S1.keep _ _ _ h1 fun o e=>hs₁.extBut _ _ D.i1z e) g1 fun u x h₂ tk₂ rx yx h1₂ hs₂=>Aj ?_);have hTO₂:=hs₂.extBut _ _ D.TOi1 (hs₁.extBut _ _ D.TOz hTO);refine Ac (Fo hTO₂ rfl ?_);refine Ac (Ir hTO₂ fun h₃ hTO₃ hs₃=>?_);have vw₃:=(vw₁.but (nH i1 (by simp)) (nK i1 (by simp)) fun c o hc e=>hs₂.extBut _ _ hc e).but (nH TO (by simp)) (nK TO (by simp)) fun c o hc e=>hs₃.extBut _ _ hc e;refine Ac (Ls (Aj ?_));refine Ac (Ac (Jx ?_));refine Ac (S2.done _ i _ H _ _ hh vw₃ (nH i2 (by simp)) (nK i2 (by simp)) (S2.keep _ _ _ h2 fun o e=>hs₃.extBut _ _ D.TOi2.symm (hs₂.extBut _ _ D.i12.symm (hs₁.extBut _ _ D.i2z e))) st fun h₄ e hs₄ he=>?_);obtain⟨oe,hoe,hce⟩:=he;have hz₄:=hs₄ _ _ D.i2z.symm (hs₃.extBut _ _ D.TOz.symm (hs₂.extBut _ _ D.i1z.symm hz₁));have hez:e≠z:=fun x=>by subst x;rw[hz₄] at hoe;cases hoe;simp at hce
  refine Ci hz₄ (by simp) fun h₅ _ hs₅=>hE h₅ e _ (fun c o c1 c2 c3 c4 x=>hs₅.extBut _ _ c1 (hs₄ _ _ c4 (hs₃.extBut _ _ c2 (hs₂.extBut _ _ c3 (hs₁.extBut _ _ c1 x))))) ⟨oe,hs₅.extBut _ _ hez hoe,hce⟩
end
def Itz(J1 J2:It):It:=⟨fun i H=>J1.go i H/\J2.go i H,fun i H x H'=>∃T x1 x2,H T=none/\J1.yld i H x1 H/\J2.yld i H x2 H/\x=.ref T/\H'=upd H T (.tup [x1,x2]),fun i H=>J1.stop i H\/(J1.go i H/\J2.stop i H)⟩
def tnZip(z TI TO i1 i2:Addr)(t1 t2:Nat->Heap->Prop)(i:Nat)(h:Heap):Prop:=IsZip h z TI TO .none/\Hw h TI (.ref i1) (.ref i2)/\(∃a b,Hw h TO a b)/\t1 i h/\t2 i h
theorem z7m{K:Af}{TI TO:Addr}(D:ZipA z TI TO i1 i2)(S1:Srce P w K J1 i1 t1)(S2:Srce P w K J2 i2 t2):
  Turn P w K (.Tuple elts kk pos) (Itz J1 J2) [z,TI,TO,i1,i2] z (tnZip z TI TO i1 i2 t1 t2) where
 mem:=by simp
 obj:=fun i h st b hb=>by
  obtain⟨hz,hTI,⟨a,c,hTO⟩,h1,h2⟩:=st;simp only[Bd,Br,or_false] at hb;rcases hb with rfl|rfl|rfl|rfl|rfl
  ·simp_all
  ·grind
  ·grind
  ·exact S1.obj i h h1
  ·exact S2.obj i h h2
 keep:=fun i h h' st k=>by
  obtain⟨hz,hTI,⟨a,c,hTO⟩,h1,h2⟩:=st;exact⟨k z (by simp) _ hz,k TI (by simp) _ hTI,⟨a,c,k TO (by simp) _ hTO⟩,S1.keep _ _ _ h1 fun o e=>k i1 (by simp) o e,S2.keep _ _ _ h2 fun o e=>k i2 (by simp) o e⟩
 item:=by
  intro X hP hw hK hc i pins s σ H E I hf st hg;subst hP hw hK;obtain⟨hz,hTI,⟨a,c,hTO⟩,h1,h2⟩:=st;have hT:s.TypeIs (.ref z) "zip" := ⟨_,hz,rfl⟩
  refine Ac (El (Dg hT Iu
   (Dw Iu hT Ou
    (z5h D S1 S2 (I.ok.hd hc) I.vw (fun b hb=>(hf b hb).1) (fun b hb=>(hf b hb).noK I) hz hTI hTO h1 h2 hg.1 hg.2 fun u v x y h' tk rx ry yx yy a1 a2 a3 a4 a5 a6 a7=>Aj ?_) (Oc _))))
  refine⟨_,rfl,?_⟩;refine wpAny_letOwnedTupleGo_zip a1 fun h2' hz2 hs2=>?_;have k2:∀c o,c∉[z,TI,TO,i1,i2]->s.heap.get? c=some o->h2'.get? c=some o:=fun c o hcn e=>by
   simp only[Bd,Br,or_false,not_or] at hcn;exact hs2.extBut _ _ hcn.1 (a7 c o hcn.1 hcn.2.2.1 hcn.2.2.2.1 hcn.2.2.2.2 e)
  have zlt:=An hz;have I1:Inv X pins σ H { s with heap:=h2',toks:=tk }:=I.turnedL k2 hf;have FT:=I.fpOk (Ah _) I.fresh;have hT2:=hs2.extBut _ _ (Fq zlt) a5;have I2:Inv X pins σ (upd H s.heap.objs.size (.tup [x,y])) { s with heap:=h2',toks:=tk } :=
   I1.track I.sz FT ⟨by show 2<=sizeLine;decide,[u,v],.cons rx (.cons ry .nil),⟨_,hT2,rfl,_,rfl⟩⟩
  refine⟨.ref s.heap.objs.size,_,I2,rfl,⟨_,x,y,I.fresh,yx,yy,rfl,rfl⟩,⟨hz2,?_,⟨_,_,hs2.extBut _ _ D.TOz a2⟩,S1.keep _ _ _ a3 fun o e=>hs2.extBut _ _ D.i1z e,S2.keep _ _ _ a4 fun o e=>hs2.extBut _ _ D.i2z e⟩,fun b hb=>?_⟩
  ·exact hs2.extBut _ _ D.TIz (a7 _ _ D.TIz D.TITO D.TIi1 D.TIi2 hTI)
  ·have hb2:=(hf b hb).1;rw[q0l]
   ·exact hb2
   ·have:∃o,s.heap.get? b=some o:=by
     simp only[Bd,Br,or_false] at hb;rcases hb with rfl|rfl|rfl|rfl|rfl
     ·exact⟨_,hz⟩
     ·grind
     ·grind
     ·obtain⟨o,e,_⟩:=S1.obj _ _ h1;exact⟨o,e⟩
     ·obtain⟨o,e,_⟩:=S2.obj _ _ h2;exact⟨o,e⟩
    obtain⟨o,e⟩:=this;exact By (An e)
 done:=by
  intro X hP hw hK hc i pins s σ H E I hf st hg;subst hP hw hK;obtain⟨hz,hTI,⟨a,c,hTO⟩,h1,h2⟩:=st;have hT:s.TypeIs (.ref z) "zip" := ⟨_,hz,rfl⟩
  refine Ac (El (Dg hT Iu
   (Dw Iu hT Ou
    (z7l D S1 S2 (I.ok.hd hc) I.vw (fun b hb=>(hf b hb).1) (fun b hb=>(hf b hb).noK I) hz hTI hTO h1 h2 hg fun h' e tk hk he=>?_) (Oc _))))
  obtain⟨o,ho,hcl⟩:=he;refine Ac (Kw ⟨o,ho,hcl⟩ Ma ?_);refine Aj ⟨rfl,I.turnedL (fun c o hcn e=>?_) hf⟩;simp only[Bd,Br,or_false,not_or] at hcn;exact hk c o hcn.1 hcn.2.2.1 hcn.2.2.2.1 hcn.2.2.2.2 e
 self:=fun _ _ _ _ _ st h=>wpAny_pyIter_zip st.1 h
open PySem PySem.Spec PyProof.Rows
abbrev zs1(h:Heap)(x:Str)(t:Tok):Heap:=h.push { cls:=.type (Fm x),data:=.fields #[.str x t,.int 0 0] }
abbrev zs2(h:Heap)(x y:Str)(t u:Tok):Heap:=(zs1 h x t).push { cls:=.type (Fm y),data:=.fields #[.str y u,.int 0 0] }
abbrev zs3(h:Heap)(x y:Str)(t u:Tok):Heap:=(zs2 h x y t u).push { cls:=.type "tuple",data:=.seq #[.ref h.objs.size,.ref (zs1 h x t).objs.size] }
abbrev zs4(h:Heap)(x y:Str)(t u:Tok):Heap:=(zs3 h x y t u).push { cls:=.type "tuple",data:=.seq #[.none,.none] }
abbrev zs5(h:Heap)(x y:Str)(t u:Tok):Heap:=(zs4 h x y t u).push { cls:=.type "zip",data:=.fields #[.none,.bool false,.bool false,.ref (zs2 h x y t u).objs.size,.ref (zs3 h x y t u).objs.size] }
set_option maxHeartbeats 4000000 in
theorem z1f(x y:Str)(t u:Tok):
  Meets (Dz.«zip.__new__» ⟨[.type "zip",.str x t,.str y u],[]⟩) (fun _ R s=>R (.ok (.ret (.ref (zs4 s.heap x y t u).objs.size))) { s with heap:=zs5 s.heap x y t u }) :=
 .of_wp fun prog w A R s h=>by
  obtain⟨hp,g,d,tk,os⟩:=s;have hsub:=sub_zip;have i1:∀{A:Around} {E:Value->Ag->Prop} {Q:Value->Ag->Prop},Q (.ref hp.objs.size) ⟨zs1 hp x t,g,d,tk,os⟩->wpAny (model prog w) A (Ko (.str x t)) Q E ⟨hp,g,d,tk,os⟩:=fun q=>Od q
  have i2:∀{A:Around} {E:Value->Ag->Prop} {Q:Value->Ag->Prop},Q (.ref (zs1 hp x t).objs.size) ⟨zs2 hp x y t u,g,d,tk,os⟩->wpAny (model prog w) A (Ko (.str y u)) Q E ⟨zs1 hp x t,g,d,tk,os⟩:=fun q=>Od q
  wp_walk using i1,i2
  exact⟨_,rfl,h⟩
theorem z5i(n:Nat):ZipA (n+4) (n+2) (n+3) n (n+1):=by
 constructor<;>(show(_:Nat)≠_;lia)
section
variable{X:Cx}{elts:List Expr}{kk:Nat}{tpos:Pos}
theorem z2m{σ:St}(I:Inv X pins σ H s)(S1:Srce X.prog X.w X.K J1 s.heap.objs.size t1)(S2:Srce X.prog X.w X.K J2 (s.heap.objs.size+1) t2)(hz:IsZip h' (s.heap.objs.size+4) (s.heap.objs.size+2) (s.heap.objs.size+3) .none)(hTI:Hw h' (s.heap.objs.size+2) (.ref s.heap.objs.size) (.ref (s.heap.objs.size+1)))(hTO:Hw h' (s.heap.objs.size+3) .none .none)(h1:t1 0 h')(h2:t2 0 h')(hk:∀c o,s.heap.get? c=some o->h'.get? c=some o)(q:R (Itz J1 J2) H):
  wpAny (model X.prog X.w) X.A (Ko (.ref (s.heap.objs.size+4))) (PIE X pins σ (.Tuple elts kk tpos) R) E { s with heap:=h' }:=by
 refine wpAny_pyIter_zip hz ?_;refine⟨_,_,_,_,H,rfl,I.kept (t':=s.toks) hk,z7m (z5i s.heap.objs.size) S1 S2,⟨hz,hTI,⟨_,_,hTO⟩,h1,h2⟩,fun b hb=>?_,q⟩;have hb':s.heap.objs.size<=b:=by grind
 exact I.fpOk hb' (I.hok.fresh hb')
def iZipS(ta:TA):TI:=fun σ H R=>ta σ H fun vs H1=>∃x y,vs=[.str x,.str y]/\R (Itz (Its x) (Its y)) H1
theorem x0c{p pos:Pos}(hg:Gl X "zip")(hm:X.mg "zip" = none)(ha:PA X [a,b] ta)(hs:Ay [a,b] X.env=[(false,eval a X.env),(false,eval b X.env)]:=by rfl)(hs2:Ay [b] X.env=[(false,eval b X.env)]:=by rfl):
  PI X (.Tuple elts kk tpos) (.Call (.Name "zip" p) [a,b] [] pos) (iZipS ta):=by
 intro pins s σ H R I h;refine Call_ (q4c I hg hm (by decide +kernel:Eg "zip" = some (.type "zip")) (Ck (thn (ha pos pins s σ H _ I h) fun us s1 ⟨vs,H1,I1,r1,q1⟩=>?_) (by rw[hs,hs2]) (by rw[hs2];rfl)));obtain⟨x,y,e,q⟩:=q1;subst e;obtain⟨u,v,rfl,⟨t,rfl⟩,⟨t',rfl⟩⟩:=r1.two;refine callType_new F.called_zip (by decide) (F.typeCall_zip_2 _ _) (F.newCall_zip_2 _ _) (fun obj=>F.args_object_init_3 obj _ _) F.entry_zip_new (z1f x y t t') ?_;have z1:(zs1 s1.heap x t).objs.size=s1.heap.objs.size+1:=Gi ..;have z2:(zs2 s1.heap x y t t').objs.size=s1.heap.objs.size+2:=by simp_all
 have z3:(zs3 s1.heap x y t t').objs.size=s1.heap.objs.size+3:=by simp_all
 have z4:(zs4 s1.heap x y t t').objs.size=s1.heap.objs.size+4:=by simp_all
 have k1:∀c o,s1.heap.get? c=some o->(zs1 s1.heap x t).get? c=some o:=fun c o e=>Ad _ e;have k2:∀c o,(zs1 s1.heap x t).get? c=some o->(zs2 s1.heap x y t t').get? c=some o:=fun c o e=>Ad _ e;have k3:∀c o,(zs2 s1.heap x y t t').get? c=some o->(zs3 s1.heap x y t t').get? c=some o:=fun c o e=>Ad _ e;have k4:∀c o,(zs3 s1.heap x y t t').get? c=some o->(zs4 s1.heap x y t t').get? c=some o:=fun c o e=>Ad _ e;have k5:∀c o,(zs4 s1.heap x y t t').get? c=some o->(zs5 s1.heap x y t t').get? c=some o:=fun c o e=>Ad _ e;have g1:(zs1 s1.heap x t).get? s1.heap.objs.size=some { cls:=.type (Fm x),data:=.fields #[.str x t,.int 0 0] }:=As _ rfl;have g2:(zs2 s1.heap x y t t').get? (zs1 s1.heap x t).objs.size=some { cls:=.type (Fm y),data:=.fields #[.str y t',.int 0 0] }:=As _ rfl;have g3:(zs3 s1.heap x y t t').get? (zs2 s1.heap x y t t').objs.size=some { cls:=.type "tuple",data:=.seq #[.ref s1.heap.objs.size,.ref (zs1 s1.heap x t).objs.size] }:=As _ rfl;have g4:(zs4 s1.heap x y t t').get? (zs3 s1.heap x y t t').objs.size=some { cls:=.type "tuple",data:=.seq #[.none,.none] }:=As _ rfl;have g5:(zs5 s1.heap x y t t').get? (zs4 s1.heap x y t t').objs.size=some { cls:=.type "zip",data:=.fields #[.none,.bool false,.bool false,.ref (zs2 s1.heap x y t t').objs.size,.ref (zs3 s1.heap x y t t').objs.size] }:=As _ rfl;rw[z1] at g2;rw[z2,z1] at g3;rw[z3] at g4;rw[z4,z2,z3] at g5;rw[z4];exact⟨⟨_,g5,rfl⟩,z2m I1 (q8h _ x t) (q8h _ y t') g5 (k5 _ _ (k4 _ _ g3)) (k5 _ _ g4) ⟨_,k5 _ _ (k4 _ _ (k3 _ _ (k2 _ _ g1))),rfl,rfl⟩ ⟨_,k5 _ _ (k4 _ _ (k3 _ _ g2)),rfl,rfl⟩ (fun c o e=>k5 _ _ (k4 _ _ (k3 _ _ (k2 _ _ (k1 _ _ e))))) q⟩
def iZipL(K:Af)(ta:TA):TI:=fun σ H R=>ta σ H fun vs H1=>∃a b xs ys,vs=[.ref a,.ref b]/\SqL K H1 a xs/\SqL K H1 b ys/\R (Itz (Itl K a) (Itl K b)) H1
theorem x0d{p pos:Pos}(hg:Gl X "zip")(hm:X.mg "zip" = none)(ha:PA X [a,b] ta)(hs:Ay [a,b] X.env=[(false,eval a X.env),(false,eval b X.env)]:=by rfl)(hs2:Ay [b] X.env=[(false,eval b X.env)]:=by rfl):
  PI X (.Tuple elts kk tpos) (.Call (.Name "zip" p) [a,b] [] pos) (iZipL X.K ta):=by
 intro pins s σ H R I h;refine Call_ (q4c I hg hm (by decide +kernel:Eg "zip" = some (.type "zip")) (Ck (thn (ha pos pins s σ H _ I h) fun us s1 ⟨vs,H1,I1,r1,q1⟩=>?_) (by rw[hs,hs2]) (by rw[hs2];rfl)));obtain⟨l1,l2,xs,ys,e,hx,hy,q⟩:=q1;subst e;obtain⟨u,v,rfl,r1,r2⟩:=r1.two;cases r1;cases r2;obtain⟨its,rv,pl,_⟩:=I1.list hx;obtain⟨its2,rv2,pl2,_⟩:=I1.list hy;exact call_zip_2 pl.isList pl2.isList fun h' a1 a2 a3 a4 a5 a6 a7=>z2m I1 (q6m l1 _) (q6m l2 _) a1 a2 a3 a4 a5 a7 q
theorem z5j{J:It}{g:TG}{tb:TS}{D:Ends}(Pv:Nat->St->Hp->Prop)(h0:Pv 0 σ H)(hgo:∀i σ H,i<n->Pv i σ H->J.go i H)(hstop:∀σ H,Pv n σ H->J.stop n H)(hs:∀i x σ H H',i<n->Pv i σ H->J.yld i H x H'->g x σ H' fun σ2 H2=>tb { D with nx:=Pv (i+1),ct:=Pv (i+1),bk:=D.nx } σ2 H2)(hd:∀σ H,Pv n σ H->D.nx σ H):
  ∃W:Nat->Nat->St->Hp->Prop,(∃m,W 0 m σ H)/\∀i m σ H,W i m σ H ->
   (J.stop i H/\D.nx σ H)\/(J.go i H/\∃N:St->Hp->Prop,(∀σ' H',N σ' H'->∃m',m'<m/\W (i+1) m' σ' H')/\∀x H',J.yld i H x H'->g x σ H' fun σ2 H2=>tb { D with nx:=N,ct:=N,bk:=D.nx } σ2 H2):=by
 refine⟨fun i m σ H=>m=n-i/\i<=n/\Pv i σ H,⟨n,by simp,Bg _,h0⟩,?_⟩;rintro i m σ H ⟨rfl,hi,p⟩;by_cases hlt:i<n
 ·exact .inr ⟨hgo i σ H hlt p,Pv (i+1),fun σ' H' p'=>⟨n-(i+1),by lia,rfl,hlt,p'⟩,fun x H' y=>hs i x σ H H' hlt p y⟩
 ·grind
theorem z7n{K:Kp}{g:TG}{tb:TS}{D:Ends}(Pv:Nat->St->Hp->Prop)(h0:Pv 0 σ H)(hl:∀i σ H,Pv i σ H->SqL K H a xs/\SqL K H b ys)(hs:∀i x y T σ H,xs[i]?=some x->ys[i]?=some y->Pv i σ H->H T=none->g (.ref T) σ (upd H T (.tup [x,y])) fun σ2 H2=>tb { D with nx:=Pv (i+1),ct:=Pv (i+1),bk:=D.nx } σ2 H2)(hd:∀σ H,Pv (min xs.length ys.length) σ H->D.nx σ H):
  ∃W:Nat->Nat->St->Hp->Prop,(∃m,W 0 m σ H)/\∀i m σ H,W i m σ H ->
   ((Itz (Itl K a) (Itl K b)).stop i H/\D.nx σ H)\/((Itz (Itl K a) (Itl K b)).go i H/\∃N:St->Hp->Prop,(∀σ' H',N σ' H'->∃m',m'<m/\W (i+1) m' σ' H')/\∀v H',(Itz (Itl K a) (Itl K b)).yld i H v H'->g v σ H' fun σ2 H2=>tb { D with nx:=N,ct:=N,bk:=D.nx } σ2 H2):=by
 refine z5j Pv h0 (fun i σ H h p=>⟨?_,?_⟩) (fun σ H p=>?_) (fun i v σ H H' h p yl=>?_) hd
 ·exact⟨xs,xs[i]'(by lia),(hl i σ H p).1,by simp⟩
 ·exact⟨ys,ys[i]'(by lia),(hl i σ H p).2,by simp⟩
 ·by_cases hxy:xs.length<=ys.length
  ·exact .inl ⟨xs,(hl _ σ H p).1,by lia⟩
  ·exact .inr ⟨⟨xs,xs[min xs.length ys.length]'(by lia),(hl _ σ H p).1,by simp⟩,ys,(hl _ σ H p).2,by lia⟩
 ·obtain⟨T,x1,x2,hT,⟨_,y1⟩,⟨_,y2⟩,rfl,rfl⟩:=yl;exact hs i x1 x2 T σ H (y1 xs (hl i σ H p).1) (y2 ys (hl i σ H p).2) p hT
end
open PySem PySem.Spec PyProof.Rows
structure Cal (P:Program) (w:World) (K:Af) (mg:Str->Option Value) (base:Heap) (x:Str) (k:Nat) (ps:List Str) (sp:Sp):Prop where
 ex:∃f fd,FnOk P w K mg base CX0 k f fd ps sp/\mg x=some (.ref f)/\Eo K (.ref f)=true/\Binds K fd ps []
structure Df (K:Af) (mg:Str->Option Value) (x:Str) (st:Stmt) (ps:List Str):Prop where
 ex:∃f fd,Fun K x x st f fd/\mg x=some (.ref f)/\Binds K fd ps []
theorem Df.cal{K:Af}{st:Stmt}(D:Df K mg x st ps)(S:FnScope N ps (defScope st))(len:∀vs H Q E,sp vs H Q E->vs.length=ps.length)(hbody:∀(f:Addr) (cdv:Value) (A:Around) (outer:List Env) (s:Ag) (H:Hp) (vs:List V) (Q:VK) (E:XK),Room k (A.deeper (Fy x (defScope st) s.heap.objs.size f cdv))->sp vs H Q E ->
   ∃t,PSs (cxOf CX0 P w K mg base N x (defScope st) f cdv A outer s H E).nox (defBody st) t/\t { nx:=fun _ H'=>Q .non H',rt:=Q } (start N vs) H):Cal P w K mg base x (k+1) ps sp:=by
 obtain⟨f,fd,F,hm,hb⟩:=D.ex;exact⟨f,fd,F.ok S len fun cdv A outer s H vs Q E hr h=>hbody f cdv A outer s H vs Q E hr h,hm,F.kp,hb⟩
theorem Cal.imp{K:Af}(C:Cal P w K mg base x k ps sp)(h:∀vs H Q E,sp' vs H Q E->sp vs H Q E):Cal P w K mg base x k ps sp':=by
 obtain⟨f,fd,F,r⟩:=C.ex;exact⟨f,fd,F.imp h,r⟩
section
variable{X:Cx}{x:Str}{k j:Nat}{ps:List Str}{sp:Sp}{p pos:Pos}{e:Expr}{es:List Expr}{t:TA}
theorem pe_c(C:Cal X.prog X.w X.K X.mg X.base x k ps sp)(hr:Room j X.A)(ha:PA X (e::es) t)(hjk:k<=j:=by decide)(hg:Gl X x:=by rfl)(hdb:(x==("__debug__" : Str))=false:=by decide)(he:Ay (e::es) X.env=(false,eval e X.env)::Ay es X.env:=by rfl)(hpl:(Fp pos (Ay es X.env)).any (·.1)=false:=by rfl):
  PE X (.Call (.Name x p) (e::es) [] pos) (tCall sp [] E0 t):=by
 obtain⟨f,fd,F,hm,hk,hb⟩:=C.ex;exact z9z F (hr.mono hjk) hg hm hk hb .nil pass0 ha hdb he hpl
theorem pe_c0(C:Cal X.prog X.w X.K X.mg X.base x k ps sp)(hr:Room j X.A)(hjk:k<=j:=by decide)(hg:Gl X x:=by rfl)(hdb:(x==("__debug__" : Str))=false:=by decide):
  PE X (.Call (.Name x p) [] [] pos) (tCall sp [] E0 tNil):=by
 obtain⟨f,fd,F,hm,hk,hb⟩:=C.ex;exact z7d F (hr.mono hjk) hg hm hk hb .nil pass0 hdb
end
theorem PI.or(h1:PI X tg l w1)(h2:PI X tg l w2):PI X tg l (fun σ H R=>w1 σ H R\/w2 σ H R):=by
 intro pins s σ H R I h;rcases h with h|h
 ·exact h1 pins s σ H R I h
 ·exact h2 pins s σ H R I h
structure FeedAt (H:Hp) (a b:Addr):Prop where
 fa:∃i j:Int,H a=some (.lst [.ref b,.int i,.int j])
 fb:∃ns:List Int,H b=some (.lst (ns.map V.int))
structure Fd (a b:Addr) (H H':Hp):Prop where
 feed:FeedAt H' a b
 keep:∀c o,H c=some o->c≠a->H' c=some o
theorem FeedAt.ne(F:FeedAt H a b):b≠a:=by
 obtain⟨⟨i,j,h⟩,ns,h'⟩:=F;refine z4l h' h ?_;intro z;cases ns with
 |nil=>cases z
 |cons n r=>simp at z
theorem Fd.refl(F:FeedAt H a b):Fd a b H H:=⟨F,fun _ _ h _=>h⟩
theorem Fd.trans(x:Fd a b H H1)(y:Fd a b H1 H2):Fd a b H H2:=⟨y.feed,fun c o h hc=>y.keep c o (x.keep c o h hc) hc⟩
theorem Fd.free(x:Fd a b H H')(h:H' p=none):H p=none:=by
 cases e:H p with
 |none=>rfl
 |some o =>
  by_cases hp:p=a
  ·subst hp;obtain⟨i,j,q⟩:=x.feed.fa;rw[h] at q;cases q
  ·rw[x.keep p o e hp] at h;cases h
theorem FeedAt.upd(F:FeedAt H a b)(ha:a≠p)(hb:b≠p):FeedAt (upd H p o) a b :=
 ⟨let ⟨i,j,h⟩:=F.fa;⟨i,j,by rw[q0l ha];exact h⟩,let ⟨ns,h⟩:=F.fb;⟨ns,by rw[q0l hb];exact h⟩⟩
theorem FeedAt.na(F:FeedAt H a b)(h:H p=none):a≠p:=by obtain⟨i,j,q⟩:=F.fa;exact q0w q h
theorem FeedAt.nb(F:FeedAt H a b)(h:H p=none):b≠p:=by obtain⟨ns,q⟩:=F.fb;exact q0w q h
theorem Fd.put(x:Fd a b H H')(F:FeedAt H a b)(h:H p=none):Fd a b H (upd H' p o) :=
 ⟨x.feed.upd (F.na h) (F.nb h),fun c u e hc=>by rw[q0l (q0w e h)];exact x.keep c u e hc⟩
theorem Fd.new(x:Fd a b H H')(h:H' p=none):Fd a b H (upd H' p o) :=
 ⟨x.feed.upd (x.feed.na h) (x.feed.nb h),fun c u e hc=>by rw[q0l (q0w (x.keep c u e hc) h)];exact x.keep c u e hc⟩
theorem Fd.at(x:Fd a b H H')(h:H c=some o)(hc:c≠a):H' c=some o:=x.keep c o h hc
theorem Fd.same(x:Fd a b H H')(s:Same H' H2):Fd a b H H2 :=
 ⟨⟨let ⟨i,j,h⟩:=x.feed.fa;⟨i,j,s _ _ h⟩,let ⟨ns,h⟩:=x.feed.fb;⟨ns,s _ _ h⟩⟩,fun c o e hc=>s _ _ (x.keep c o e hc)⟩
theorem Same.new(s:Same H H')(h:H' p=none):Same H (upd H' p o):=fun c u e=>by rw[q0l (q0w (s c u e) h)];exact s c u e
theorem Same.put(s:Same H H')(h:H p=none):Same H (upd H' p o):=fun c u e=>by rw[q0l (q0w e h)];exact s c u e
def spDraw:Sp:=fun vs H Q _=>∃a b m,vs=[.ref a,.int m]/\FeedAt H a b/\0<m/\m<1073741824/\∀(r:Int) H',0<=r->r<m->Fd a b H H'->Q (.int r) H'
def spConst(x:Str):Sp:=fun vs H Q _=>vs=[]/\Q (.str x) H
theorem x0e{xs:List α}(i:Int)(h:xs≠[]):∃x,x∈xs/\atI xs (i%(xs.length:Int))=some x:=by
 have hl:0<(xs.length:Int):=by
  cases xs with
  |nil=>exact absurd rfl h
  |cons a r=>grind
 have h0:=Iv i (show(xs.length:Int)≠0 by lia);have h1:=Hi i hl;have hn:(i%(xs.length:Int)).toNat<xs.length:=by lia
 unfold atI ixN;rw[if_pos h0,if_pos h1];simp[hn]
theorem q3f{xs:List α}(h0:0<=i)(h1:i<(xs.length:Int)):∃x,xs[i.toNat]?=some x/\atI xs i=some x:=by
 have hn:i.toNat<xs.length:=by lia
 unfold atI ixN;rw[if_pos h0,if_pos h1];simp[hn]
open PySem PySem.Spec PyProof.Rows
mutual
inductive Dt (K : Af) (H : Hp) : V → PyData → Prop
  | non : Dt K H .non .none
  | bl (b : Bool) : Dt K H (.bl b) (.bool b)
  | int (i : Int) : Dt K H (.int i) (.int i)
  | str (x : Str) : Dt K H (.str x) (.str x)
  | lst {a : Addr} {xs : List V} {ds : List PyData} : SqL K H a xs → Dts K H xs ds → Dt K H (.ref a) (.list ds)
  | tup {a : Addr} {xs : List V} {ds : List PyData} : SqT K H a xs → Dts K H xs ds → Dt K H (.ref a) (.tuple ds)
inductive Dts (K : Af) (H : Hp) : List V → List PyData → Prop
  | nil : Dts K H [] []
  | cons {x : V} {xs : List V} {d : PyData} {ds : List PyData} : Dt K H x d → Dts K H xs ds → Dts K H (x :: xs) (d :: ds)
end
section
variable{X:Cx}{pins:List (Addr×Obj)}{σ:St}{H:Hp}{s:Ag}
mutual
theorem Dt.reads (I : Inv X pins σ H s) : ∀ {x : V} {d : PyData} {u : Value}, Dt X.K H x d → RelV x u → ∃ as, Reads s.heap u d as
  | _, _, _, .non, r => by cases r; exact ⟨_, .none⟩
  | _, _, _, .bl b, r => by cases r; exact ⟨_, .bool b⟩
  | _, _, _, .int i, r => by obtain ⟨t, rfl⟩ := r; exact ⟨_, .int i t⟩
  | _, _, _, .str x, r => by obtain ⟨t, rfl⟩ := r; exact ⟨_, .str x t⟩
  | _, _, _, .lst q ds, r => by
    cases r
    obtain ⟨its, rv, ⟨o, n, e, c, _, d⟩, _⟩ := I.list q
    obtain ⟨as, h⟩ := Dts.reads I ds rv
    exact ⟨_, .list e c d (by simpa using h)⟩
  | _, _, _, .tup q ds, r => by
    cases r
    obtain ⟨its, rv, ⟨o, e, c, n, d⟩, _⟩ := I.tuple q
    obtain ⟨as, h⟩ := Dts.reads I ds rv
    exact ⟨_, .tuple e c d (by simpa using h)⟩
theorem Dts.reads (I : Inv X pins σ H s) : ∀ {xs : List V} {ds : List PyData} {us : List Value}, Dts X.K H xs ds → Vals xs us → ∃ as, ReadsAll s.heap us ds as
  | _, _, _, .nil, .nil => ⟨_, .nil⟩
  | _, _, _, .cons d ds, .cons r rs => by
    obtain ⟨as, h⟩ := Dt.reads I d r
    obtain ⟨bs, h'⟩ := Dts.reads I ds rs
    exact ⟨_, .cons h h'⟩
end
end
section
variable{X:Cx}{k:Nat}
def rEqD(K:Af):R2:=fun x y H Q=>∃d e,Dt K H x d/\Dt K H y e/\d.canLay0=true/\e.canLay0=true/\min d.depth e.depth<=100/\Q (.bl (Fl d e)) H
def rNeD(K:Af):R2:=fun x y H Q=>∃d e,Dt K H x d/\Dt K H y e/\d.canLay0=true/\e.canLay0=true/\min d.depth e.depth<=100/\Q (.bl (!PyData.eqv d e)) H
theorem op_eqD(hr:Room k X.A):OpR X (Cd .Eq) (rEqD X.K):=by
 intro pins s σ H x y v u Q I rx ry h;obtain⟨d,e,hd,he,cd,ce,hm,q⟩:=h;obtain⟨as,r1⟩:=hd.reads I rx;obtain⟨bs,r2⟩:=he.reads I ry;have hu:=hr.un;exact SeqAt.rcAt_reads r1 r2 cd ce (by lia) X.prog X.w X.xe _ ⟨.bl _,H,I,rfl,q⟩
theorem op_neD(hr:Room k X.A):OpR X (Cd .NotEq) (rNeD X.K):=by
 intro pins s σ H x y v u Q I rx ry h;obtain⟨d,e,hd,he,cd,ce,hm,q⟩:=h;obtain⟨as,r1⟩:=hd.reads I rx;obtain⟨bs,r2⟩:=he.reads I ry;have hu:=hr.un;exact SeqAt.rcNeAt_reads r1 r2 cd ce (by lia) X.prog X.w X.xe _ ⟨.bl _,H,I,rfl,q⟩
def rAddU:R2:=fun x y H Q=>(∃i j,x=.int i/\y=.int j/\Q (.int (i+j)) H)\/(∃i j,x=.str i/\y=.str j/\i.length+j.length<=sizeLine/\Q (.str (i++j)) H)\/rCat x y H Q
theorem q0j:OpR X (Fc .Add) rAddU:=op_add.or (op_add_str.or op_cat)
def rMulU:R2:=fun x y H Q=>(∃i j,x=.int i/\y=.int j/\CMul i j/\Q (.int (i*j)) H)\/rMulS x y H Q\/rRep x y H Q
theorem z1g:OpR X (Fc .Mult) rMulU:=op_mul.or (op_mulS.or op_rep)
def rEqU(K:Af):R2:=fun x y H Q=>rEq x y H Q\/rEqD K x y H Q
theorem op_eqU(hr:Room k X.A):OpR X (Cd .Eq) (rEqU X.K):=op_eq.or (op_eqD hr)
def rNeU(K:Af):R2:=fun x y H Q=>rNe x y H Q\/rNeD K x y H Q
theorem op_neU(hr:Room k X.A):OpR X (Cd .NotEq) (rNeU X.K):=op_ne.or (op_neD hr)
def rInU(K:Af):R2:=fun x y H Q=>(∃i j,x=.str i/\y=.str j/\Q (.bl (!(En j i 0 j.length 1).isEmpty)) H)\/rIn K false x y H Q
theorem op_inU:OpR X (Cd .In) (rInU X.K):=op_in_str.or z5a
def rNinU(K:Af):R2:=fun x y H Q=>(∃i j,x=.str i/\y=.str j/\Q (.bl (!(!(En j i 0 j.length 1).isEmpty))) H)\/rIn K true x y H Q
theorem x0f:OpR X (Cd .NotIn) (rNinU X.K):=op_notIn_str.or q9v
def rSlU(K:Af):V->Option Int->Option Int->Hp->VK->Prop:=fun x lo hi H Q=>rSlS x lo hi H Q\/rSlL K x lo hi H Q\/rSlT K x lo hi H Q
theorem sl_U:SlR X (rSlU X.K):=sl_str.or (sl_list.or sl_tup)
def iAny(K:Af)(tl:TE):TI:=fun σ H R=>tl σ H fun x H1=>(∃a,x=.ref a/\(∃xs,SqL K H1 a xs)/\R (Itl K a) H1)\/(∃a,x=.ref a/\(∃xs,SqT K H1 a xs)/\R (Itt K a) H1)\/∃z,x=.str z/\R (Its z) H1
theorem pi_any(hl:PE X l tl):PI X tg l (iAny X.K tl):=by
 intro pins s σ H R I h;refine thn (hl pins s σ H _ I h) fun v s1 ⟨x,H1,I1,r1,q1⟩=>?_;have fp:∀b∈[s1.heap.objs.size],FpOk X pins H1 b:=fun b hb=>by
  have e:b=s1.heap.objs.size:=by grind
  subst e;exact I1.fpOk (Ah _) (I1.hok.fresh (Ah _))
 rcases q1 with⟨a,e,⟨xs,hq⟩,q⟩|⟨a,e,⟨xs,hq⟩,q⟩|⟨z,e,q⟩
 ·subst e;cases r1;obtain⟨its,rv,p,hz⟩:=I1.list hq;exact Jz p.isList ⟨s1.heap.objs.size,[s1.heap.objs.size],_,_,H1,rfl,I1.kept (t':=s1.toks) fun b o e=>Ad _ e,q9n a _,⟨_,As _ rfl,rfl,rfl⟩,fp,q⟩
 ·subst e;cases r1;obtain⟨its,rv,p,hz⟩:=I1.tuple hq;exact wpAny_pyIter_tuple (show s1.heap.IsTuple a its.toArray from p) ⟨s1.heap.objs.size,[s1.heap.objs.size],_,_,H1,rfl,I1.kept (t':=s1.toks) fun b o e=>Ad _ e,z3j a _,⟨_,As _ rfl,rfl,rfl⟩,fp,q⟩
 ·subst e;obtain⟨t,rfl⟩:=r1;cases ha:z.cps.all (· < 128)
  ·exact wpAny_pyIter_wide ha ⟨s1.heap.objs.size,[s1.heap.objs.size],_,_,H1,rfl,I1.kept (t':=s1.toks) fun b o e=>Ad _ e,z5g _ z t,⟨Bg _,_,As _ rfl,rfl,rfl⟩,fp,q⟩
  ·exact wpAny_pyIter_ascii ha ⟨s1.heap.objs.size,[s1.heap.objs.size],_,_,H1,rfl,I1.kept (t':=s1.toks) fun b o e=>Ad _ e,z5f _ z t,⟨Bg _,_,As _ rfl,rfl,rfl⟩,fp,q⟩
def iZip(K:Af)(ta:TA):TI:=fun σ H R=>iZipS ta σ H R\/iZipL K ta σ H R
theorem pi_zip{elts:List Expr}{kk:Nat}{tpos:Pos}{p pos:Pos}(hg:Gl X "zip")(hm:X.mg "zip" = none)(ha:PA X [a,b] ta)(hs:Ay [a,b] X.env=[(false,eval a X.env),(false,eval b X.env)]:=by rfl)(hs2:Ay [b] X.env=[(false,eval b X.env)]:=by rfl):
  PI X (.Tuple elts kk tpos) (.Call (.Name "zip" p) [a,b] [] pos) (iZip X.K ta):=(x0c hg hm ha hs hs2).or (x0d hg hm ha hs hs2)
end
open PySem PySem.Spec PyProof.Rows
section
variable{X:Cx}{a b o e l:Expr}{es:List Expr}{ta tb to te tl:TE}{t:TA}{pos p2 apos cpos:Pos}{k:Nat}{name:Str}{T idn:String}{r:V->List V->Hp->VK->Prop}
theorem ix_k(K:Af)(hK:X.K=K):IxR X (rIx K):=by subst hK;exact ix_seq
theorem q1q(K:Af)(hK:X.K=K):CallR X (.builtin "len") (fun xs H Q=>∃x n,xs=[x]/\LenV K x H n/\Q (.int n) H):=by subst hK;exact z7c
theorem eq_k(K:Af)(hK:X.K=K)(hr:Room k X.A):OpR X (Cd .Eq) (rEqU K):=by subst hK;exact op_eqU hr
theorem ne_k(K:Af)(hK:X.K=K)(hr:Room k X.A):OpR X (Cd .NotEq) (rNeU K):=by subst hK;exact op_neU hr
theorem in_k(K:Af)(hK:X.K=K):OpR X (Cd .In) (rInU K):=by subst hK;exact op_inU
theorem z1h(K:Af)(hK:X.K=K):OpR X (Cd .NotIn) (rNinU K):=by subst hK;exact x0f
theorem sl_k(K:Af)(hK:X.K=K):SlR X (rSlU K):=by subst hK;exact sl_U
theorem q6n{tg:Expr}(K:Af)(hK:X.K=K)(hl:PE X l tl):PI X tg l (iAny K tl):=by subst hK;exact pi_any hl
theorem lst_k{tg:Expr}(K:Af)(hK:X.K=K)(hl:PE X l tl):PI X tg l (iList K tl):=by subst hK;exact z9x hl
theorem zip_k{elts:List Expr}{kk:Nat}{tpos:Pos}{p:Pos}(K:Af)(hK:X.K=K)(hg:Gl X "zip")(hm:X.mg "zip" = none)(ha:PA X [a,b] t)(hs:Ay [a,b] X.env=[(false,eval a X.env),(false,eval b X.env)]:=by rfl)(hs2:Ay [b] X.env=[(false,eval b X.env)]:=by rfl):
  PI X (.Tuple elts kk tpos) (.Call (.Name "zip" p) [a,b] [] pos) (iZip K t):=by subst hK;exact pi_zip hg hm ha hs hs2
theorem all_k(K:Af)(hK:X.K=K)(hc:X.calm=true):CallR X (.builtin "all") (fun xs H Q=>∃(p:Addr) (bs:List Bool),xs=[.ref p]/\SqL K H p (bs.map V.bl)/\Q (.bl (bs.all id)) H):=by subst hK;exact z7j hc
theorem list_k(K:Af)(hK:X.K=K):CallR X (.type "list") (fun xs H Q=>∃p ys,xs=[.ref p]/\(SqL K H p ys\/SqT K H p ys)/\∀l,H l=none->Q (.ref l) (upd H l (.lst ys))):=by subst hK;exact q9w
theorem z5k(K:Af)(hK:X.K=K):CallR X (.type "tuple") (fun xs H Q=>∃p ys,xs=[.ref p]/\((SqL K H p ys/\∀l,H l=none->Q (.ref l) (upd H l (.tup ys)))\/(SqT K H p ys/\Q (.ref p) H))):=by subst hK;exact q8c
theorem z8y(K:Af)(hK:X.K=K):MtM X "str.join" (rJoin K):=by subst hK;exact x0b
theorem q2f{kk n:Nat}{u:TGs}(K:Af)(hK:X.K=K)(hc:X.calm=true)(h:PGs X es u)(hn:(Gp es X.env).length=n:=by rfl)(hst:(Gp es X.env).findIdx? (·.1)=none:=by rfl):PG X (.Tuple es kk pos) (gTup K n u):=by subst hK;exact pg_tup hc h hn hst
theorem bm_k(K:Af)(hK:X.K=K)(pa:Mp T)(slot:Slot T name idn)(hty:typeOf (.builtin idn)=pure (.type "method_descriptor"))(hm:MtR X idn r)(ho:PE X o to)(ha:PA X (e::es) t)(hbase:Gy o name X.env (eval o X.env)=eval o X.env:=by rfl)(hfew:((Fp cpos (Ay (e::es) X.env)).all (fun x => !x.1)&&(backToKw cpos (Oj [] X.env)).all (fun x=>x.1.isSome)
   && decide ((e::es).length+([]:List Pn).length+(if ([]:List Pn).isEmpty then 0 else 1)<30))=true:=by rfl)(hline:(apos.endLine==cpos.line)=true:=by rfl)(hs:Ay (e::es) X.env=(false,eval e X.env)::Ay es X.env:=by rfl)(hplain:(Fp cpos (Ay es X.env)).any (·.1)=false:=by rfl):
  PE X (.Call (.Attribute o name apos) (e::es) [] cpos) (tBM K T r to t):=by subst hK;exact pe_bm pa slot hty hm ho ha hbase hfew hline hs hplain
theorem z5l(K:Af)(hK:X.K=K)(pa:Mp T)(slot:Slot T name idn)(hty:typeOf (.builtin idn)=pure (.type "method_descriptor"))(hm:MtR X idn r)(ho:PE X o to)(hbase:Gy o name X.env (eval o X.env)=eval o X.env:=by rfl)(hline:(apos.endLine==cpos.line)=true:=by rfl):PE X (.Call (.Attribute o name apos) [] [] cpos) (tBM0 K T r to):=by subst hK;exact pe_bm0 pa slot hty hm ho hbase hline
theorem z7o(K:Af)(hK:X.K=K)(ha:PE X a ta)(he:∀whole,isTrue a X.env whole=(do let v<-whole;Pm a.pos;Kl [v] (truthy v))):
  PT X a (fun σ H Q=>ta σ H fun x H'=>∃k,TruV K x H' k/\Q k H'):=by subst hK;exact z7b ha he
end
theorem z1i{lo:Int}{r:St}{Fin:List V->Hp->Prop}(Pv:Nat->List V->Hp->Prop)(h0:Pv 0 [] (upd H1 D (.lst [])))(hl:∀i ys H,Pv i ys H->H D=some (.lst ys))(hs:∀i ys H,i<n->Pv i ys H->te (some (.int (lo+i))::r) H fun v H4=>H4 D=some (.lst ys)/\ys.length<sizeLine/\Pv (i+1) (ys++[v]) (upd H4 D (.lst (ys++[v]))))(hd:∀ys H,Pv n ys H->Fin ys H):CompW (Itr lo n) (gName 0) tIf0 te (none::r) D Fin H1 :=
 q7l Pv h0 hl (fun i ys H h p=>(⟨q5c,iteT (hs i ys H h p)⟩:Keeps0 (none::r) (some (.int (lo+i))::r)/\if true=true then te (some (.int (lo+i))::r) H fun v H4=>H4 D=some (.lst ys)/\ys.length<sizeLine/\Pv (i+1) (ys++[v]) (upd H4 D (.lst (ys++[v]))) else Pv (i+1) ys H)) hd
theorem z5m{r:St}{Fin:List V->Hp->Prop}(Pv:Nat->List V->Hp->Prop)(h0:Pv 0 [] (upd H1 D (.lst [])))(hl:∀i ys H,Pv i ys H->H D=some (.lst ys))(hs:∀i ys H c,z.cps[i]?=some c->Pv i ys H->te (some (.str ⟨#[c]⟩)::r) H fun v H4=>H4 D=some (.lst ys)/\ys.length<sizeLine/\Pv (i+1) (ys++[v]) (upd H4 D (.lst (ys++[v]))))(hd:∀ys H,Pv z.length ys H->Fin ys H):CompW (Its z) (gName 0) tIf0 te (none::r) D Fin H1 :=
 z7k Pv h0 hl (fun i ys H c h p=>(⟨q5c,iteT (hs i ys H c h p)⟩:Keeps0 (none::r) (some (.str ⟨#[c]⟩)::r)/\if true=true then te (some (.str ⟨#[c]⟩)::r) H fun v H4=>H4 D=some (.lst ys)/\ys.length<sizeLine/\Pv (i+1) (ys++[v]) (upd H4 D (.lst (ys++[v]))) else Pv (i+1) ys H)) hd
def tSeqJ(t u:TS):TS:=fun D σ H=>∃J:St->Hp->Prop,(∀σ' H',J σ' H'->u D σ' H')/\t { D with nx:=J } σ H
theorem q1g{X:Cx}{st:Stmt}{rest:List Stmt}{t u:TS}(h1:PS X st t)(h2:PSs X rest u):PSs X (st::rest) (tSeqJ t u):=by
 intro pins s σ H D I h;obtain⟨J,hJ,h⟩:=h;refine Kn (thn (h1 pins s σ H { D with nx:=J } I h) fun f s1 q=>?_);cases f with
 |next =>
  obtain⟨σ',H',I',q⟩:=q;exact h2 pins s1 σ' H' D I' (hJ σ' H' q)
 |ret v=>exact q
 |brk=>exact q
 |cont=>exact q
def tVJ(t:TE):TE:=fun σ H Q=>∃J:VK,(∀v H',J v H'->Q v H')/\t σ H J
theorem pe_j{X:Cx}{e:Expr}{t:TE}(h:PE X e t):PE X e (tVJ t):=by
 intro pins s σ H Q I hw;obtain⟨J,hJ,hw⟩:=hw;exact thn (h pins s σ H J I hw) fun u s' ⟨v,H',I',r,q⟩=>⟨v,H',I',r,hJ v H' q⟩
def tTJ(t:TT):TT:=fun σ H Q=>∃J:Bool->Hp->Prop,(∀b H',J b H'->Q b H')/\t σ H J
theorem pt_j{X:Cx}{e:Expr}{t:TT}(h:PT X e t):PT X e (tTJ t):=by
 intro pins s σ H Q I hw;obtain⟨J,hJ,hw⟩:=hw;exact thn (h pins s σ H J I hw) fun u s' ⟨H',I',q⟩=>⟨H',I',hJ u H' q⟩
theorem iteB{B:Prop}(hA:c=true->A)(hB:c=false->B):if c=true then A else B:=by grind
end L2
namespace TX
open PySem PySem.Spec PyProof.Rows L2
abbrev tl(x:Str):List Nat:=x.cps.toList
abbrev mk(l:List Nat):Str:=⟨l.toArray⟩
theorem q0z(l:List Nat):tl (mk l)=l:=by simp[tl,mk]
theorem mk_tl(x:Str):mk (tl x)=x:=by simp[tl,mk]
theorem ext(h:tl x=tl y):x=y:=ext_toList h
theorem len(x:Str):x.length=(tl x).length:=by simp[tl,Str.length]
theorem q1d(x y:Str):tl (x++y)=tl x++tl y:=by
 show(x.cps++y.cps).toList=_;simp[tl]
theorem q0q(x y:Str):(x++y).length=x.length+y.length:=by rw[len,len,len,q1d,Ae]
theorem get{i:Nat}(h:x.cps[i]?=some c):(tl x)[i]?=some c:=by simpa[tl] using h
theorem x0g(z:Str)(ts:List Str):Ot z ts=Str.join z ts:=StrLaws.glued_eq_join z ts
theorem z5n:∀ts:List Str,tl (Ot (Ab "") ts)=(ts.map tl).flatten:=by
 intro ts;rw[x0g];induction ts with
 |nil=>rfl
 |cons a r ih =>
  cases r with
  |nil=>simp[Str.join]
  |cons b r =>
   show tl (a++Ab "" ++ Str.join (Ab "") (b::r))=_;rw[q1d,q1d,ih];have e:tl (Ab "")=[]:=by decide +kernel
   rw[e];simp
theorem z5o(cs:List Nat):Ot (Ab "") (cs.map fun c=>(⟨#[c]⟩:Str))=mk cs:=by
 apply ext;rw[z5n,q0z,Hj];induction cs with
 |nil=>rfl
 |cons c r ih=>rw[Cj,Kb,ih];rfl
theorem z7p(cs:List Nat):((cs.map fun c=>(⟨#[c]⟩:Str)).map (·.length)).sum=cs.length:=by
 induction cs with
 |nil=>rfl
 |cons c r ih=>rw[Cj,Cj,List.sum_cons,ih,Be];show 1+_=_;lia
theorem z2n{j:Int}(h0:0<=j)(h1:j<=(tl x).length):Nq x none (some j)=mk ((tl x).take j.toNat):=by
 show Bs x none (some j)=_;rw[StrLaws.sliceText_to ⟨h0,h1⟩];simp[mk,tl]
theorem q3q{i:Int}(h0:0<=i)(h1:i<=(tl x).length):Nq x (some i) none=mk ((tl x).drop i.toNat):=by
 show Bs x (some i) none=_;rw[StrLaws.sliceText_from ⟨h0,h1⟩];rw[Cs];rw[Bx];lia
theorem q3u(x:Str)(c:Nat):(!(En x ⟨#[c]⟩ 0 x.length 1).isEmpty)=decide (c∈tl x):=StrLaws.found_one x c
theorem lower(h:∀c∈tl x,c<128):tl (Txt.lower x)=(tl x).map lo1:=by
 rw[lower_ascii h];simp[tl]
theorem small(h:n<=1000000):n<=sizeLine:=by rw[Es];lia
theorem small'(h:n<=1000000):n<sizeLine:=by rw[Es];lia
end TX
namespace L2
open PySem PySem.Spec PyProof.Rows TX
def spText:Sp:=fun vs H Q _=>∃a b g n,vs=[.ref a,.str g,.int n]/\FeedAt H a b/\0<g.length/\g.length<=1000/\0<=n/\n<=1000 /\
 ∀(t:List Nat) H',t.length=n.toNat->(∀c∈t,c∈tl g)->Fd a b H H'->Q (.str (mk t)) H'
theorem q1e{α:Type}{l:List α}{x:α}(h:l[i]?=some x):l.take (i+1)=l.take i++[x]:=by
 rw[Mb,h];rfl
open PySem PySem.Spec PyProof.Rows
section
variable{prog:Program}{w:World}{K:Af}{A:Around}{E:Value->Ag->Prop}{s:Ag}{J:It}{st:Nat->Heap->Prop}{e it:Addr}{H:Hp}
theorem z3u{i:Nat}{Q:Value->Ag->Prop}(S:Srce prog w K J it st)(hh:A.handled=none)(vw:Vw K H s.heap)(nH:H it=none)(nK:K.lookup it=none)(he:IsEnum s.heap e it i old)(hst:st i s.heap)(go:J.go i H)(hne:e≠it)(hQ:∀u x h' tk,RelV x u->J.yld i H x H->IsEnumOut h' e it ((i:Int)+1) u s.heap.objs.size->st (i+1) h'->h'.get? s.heap.objs.size=some { cls:=.type "tuple",data:=.seq #[.int i tk,u] }->h'.objs.size=s.heap.objs.size+1 ->
   (∀b o,b≠e->b≠it->s.heap.get? b=some o->h'.get? b=some o)->Q (.ref s.heap.objs.size) { s with heap:=h',toks:=tk+1 }):
  wpAny (model prog w) A (Dz.«enumerate.__next__» ⟨[.ref e],[]⟩) (fun fin s'=>∃v,fin=.done (.ret v)/\Q v s') E s:=by
 obtain⟨hp,g,d,tk₀,os⟩:=s;show wpAny _ _ (field (.ref e) 2 >>= _) _ _ _;refine Ac (Bm he rfl rfl ?_);refine Ac (S.item _ i _ H _ _ hh vw nH nK hst go fun u x h₁ tk rx yx st₁ hs₁=>?_);have he₁:=(hs₁.2 e hne).trans he;refine Ac (Bm he₁ rfl rfl ?_);refine Ac (Bm he₁ rfl rfl ?_);refine Ac (wpAny_mkInt ?_);refine Ac (Ci he₁ (by simp) fun h₂ he₂ hs₂=>?_);refine Ac (Ci he₂ (by simp) fun h₃ he₃ hs₃=>?_);refine Ac (wpAny_newTuple ?_);have he₄:IsEnum (h₃.push { cls:=.type "tuple",data:=.seq #[.int i tk,u] }) e it ((i:Int)+1) old:=Ad _ he₃;generalize hh₄:h₃.push { cls:=.type "tuple",data:=.seq #[.int i tk,u] }=h₄ at he₄;have hsz:h₃.objs.size=hp.objs.size:=by rw[hs₃.1,hs₂.1,hs₁.1]
 have hel:=An he;have ht₄:h₄.get? hp.objs.size=some { cls:=.type "tuple",data:=.seq #[.int i tk,u] }:=by rw[<- hh₄,<- hsz];exact As _ rfl
 have hz₄:h₄.objs.size=hp.objs.size+1:=by rw[<- hh₄,Gi,hsz]
 have hk₄:∀b o,b≠e->b≠it->hp.get? b=some o->h₄.get? b=some o:=fun b o hbe hbi hb=>by
  rw[<- hh₄];exact Ad _ (hs₃.extBut b o hbe (hs₂.extBut b o hbe (hs₁.extBut b o hbi hb)))
 have hit₄:st (i+1) h₄:=S.keep _ _ _ st₁ fun o y=>by
  rw[<- hh₄];exact Ad _ (hs₃.extBut it o hne.symm (hs₂.extBut it o hne.symm y))
 rw[hsz];refine Ac ?_;refine Ac (Bm he₄ rfl rfl (Aj ?_));refine Ac (Mq ?_);refine Ac (Bm he₄ rfl rfl ?_);refine Ac (Ci he₄ (by simp) fun h₅ he₅ hs₅=>?_);refine Ac ?_;refine Ac (Ci he₅ (by simp) fun h₆ he₆ hs₆=>?_);refine Ci he₆ (by simp) fun h₇ he₇ hs₇=>?_;have up:=fun b o hb y=>hs₇.extBut b o hb (hs₆.extBut b o hb (hs₅.extBut b o hb y));refine Ac (Ls (Aj ⟨_,rfl,hQ u x h₇ tk rx yx he₇ (S.keep _ _ _ hit₄ fun o y=>up _ o hne.symm y) (up _ _ (Fq hel) ht₄) ?_ fun b o hbe hbi hb=>up b o hbe (hk₄ b o hbe hbi hb)⟩));rw[hs₇.1,hs₆.1,hs₅.1,hz₄]
end
def Ite(J:It):It:=⟨fun i H=>J.go i H,fun i H x H'=>∃T y,H T=none/\J.yld i H y H/\x=.ref T/\H'=upd H T (.tup [.int i,y]),fun i H=>J.stop i H⟩
theorem z5p{K:Af}{st:Nat->Heap->Prop}(hne:e≠it)(S:Srce P w K J it st):
  Turn P w K (.Tuple elts kk pos) (Ite J) [e,it] e (fun i h=>(∃old,IsEnum h e it i old)/\st i h) where
 mem:=by simp
 obj:=fun i h hs b hb=>by
  obtain⟨⟨old,he⟩,h1⟩:=hs;simp only[Bd,Br,or_false] at hb;rcases hb with rfl|rfl
  ·grind
  ·exact S.obj i h h1
 keep:=fun i h h' hs k=>by
  obtain⟨⟨old,he⟩,h1⟩:=hs;exact⟨⟨old,k e (by simp) _ he⟩,S.keep _ _ _ h1 fun o y=>k it (by simp) o y⟩
 item:=by
  intro X hP hw hK hc i pins s σ H E I hf hs hg;subst hP hw hK;obtain⟨⟨old,he⟩,h1⟩:=hs;have hT:s.TypeIs (.ref e) "enumerate" := ⟨_,he,rfl⟩
  refine Ac (El (Dg hT Gk
   (Dw Gk hT Lu
    (z3u S (I.ok.hd hc) I.vw (hf it (by simp)).1 ((hf it (by simp)).noK I) he h1 hg hne fun u x h' tk rx yx a1 a2 a3 a4 a5=>Aj ?_) (Kz _))))
  refine⟨_,rfl,?_⟩;refine wpAny_letOwnedTupleGo_enum a1 fun h2 he2 hs2=>?_;have k2:∀c o,c∉[e,it]->s.heap.get? c=some o->h2.get? c=some o:=fun c o hcn y=>by
   simp only[Bd,Br,or_false,not_or] at hcn;exact hs2.extBut _ _ hcn.1 (a5 c o hcn.1 hcn.2 y)
  have elt:=An he;have ilt:it<s.heap.objs.size:=by obtain⟨o,y,_⟩:=S.obj _ _ h1;exact An y
  have I1:Inv X pins σ H { s with heap:=h2,toks:=tk+1 }:=I.turnedL k2 hf;have FT:=I.fpOk (Ah _) I.fresh;have hT2:h2.get? s.heap.objs.size=some { cls:=.type "tuple",data:=.seq #[.int i tk,u] }:=hs2.extBut _ _ (Fq elt) a3;have I2:Inv X pins σ (upd H s.heap.objs.size (.tup [.int i,x])) { s with heap:=h2,toks:=tk+1 } :=
   I1.track I.sz FT ⟨by show 2<=sizeLine;decide,[.int i tk,u],.cons ⟨_,rfl⟩ (.cons rx .nil),⟨_,hT2,rfl,_,rfl⟩⟩
  refine⟨.ref s.heap.objs.size,_,I2,rfl,⟨_,x,I.fresh,yx,rfl,rfl⟩,⟨⟨u,by simpa using he2⟩,S.keep _ _ _ a2 fun o y=>hs2.extBut _ _ hne.symm y⟩,fun b hb=>?_⟩;have hb2:=(hf b hb).1;rw[q0l]
  ·exact hb2
  ·grind
 done:=by
  intro X hP hw hK hc i pins s σ H E I hf hs hg;subst hP hw hK;obtain⟨⟨old,he⟩,h1⟩:=hs;have hT:s.TypeIs (.ref e) "enumerate" := ⟨_,he,rfl⟩
  refine Ac (El (Dg hT Gk
   (Dw Gk hT Lu ?_ (Kz _))))
  show wpAny _ _ (field (.ref e) 2 >>= _) _ _ _;refine Ac (Bm he rfl rfl ?_);refine Ac (S.done _ i _ H _ _ (I.ok.hd hc) I.vw (hf it (by simp)).1 ((hf it (by simp)).noK I) h1 hg fun h' x he' hx'=>?_);obtain⟨o,ho,hcl⟩:=hx';refine Ac (Kw ⟨o,ho,hcl⟩ Ma ?_);refine Aj ⟨rfl,I.turnedL (t':=s.toks) (fun c o hcn y=>?_) hf⟩;simp only[Bd,Br,or_false,not_or] at hcn;exact he' c o hcn.2 y
 self:=fun _ _ _ _ _ hs h=>by
  obtain⟨⟨old,he⟩,_⟩:=hs;exact Oe he h
section
variable{X:Cx}{elts:List Expr}{kk:Nat}{tpos:Pos}
theorem z0b{σ:St}{st:Nat->Heap->Prop}(I:Inv X pins σ H s)(S:Srce X.prog X.w X.K J s.heap.objs.size st)(he:IsEnum h' (s.heap.objs.size+1) s.heap.objs.size 0 .none)(h1:st 0 h')(hk:∀c o,s.heap.get? c=some o->h'.get? c=some o)(q:R (Ite J) H):
  wpAny (model X.prog X.w) X.A (Ko (.ref (s.heap.objs.size+1))) (PIE X pins σ (.Tuple elts kk tpos) R) E { s with heap:=h' }:=by
 refine Oe he ?_;refine⟨_,_,_,_,H,rfl,I.kept (t':=s.toks) hk,z5p (show(s.heap.objs.size+1:Nat)≠s.heap.objs.size by lia) S,⟨⟨_,he⟩,h1⟩,fun b hb=>?_,q⟩;have hb':s.heap.objs.size<=b:=by
  simp only[Bd,Br,or_false] at hb;rcases hb with rfl|rfl
  ·exact Hc _
  ·exact Ah _
 exact I.fpOk hb' (I.hok.fresh hb')
def iEnum(K:Af)(ta:TA):TI:=fun σ H R=>ta σ H fun vs H1=>(∃z,vs=[.str z]/\R (Ite (Its z)) H1)\/∃a xs,vs=[.ref a]/\SqL K H1 a xs/\R (Ite (Itl K a)) H1
theorem x0h(hg:Gl X "enumerate")(hm:X.mg "enumerate" = none)(ha:PA X [a] ta)(hs:Ay [a] X.env=[(false,eval a X.env)]:=by rfl):
  PI X (.Tuple elts kk tpos) (.Call (.Name "enumerate" p) [a] [] pos) (iEnum X.K ta):=by
 intro pins s σ H R I h;refine Call_ (q4c I hg hm (by decide +kernel:Eg "enumerate" = some (.type "enumerate")) (Ck (thn (ha pos pins s σ H _ I h) fun us s1 ⟨vs,H1,I1,r1,q1⟩=>?_) hs rfl));rcases q1 with⟨z,e,q⟩|⟨l,xs,e,hq,q⟩
 ·subst e;obtain⟨u,rfl,t,rfl⟩:=vals1 r1;exact call_enumerate_str fun h' he hi hz hk=>z0b I1 (q8h _ z t) he hi hk q
 ·subst e;obtain⟨u,rfl,r⟩:=vals1 r1;cases r;obtain⟨its,rv,pl,_⟩:=I1.list hq;exact call_enumerate_list pl.isList fun h' he hi hz hk=>z0b I1 (q6m l _) he hi hk q
theorem z2o{a:Expr}{ta:TA}{p pos:Pos}(K:Af)(hK:X.K=K)(hg:Gl X "enumerate")(hm:X.mg "enumerate" = none)(ha:PA X [a] ta)(hs:Ay [a] X.env=[(false,eval a X.env)]:=by rfl):
  PI X (.Tuple elts kk tpos) (.Call (.Name "enumerate" p) [a] [] pos) (iEnum K ta):=by subst hK;exact x0h hg hm ha hs
theorem q4l{g:TG}{tb:TS}{D:Ends}(Pv:Nat->St->Hp->Prop)(h0:Pv 0 σ H)(hs:∀i c T σ H,z.cps[i]?=some c->Pv i σ H->H T=none->g (.ref T) σ (upd H T (.tup [.int i,.str ⟨#[c]⟩])) fun σ2 H2=>tb { D with nx:=Pv (i+1),ct:=Pv (i+1),bk:=D.nx } σ2 H2)(hd:∀σ H,Pv z.length σ H->D.nx σ H):
  ∃W:Nat->Nat->St->Hp->Prop,(∃m,W 0 m σ H)/\∀i m σ H,W i m σ H ->
   ((Ite (Its z)).stop i H/\D.nx σ H)\/((Ite (Its z)).go i H/\∃N:St->Hp->Prop,(∀σ' H',N σ' H'->∃m',m'<m/\W (i+1) m' σ' H')/\∀v H',(Ite (Its z)).yld i H v H'->g v σ H' fun σ2 H2=>tb { D with nx:=N,ct:=N,bk:=D.nx } σ2 H2):=by
 refine z5j Pv h0 (fun i σ H h _=>h) (fun σ H _=>Ah _) (fun i v σ H H' h p yl=>?_) hd;obtain⟨T,y,hT,⟨_,c,hc,rfl⟩,rfl,rfl⟩:=yl;exact hs i c T σ H hc p hT
end
end L2
namespace K
open PySem L2 TX
def NSs:Str:=Ab "abcdefghijklmnopqrstuvwxyzABCDEFGHIJKLMNOPQRSTUVWXYZ0123456789-_."
def GSs:Str:=Ab "?*#@"
abbrev NS:List Nat:=tl NSs
abbrev GS:List Nat:=tl GSs
theorem ns_gs:∀c∈NS,¬c∈GS:=by decide +kernel
theorem z2p:∀c∈NS,c<128:=by decide +kernel
theorem z7q:∀c∈GS,c<128:=by decide +kernel
theorem z2q:NSs.length=65:=by decide +kernel
theorem z8z:GSs.length=4:=by decide +kernel
theorem z2r(h:c∈GS):([c].filter fun c=>decide (c∈GS))=[c]:=by simp_all
theorem z2s(h:¬c∈GS):([c].filter fun c=>decide (c∈GS))=[]:=by grind
inductive Pt where
 |tx (l:List Nat)
 |gp (c:Nat)
namespace Pt
def fl:Pt->List Nat
 |tx l=>l
 |gp c=>[c]
def isG:Pt->Bool
 |tx _=>false
 |gp _=>true
def ok:Pt->Prop
 |tx l=>l≠[]/\∀c∈l,c∈NS
 |gp c=>c∈GS
def word:Pt->Str
 |tx _=>Ab "text"
 |gp _=>Ab "gap"
def vs(p:Pt):List V:=[.str p.word,.str (mk p.fl)]
def dat(p:Pt):PyData:=.tuple [.str p.word,.str (mk p.fl)]
end Pt
def flat(ps:List Pt):List Nat:=(ps.map Pt.fl).flatten
def gaps(ps:List Pt):Nat:=(ps.filter Pt.isG).length
def noTT:List Pt->Bool
 |.tx _::.tx l::r=>false&&noTT (.tx l::r)
 |_::r=>noTT r
 |[]=>true
def tp(t:List Nat):List Pt:=if t=[] then[] else[.tx t]
def parse(cur:List Nat):List Nat->List Pt
 |[]=>tp cur
 |c::r=>if c∈GS then tp cur++.gp c::parse [] r else parse (cur++[c]) r
theorem q4m(p:Pt)(ps:List Pt):flat (p::ps)=p.fl++flat ps:=by simp[flat]
theorem q4n(a b:List Pt):flat (a++b)=flat a++flat b:=by simp[flat]
theorem q5u(a b:List Pt):gaps (a++b)=gaps a+gaps b:=by simp[gaps]
theorem q7m:∀(t cur r:List Nat),(∀c∈t,¬c∈GS)->parse cur (t++r)=parse (cur++t) r
 |[],cur,r,_=>by simp
 |c::t,cur,r,h=>by
  rw[Ov,parse,if_neg (h c Bo),q7m t (cur++[c]) r fun d hd=>h d (Av _ hd)];simp
theorem q1u(h:noTT (p::r)=true):noTT r=true:=by
 cases p with
 |gp c=>cases r<;>simpa[noTT] using h
 |tx l =>
  cases r with
  |nil=>rfl
  |cons q r =>
   cases q with
   |tx m=>simp[noTT] at h
   |gp c=>simpa[noTT] using h
theorem q5e:∀ps:List Pt,(∀p∈ps,p.ok)->noTT ps=true->parse [] (flat ps)=ps
 |[],_,_=>by simp[flat,parse,tp]
 |.gp c::r,h,n=>by
  have hc:c∈GS:=h _ Bo;show parse [] (c::flat r)=_;rw[parse,if_pos hc,q5e r (fun p hp=>h p (Av _ hp)) (q1u n)];simp[tp]
 |.tx l::r,h,n=>by
  have hl:=h _ Bo;show parse [] (l++flat r)=_;rw[q7m l [] (flat r) fun c hc=>ns_gs c (hl.2 c hc),List.nil_append];cases r with
  |nil=>simp[flat,parse,tp,hl.1]
  |cons q r =>
   cases q with
   |tx m=>simp[noTT] at n
   |gp c =>
    have hc:c∈GS:=h (.gp c) (by simp);show parse l (c::flat r)=_;rw[parse,if_pos hc,q5e r (fun p hp=>h p (by simp[hp])) (q1u (q1u n))];simp[tp,hl.1]
theorem z1j:∀{ps:List Pt} {c:Nat},noTT ps=true->noTT (ps++[.gp c])=true
 |[],_,_=>rfl
 |[.tx _],_,_=>rfl
 |[.gp _],_,_=>rfl
 |.gp d::q::r,c,h=>by
  have:=z1j (ps:=q::r) (c:=c) (q1u h);simpa[noTT] using this
 |.tx l::.tx m::r,c,h=>by simp[noTT] at h
 |.tx l::.gp d::r,c,h=>by
  have:=z1j (c:=c) (q1u h);simpa[noTT] using this
theorem z1k:∀{ps:List Pt} {c:Nat} {t:List Nat},noTT (ps++[.gp c])=true->noTT (ps++[.gp c]++[.tx t])=true
 |[],_,_,_=>rfl
 |[.tx _],_,_,_=>rfl
 |[.gp _],_,_,_=>rfl
 |.gp d::q::r,c,t,h=>by
  have:=z1k (ps:=q::r) (c:=c) (t:=t) (q1u h);simpa[noTT] using this
 |.tx l::.tx m::r,c,t,h=>by simp[noTT] at h
 |.tx l::.gp d::r,c,t,h=>by
  have:=z1k (t:=t) (q1u h);simpa[noTT] using this
theorem z1l:∀{ps:List Pt} {s t:List Nat},noTT (ps++[.tx s])=true->noTT (ps++[.tx t])=true
 |[],_,_,_=>rfl
 |[.tx _],_,_,h=>by simp[noTT] at h
 |[.gp _],_,_,_=>rfl
 |.gp d::q::r,s,t,h=>by
  have:=z1l (ps:=q::r) (s:=s) (t:=t) (q1u h);simpa[noTT] using this
 |.tx l::.tx m::r,s,t,h=>by simp[noTT] at h
 |.tx l::.gp d::r,s,t,h=>by
  have:=z1l (t:=t) (q1u h);simpa[noTT] using this
structure Good (l:List Nat):Prop where
 ne:l≠[]
 sg:∀c∈l,c∈GS\/c∈NS
 gp:(l.filter fun c=>decide (c∈GS)).length<=9
 len:l.length<=1000
structure WF (ps:List Pt):Prop where
 ne:ps≠[]
 ok:∀p∈ps,p.ok
 tt:noTT ps=true
 gp:gaps ps<=9
 sz:(flat ps).length<=24
theorem q6o:∀ps:List Pt,(∀p∈ps,p.ok)->((flat ps).filter fun c=>decide (c∈GS)).length=gaps ps
 |[],_=>rfl
 |.gp c::r,h=>by
  have hc:c∈GS:=h _ Bo;rw[q4m,Fz,Ae,q6o r fun p hp=>h p (Av _ hp)];have e1:([c].filter fun c=>decide (c∈GS))=[c]:=La (decide_eq_true hc);have e2:gaps (.gp c::r)=gaps r+1:=by unfold gaps;rw[La rfl,Be]
  show([c].filter fun c=>decide (c∈GS)).length+gaps r=_;rw[e1,e2,Aq];lia
 |.tx l::r,h=>by
  have hl:=h _ Bo;rw[q4m,Fz,Ae,q6o r fun p hp=>h p (Av _ hp)];have e:(l.filter fun c=>decide (c∈GS))=[]:=by
   rw[List.filter_eq_nil_iff];intro c hc;simpa using ns_gs c (hl.2 c hc)
  show(l.filter _).length+gaps r=gaps (.tx l::r);rw[e];simp[gaps,Pt.isG]
theorem z3v(h:∀p∈ps,p.ok):∀c∈flat ps,c∈GS\/c∈NS:=fun c hc=>by
 obtain⟨l,hl,hcl⟩:=List.mem_flatten.mp hc;obtain⟨p,hp,rfl⟩:=Nr.mp hl;have:=h p hp;cases p with
 |gp d =>
  have e:c=d:=by simpa[Pt.fl] using hcl
  rw[e];exact .inl this
 |tx l=>exact .inr (this.2 c hcl)
theorem WF.good(w:WF ps):Good (flat ps):=by
 refine⟨fun z=>?_,z3v w.ok,by rw[q6o ps w.ok];exact w.gp,Aw w.sz (by decide)⟩;cases ps with
 |nil=>exact w.ne rfl
 |cons p r =>
  have hp:=w.ok p Bo;have z1:=(Hy.mp z).1;cases p with
  |gp c=>cases z1
  |tx l=>exact hp.1 z1
def TKeep(H H':Hp):Prop:=∀T xs,H T=some (.tup xs)->H' T=some (.tup xs)
abbrev Tups(H:Hp):List Addr->List Pt->Prop:=Fg fun T p=>H T=some (.tup p.vs)
structure HL (H:Hp) (L:Addr) (ps:List Pt):Prop where
 ex:∃Ts:List Addr,H L=some (.lst (Ts.map V.ref))/\Tups H Ts ps
theorem Tups.keep{H H':Hp}(k:TKeep H H'):∀{Ts:List Addr} {ps:List Pt},Tups H Ts ps->Tups H' Ts ps
 |_,_,.nil=>.nil
 |_,_,.cons h t=>.cons (k _ _ h) (Tups.keep k t)
theorem Tups.len(h:Tups H Ts ps):Ts.length=ps.length:=Fw h
theorem Tups.app{H:Hp}:∀{Ts Us:List Addr} {ps qs:List Pt},Tups H Ts ps->Tups H Us qs->Tups H (Ts++Us) (ps++qs)
 |_,_,_,_,.nil,h=>h
 |_,_,_,_,.cons h t,u=>.cons h (Tups.app t u)
theorem Tups.last:∀{ps:List Pt} {p:Pt} {Ts:List Addr},Tups H Ts (ps++[p])->∃Us T,Ts=Us++[T]/\Tups H Us ps/\H T=some (.tup p.vs)
 |[],_,_,.cons h .nil=>⟨[],_,rfl,.nil,h⟩
 |_::ps,p,_,.cons h t=>by
  obtain⟨Us,T,rfl,h1,h2⟩:=Tups.last (ps:=ps) t;exact⟨_::Us,T,rfl,.cons h h1,h2⟩
theorem Tups.get:∀{Ts:List Addr} {ps:List Pt} {i:Nat} {x:V},Tups H Ts ps->(Ts.map V.ref)[i]?=some x->∃T p,x=.ref T/\ps[i]?=some p/\H T=some (.tup p.vs)
 |_,_,_,_,.nil,h=>by simp at h
 |_,_,0,x,.cons h t,e=>by simp at e;exact⟨_,_,e.symm,rfl,h⟩
 |_,_,i+1,x,.cons h t,e=>by
  obtain⟨T,p,h1,h2,h3⟩:=Tups.get (i:=i) (x:=x) t (by simpa using e);exact⟨T,p,h1,by simpa using h2,h3⟩
theorem TKeep.refl(H:Hp):TKeep H H:=fun _ _ h=>h
theorem TKeep.trans(a:TKeep H H1)(b:TKeep H1 H2):TKeep H H2:=fun T xs h=>b T xs (a T xs h)
theorem TKeep.new(k:TKeep H H')(h:H' p=none):TKeep H (upd H' p o):=fun T xs e=>by rw[q0l (q0w (k T xs e) h)];exact k T xs e
theorem TKeep.lst{H H':Hp}{p:Addr}{ys zs:List V}(k:TKeep H H')(h:H' p=some (.lst ys)):TKeep H (upd H' p (.lst zs)):=fun T xs e=>by
 rw[q0l (z4l (k T xs e) h (by intro z;cases z))];exact k T xs e
theorem Fd.tk(F:FeedAt H a b)(x:Fd a b H H'):TKeep H H':=fun T xs e=>by
 obtain⟨i,j,h⟩:=F.fa;exact x.at e (z4l e h (by intro z;cases z))
theorem Same.tk(s:Same H H'):TKeep H H':=fun T xs e=>s _ _ e
theorem HL.same(h:HL H L ps)(s:Same H H'):HL H' L ps:=by
 obtain⟨Ts,h1,h2⟩:=h.ex;exact⟨Ts,s _ _ h1,h2.keep (Same.tk s)⟩
theorem HL.fd(F:FeedAt H a b)(h:HL H L ps)(x:Fd a b H H')(hL:L≠a):HL H' L ps:=by
 obtain⟨Ts,h1,h2⟩:=h.ex;exact⟨Ts,x.at h1 hL,h2.keep (Fd.tk F x)⟩
theorem HL.new(h:HL H L ps)(hp:H p=none):HL (upd H p o) L ps:=h.same ((Same.refl H).new hp)
theorem HL.put(h:HL H L ps)(hM:H M=some (.lst ys))(hne:L≠M):HL (upd H M (.lst zs)) L ps:=by
 obtain⟨Ts,h1,h2⟩:=h.ex;exact⟨Ts,by rw[q0l hne];exact h1,h2.keep ((TKeep.refl H).lst hM)⟩
theorem HL.sq(h:HL H L ps):∃xs,SqL K H L xs:=let ⟨Ts,h1,_⟩:=h.ex;⟨_,SqL.of h1⟩
theorem q5v(Us:List Addr)(T:Addr):atI ((Us++[T]).map V.ref) (-1)=some (.ref T):=by
 unfold atI ixN;rw[if_neg (by decide),if_pos (by simp;lia)];have e:(-1+(((Us++[T]).map V.ref).length:Int)).toNat=Us.length:=by simp;lia
 rw[e];simp
theorem z5q(Us:List Addr)(T:Addr):((Us++[T]).map V.ref)[((Us++[T]).map V.ref).length-1]?=some (.ref T):=by simp
theorem z7r(Us:List Addr)(T:Addr):((Us++[T]).map V.ref).dropLast=Us.map V.ref:=by simp
theorem z7s(ps:List Pt):ps=[]\/∃qs p,ps=qs++[p]:=by
 cases h:ps.reverse with
 |nil=>simp_all
 |cons p r=>simp_all
theorem HL.snoc(h1:H L=some (.lst (Ts.map V.ref)))(h2:Tups H Ts ps)(hT:H T=none):
  HL (upd (upd H T (.tup p.vs)) L (.lst (Ts.map V.ref++[.ref T]))) L (ps++[p]):=by
 have hTL:T≠L:=fun z=>by subst z;rw[hT] at h1;cases h1
 have h1':(upd H T (.tup p.vs)) L=some (.lst (Ts.map V.ref)):=by rw[q0l (Cu hTL)];exact h1
 refine⟨Ts++[T],by rw[Bi];exact q0d,Tups.app ((h2.keep ((TKeep.refl H).new hT)).keep ((TKeep.refl _).lst h1')) (.cons ?_ .nil)⟩;rw[q0l hTL];exact q0d
theorem z2t(h:∀c∈l,c<128):Bp (mk l)=true:=by
 unfold Bp;rw[Array.all_eq_true'];intro c hc;have:=h c (by simpa[mk] using hc);simp;lia
theorem Pt.lay{p:Pt}(h:p.ok):p.dat.canLay0=true:=by
 have hs:∀c∈p.fl,c<128:=by
  cases p with
  |gp c =>
   intro d hd;have e:d=c:=by simpa[Pt.fl] using hd
   rw[e];exact z7q c h
  |tx l=>exact fun c hc=>z2p c (h.2 c hc)
 have hw:Bp p.word=true:=by
  cases p with
  |gp c=>show Bp (Ab "gap")=true;decide +kernel
  |tx l=>show Bp (Ab "text")=true;decide +kernel
 simp only[Pt.dat,Cq,Bj,hw,z2t hs,Dv]
theorem Pt.dt{p:Pt}(h:H T=some (.tup p.vs)):Dt K H (.ref T) p.dat :=
 .tup (SqT.of h) (.cons (.str _) (.cons (.str _) .nil))
end K
namespace L2
open PySem PySem.Spec PyProof.Rows
section
variable{κ:Type}[DecidableEq κ]
def valV(kvs:List (κ×V))(k:κ):Option V:=(kvs.find? fun kv=>decide (kv.1=k)).map (·.2)
def putK(kvs:List (κ×V))(k:κ)(v:V):List (κ×V) :=
 if (kvs.any fun kv=>decide (kv.1=k))=true then kvs.map (fun kv=>if kv.1=k then(kv.1,v) else kv) else kvs++[(k,v)]
def dropK(kvs:List (κ×V))(k:κ):List (κ×V):=kvs.filter fun kv=>decide (kv.1≠k)
theorem q1v{p:κ×V}(e:p.1=k):valV (p::r) k=some p.2:=by simp[valV,Ga,e]
theorem q1w{p:κ×V}(e:¬p.1=k):valV (p::r) k=valV r k:=by simp[valV,Ga,e]
theorem q5w(k:κ):∀kvs:List (κ×V),(kvs.any fun kv=>decide (kv.1=k))=(valV kvs k).isSome
 |[]=>rfl
 |p::r=>by
  rw[Mx];by_cases e:p.1=k
  ·simp only[q1v e,decide_eq_true e,Bool.true_or,Option.isSome_some]
  ·rw[q1w e,decide_eq_false e,Bool.false_or];exact q5w k r
theorem z2u(k j:κ)(y:V):∀kvs:List (κ×V),valV (kvs.map fun kv=>if kv.1=k then(kv.1,y) else kv) j=(valV kvs j).map fun x=>if j=k then y else x
 |[]=>rfl
 |p::r=>by
  have ih:=z2u k j y r;rw[Cj];by_cases h:p.1=k
  ·rw[if_pos h];by_cases e:p.1=j
   ·rw[q1v (p:=(p.1,y)) e,q1v e,Lj,if_pos (e.symm.trans h)]
   ·rw[q1w (p:=(p.1,y)) e,q1w e,ih]
  ·rw[if_neg h];by_cases e:p.1=j
   ·rw[q1v e,q1v e,Lj,if_neg (fun z=>h (e.trans z))]
   ·rw[q1w e,q1w e,ih]
theorem z0c(k j:κ)(y:V):∀kvs:List (κ×V),valV kvs k=none->valV (kvs++[(k,y)]) j=if j=k then some y else valV kvs j
 |[],_=>by
  by_cases e:k=j
  ·rw[if_pos e.symm];exact q1v (p:=(k,y)) e
  ·rw[if_neg (fun z=>e z.symm)];exact q1w (p:=(k,y)) e
 |p::r,hn=>by
  rw[Ov];have hk:¬p.1=k:=fun z=>by rw[q1v z] at hn;cases hn
  rw[q1w hk] at hn;have ih:=z0c k j y r hn;by_cases e:p.1=j
  ·rw[q1v e,q1v e,if_neg (fun z=>hk (e.trans z))]
  ·rw[q1w e,q1w e,ih]
theorem z7t(kvs:List (κ×V))(k j:κ)(y:V):valV (putK kvs k y) j=if j=k then some y else valV kvs j:=by
 unfold putK;by_cases a:(kvs.any fun kv=>decide (kv.1=k))=true
 ·rw[if_pos a,z2u];rw[q5w] at a;by_cases e:j=k
  ·obtain⟨x,hx⟩:=Ei.mp a;rw[if_pos e,e,hx,Lj,if_pos rfl]
  ·simp_all
 ·rw[if_neg a];refine z0c k j y kvs ?_;rw[q5w] at a;cases q:valV kvs k with
  |none=>rfl
  |some x=>grind
theorem q2w(kvs:List (κ×V))(k:κ)(v:V):(putK kvs k v).length<=kvs.length+1:=by
 unfold putK;split
 ·grind
 ·grind
theorem RelO.isSome_eq(r:RelO o u):o.isSome=u.isSome:=by
 cases o with
 |none=>cases u with
  |none=>rfl
  |some _=>exact(show False from r).elim
 |some _=>cases u with
  |none=>exact(show False from r).elim
  |some _=>rfl
theorem RelO.getD(r:RelO o u)(rd:RelV d d'):RelV (o.getD d) (u.getD d'):=by
 cases o with
 |none=>cases u with
  |none=>exact rd
  |some _=>exact(show False from r).elim
 |some _=>cases u with
  |none=>exact(show False from r).elim
  |some _=>exact r
theorem KV.val(r:KV kvs vs)(k:κ):RelO (valV kvs k) (valueAt vs k):=by
 induction r with
 |nil=>exact True.intro
 | @cons p q ps qs h t ih =>
  obtain⟨h1,h2⟩:=h;by_cases e:p.1=k
  ·have e':q.1=k:=h1.symm.trans e;have b:valueAt (q::qs) k=some q.2:=by simp[valueAt,Ga,e']
   rw[q1v e,b];exact h2
  ·have e':¬q.1=k:=fun z=>e (h1.trans z);have b:valueAt (q::qs) k=valueAt qs k:=by simp[valueAt,Ga,e']
   rw[q1w e,b];exact ih
theorem KV.any(r:KV kvs vs)(k:κ):(kvs.any fun kv=>decide (kv.1=k))=vs.any fun kv=>decide (kv.1=k):=by
 induction r with
 |nil=>rfl
 |cons h t ih=>simp_all
theorem KV.repl(r:KV kvs vs)(k:κ)(ry:RelV y u):
  KV (kvs.map fun kv=>if kv.1=k then(kv.1,y) else kv) (vs.map fun kv=>if kv.1=k then(kv.1,u) else kv):=by
 induction r with
 |nil=>exact .nil
 | @cons p q ps qs h t ih =>
  refine .cons ?_ ih;by_cases e:p.1=k
  ·simp_all
  ·simp_all
theorem KV.put(r:KV kvs vs)(k:κ)(ry:RelV y u):KV (putK kvs k y) (stored vs k u):=by
 unfold putK stored;rw[r.any k];by_cases e:(vs.any fun kv=>decide (kv.1=k))=true
 ·rw[if_pos e,if_pos e];exact r.repl k ry
 ·rw[if_neg e,if_neg e];exact Fg.snoc r ⟨rfl,ry⟩
theorem KV.drop(r:KV kvs vs)(k:κ):KV (dropK kvs k) (without vs k):=by
 unfold dropK without;induction r with
 |nil=>exact .nil
 | @cons p q ps qs h t ih =>
  obtain⟨h1,h2⟩:=h;rw[Ow,Ow];by_cases e:p.1=k
  ·simp_all
  ·have e':¬q.1=k:=fun z=>e (h1.trans z);have a:decide (p.1≠k)=true:=by simp[e]
   have b:decide (q.1≠k)=true:=by simp[e']
   rw[if_pos a,if_pos b];exact .cons ⟨h1,h2⟩ ih
theorem KV.keys{kvs:List (κ×V)}(r:KV kvs vs):kvs.map (·.1)=vs.map (·.1):=by
 induction r with
 |nil=>rfl
 |cons h t ih=>grind
theorem KV.length{kvs:List (κ×V)}(r:KV kvs vs):kvs.length=vs.length:=Fw r
end
theorem z1m(r:RelV (kV k) u):(mixKind P w).is k u=true:=by
 cases k with
 |inl i=>obtain⟨t,e⟩:=(show ∃t,u=Value.int i t from r);subst e;exact z0z P w i t
 |inr x=>obtain⟨t,e⟩:=(show ∃t,u=Value.str x t from r);subst e;exact z1a P w x t
theorem z0d{P:Program}{w:World}:∀{ks:List Key} {us:List Value},Vals (ks.map kV) us->ItemsAre (mixKind P w) ks us
 |[],_,r=>by rw[List.map_nil] at r;cases r;exact .nil
 |k::ks,_,r=>by
  rw[Cj] at r;cases r with
  |cons h t=>exact .cons (z1m h) (z0d t)
abbrev KT(H:Hp):List (List Key×V)->List (List Key×Addr×Value)->Prop:=Fg fun p q=>p.1=q.1/\H q.2.1=some (.tup (p.1.map kV))/\RelV p.2 q.2.2
theorem KT.val(r:KT H kvs xs)(k:List Key):RelO (valV kvs k) ((atKey xs k).map (·.2)):=by
 induction r with
 |nil=>exact True.intro
 | @cons p q ps qs h t ih =>
  obtain⟨h1,_,h2⟩:=h;by_cases e:p.1=k
  ·have e':q.1=k:=h1.symm.trans e;have b:atKey (q::qs) k=some q.2:=by simp[atKey,Ga,e']
   rw[q1v e,b];exact h2
  ·have e':¬q.1=k:=fun z=>e (h1.trans z);have b:atKey (q::qs) k=atKey qs k:=by simp[atKey,Ga,e']
   rw[q1w e,b];exact ih
theorem KT.repl(r:KT H kvs xs)(k:List Key)(ry:RelV y u):
  KT H (kvs.map fun kv=>if kv.1=k then(kv.1,y) else kv) (xs.map (putAt k u)):=by
 induction r with
 |nil=>exact .nil
 | @cons p q ps qs h t ih =>
  refine .cons ?_ ih;unfold putAt;by_cases e:p.1=k
  ·simp_all
  ·simp_all
theorem KT.put(r:KT H kvs xs)(k:List Key)(hb:H b=some (.tup (k.map kV)))(ry:RelV y u):
  KT H (putK kvs k y) (storedH xs k b u):=by
 have e:(kvs.any fun kv=>decide (kv.1=k))=(atKey xs k).isSome:=by
  rw[q5w,(r.val k).isSome_eq,Kc]
 unfold putK storedH;rw[e];by_cases q:(atKey xs k).isSome=true
 ·rw[if_pos q,if_pos q];exact r.repl k ry
 ·rw[if_neg q,if_neg q];exact Fg.snoc r ⟨rfl,hb,ry⟩
theorem KT.keeps(r:KT H kvs xs)(ht:∀b ys,H b=some (.tup ys)->H' b=some (.tup ys)):KT H' kvs xs :=
 Fg.mapP r fun _ _ z=>⟨z.1,ht _ _ z.2.1,z.2.2⟩
section
variable{P:Program}{w:World}{H:Hp}{h:Heap}{a:Addr}
theorem rd_of(ok:HOk P w H h)(e:Rd H a u):ObjOk P w H h a u:=e.ok ok
theorem z5r(ok:HOk P w H h)(e:Rd H a (.dK kvs)):kvs.length<=sizeLine/\(a==Er)=false/\∃vs,KV kvs vs/\h.DictOf (mixKind P w) a vs :=
 show ObjOk P w H h a (.dK kvs) from rd_of ok e
theorem dk_of(ok:HOk P w H h)(e:H a=some (.dK kvs)):kvs.length<=sizeLine/\(a==Er)=false/\∃vs,KV kvs vs/\h.DictOf (mixKind P w) a vs:=z5r ok (.inl e)
theorem z0e(ok:HOk P w H h)(e:H a=some (.tup (ks.map kV))):(Jo (mixKind P w)).is h ks a:=by
 obtain⟨_,its,r,o,h1,h2,n,h3⟩:=(show ObjOk P w H h a (.tup (ks.map kV)) from ok a _ e)
 exact⟨o,its.toArray,n,h1,h2,h3,by simpa using z0d r⟩
theorem z5s(ok:HOk P w H h)(e:Rd H a (.dT kvs)):kvs.length<=sizeLine/\(a==Er)=false /\
  ∃xs,KT H kvs xs/\h.DictOfH (Jo (mixKind P w)) a xs:=by
 obtain⟨z,y,xs,r,o,es,ep,h1,h2,h3,h4,h5⟩:=(show ObjOk P w H h a (.dT kvs) from rd_of ok e)
 refine⟨z,y,xs,r,o,es,ep,h1,h2,h3,h4,fun x hx=>?_,h5⟩;have all:∀{l:List (List Key×V)} {m:List (List Key×Addr×Value)},KT H l m->∀x∈m,(Jo (mixKind P w)).is h x.1 x.2.1:=by
  intro l m q;induction q with
  |nil=>grind
  | @cons p q ps qs hq t ih =>
   intro x hx;rcases Bd.mp hx with e|hx
   ·subst e;exact z0e ok (by rw[<- hq.1];exact hq.2.1)
   ·exact ih x hx
 exact all r x hx
theorem dt_of(ok:HOk P w H h)(e:H a=some (.dT kvs)):kvs.length<=sizeLine/\(a==Er)=false /\
  ∃xs,KT H kvs xs/\h.DictOfH (Jo (mixKind P w)) a xs:=z5s ok (.inl e)
end
def DGet(H:Hp)(a:Addr)(y:V)(r:Option V):Prop :=
 (∃kvs k,Rd H a (.dK kvs)/\y=kV k/\r=valV kvs k)\/∃kvs k b,Rd H a (.dT kvs)/\y=.ref b/\H b=some (.tup (k.map kV))/\r=valV kvs k
def DPut(H:Hp)(a:Addr)(y v:V)(H':Hp):Prop :=
 (∃kvs k,H a=some (.dK kvs)/\y=kV k/\kvs.length<sizeLine/\H'=upd H a (.dK (putK kvs k v))) \/
 ∃kvs k b,H a=some (.dT kvs)/\y=.ref b/\H b=some (.tup (k.map kV))/\kvs.length<sizeLine/\H'=upd H a (.dT (putK kvs k v))
theorem DGet.k{k:Key}(e:H a=some (.dK kvs)):DGet H a (kV k) (valV kvs k):=.inl ⟨kvs,k,.inl e,rfl,rfl⟩
theorem DGet.t{k:List Key}(e:H a=some (.dT kvs))(eb:H b=some (.tup (k.map kV))):DGet H a (.ref b) (valV kvs k):=.inr ⟨kvs,k,b,.inl e,rfl,eb,rfl⟩
theorem DPut.k{k:Key}(e:H a=some (.dK kvs))(hl:kvs.length<sizeLine):DPut H a (kV k) v (upd H a (.dK (putK kvs k v))):=.inl ⟨kvs,k,e,rfl,hl,rfl⟩
theorem DPut.t{k:List Key}(e:H a=some (.dT kvs))(eb:H b=some (.tup (k.map kV)))(hl:kvs.length<sizeLine):
  DPut H a (.ref b) v (upd H a (.dT (putK kvs k v))):=.inr ⟨kvs,k,b,e,rfl,eb,hl,rfl⟩
section
variable{X:Cx}{pins:List (Addr×Obj)}{σ:St}{H:Hp}{s:Ag}{a:Addr}{y v:V}{u r:Value}{o:Option V}{A:Around}{E:Value->Ag->Prop}
theorem Inv.big(I:Inv X pins σ H s):Er<s.heap.objs.size:=by
 have h:=(I.mod.glob.keeps I.bk).lt;exact Nat.lt_trans (by decide) h
theorem z5t(hu:A.units+1<cLine)(I:Inv X pins σ H s)(g:DGet H a y (some v))(ry:RelV y u)(h:∀w' s',Inv X pins σ H s'->RelV v w'->Q w' s'):
  wpAny (model X.prog X.w) A (getItem (.ref a) u) Q E s:=by
 rcases g with⟨kvs,k,e,ey,l⟩|⟨kvs,k,b,e,ey,eb,l⟩
 ·subst ey;obtain⟨z,hd,vs,rel,dd⟩:=z5r I.hok e;obtain⟨w',hw,rw'⟩:=RelO.some_of (by rw[l];exact rel.val k);exact wpAny_getItem_of (z1m ry) dd.mapOf hw (h w' _ (I.tok _) rw')
 ·subst ey;cases(show u=Value.ref b from ry);obtain⟨z,hd,xs,rel,dd⟩:=z5s I.hok e;obtain⟨w',hw,rw'⟩:=RelO.some_of (by rw[l];exact rel.val k);obtain⟨p,hp,hp2⟩:=Hz.mp hw;refine wpAny_getItem_heap (Hk hu) (z0e I.hok eb) dd hp ?_;rw[hp2];exact h w' _ (I.tok _) rw'
theorem d_in(hu:A.units+1<cLine)(I:Inv X pins σ H s)(g:DGet H a y o)(ry:RelV y u)(h:∀s',Inv X pins σ H s'->Q (.bool o.isSome) s'):
  wpAny (model X.prog X.w) A (Cd .In u (.ref a)) Q E s:=by
 rcases g with⟨kvs,k,e,ey,l⟩|⟨kvs,k,b,e,ey,eb,l⟩
 ·subst ey;obtain⟨z,hd,vs,rel,dd⟩:=z5r I.hok e;refine wpAny_in_of (z1m ry) hd dd.mapOf ?_;rw[<- (rel.val k).isSome_eq,<- l];exact h _ (I.tok _)
 ·subst ey;cases(show u=Value.ref b from ry);obtain⟨z,hd,xs,rel,dd⟩:=z5s I.hok e;refine wpAny_in_heap (Hk hu) (z0e I.hok eb) hd dd ?_;have q:=(rel.val k).isSome_eq;rw[Kc] at q;rw[<- q,<- l];exact h _ (I.tok _)
theorem x0i(hu:A.units+1<cLine)(I:Inv X pins σ H s)(g:DGet H a y o)(ry:RelV y u)(h:∀s',Inv X pins σ H s'->Q (.bool (!o.isSome)) s'):
  wpAny (model X.prog X.w) A (Cd .NotIn u (.ref a)) Q E s:=by
 rcases g with⟨kvs,k,e,ey,l⟩|⟨kvs,k,b,e,ey,eb,l⟩
 ·subst ey;obtain⟨z,hd,vs,rel,dd⟩:=z5r I.hok e;refine wpAny_notIn_of (z1m ry) hd dd.mapOf ?_;rw[<- (rel.val k).isSome_eq,<- l];exact h _ (I.tok _)
 ·subst ey;cases(show u=Value.ref b from ry);obtain⟨z,hd,xs,rel,dd⟩:=z5s I.hok e;refine wpAny_notIn_heap (Hk hu) (z0e I.hok eb) hd dd ?_;have q:=(rel.val k).isSome_eq;rw[Kc] at q;rw[<- q,<- l];exact h _ (I.tok _)
theorem z1n(I:Inv X pins σ H s)(mu:Mut (H a))(hs:Gh a s.heap h')(he:∃q,h'.get? a=some q)(new:ObjOk X.prog X.w (upd H a ob) h' a ob):
  Inv X pins σ (upd H a ob) { s with heap:=h',toks:=t' } :=
 I.write mu (.inl rfl) (fun b q hb z=>(hs.2 b hb).trans z) he new
theorem z9a(z:kvs.length<=sizeLine)(hd:(a==Er)=false)(rel:KV kvs vs)(dd:h'.DictOf (mixKind P w) a vs):
  ObjOk P w H' h' a (.dK kvs):=⟨z,hd,vs,rel,dd⟩
theorem z5u(hu:A.units+1<cLine)(I:Inv X pins σ H s)(g:DPut H a y v H')(ry:RelV y u)(rv:RelV v r)(h:∀s',Inv X pins σ H' s'->Q () s'):
  wpAny (model X.prog X.w) A (setItem (.ref a) u r) Q E s:=by
 rcases g with⟨kvs,k,e,ey,l,eH⟩|⟨kvs,k,b,e,ey,eb,l,eH⟩
 ·subst ey eH;obtain⟨z,hd,vs,rel,dd⟩:=dk_of I.hok e;have hz:vs.length<=sizeLine:=by rw[<- rel.length];exact z
  have hl:(putK kvs k v).length<=sizeLine:=by have:=q2w kvs k v;lia
  refine wpAny_setItem_pairs (z1m ry) dd fun h' dd' hs=>h _ ?_;have he:∃q,h'.get? a=some q:=let ⟨q,_,_,hq,_⟩:=dd';⟨q,hq⟩;exact z1n I (by rw[e];exact True.intro) hs he (z9a hl hd (rel.put k rv) dd')
 ·subst ey eH;cases(show u=Value.ref b from ry);obtain⟨z,hd,xs,rel,dd⟩:=dt_of I.hok e;have hz:xs.length<=sizeLine:=by rw[<- Fw rel];exact z
  have hl:(putK kvs k v).length<=sizeLine:=by have:=q2w kvs k v;lia
  refine wpAny_setItem_heap (Hk hu) (z0e I.hok eb) dd fun h' dd' hs=>h _ ?_;obtain⟨q,es,ep,hq,h2,h3,h4,_,h5⟩:=dd';refine z1n I (by rw[e];exact True.intro) hs ⟨q,hq⟩ ⟨hl,hd,_,(rel.put k eb rv).keeps fun c ys ec=>?_,q,es,ep,hq,h2,h3,h4,h5⟩;rw[q0l (z4l ec e (fun z=>nomatch z))];exact ec
end
def NoSl(i:Expr):Prop:=∀ov iv,Lo i false ov iv=operate [ov,iv] (getItem ov iv)
theorem z5v{id:String}(hl:Kf (.type T) "__getitem__" = pure (some (.builtin id)))(hs:NoSl slice)(h:wpAny (model prog w) A (eval value env) (fun o s₁=>wpAny (model prog w) A (eval slice env) (fun i s₂=>s₂.TypeIs o T/\wpAny (model prog w) A (getItem o i) Q E s₂) E s₁) E s):
  wpAny (model prog w) A (eval (.Subscript value slice pos) env) Q E s:=by
 refine Pd (Cc h (fun o s₁ h₁=>Cc h₁ (fun i s₂ h₂=>?_) fun _ _ x=>x) fun _ _ x=>x);obtain⟨hT,h₂⟩:=h₂;refine Ac ?_;refine Ac (wpAny_specialOf hT hl ?_);have fin:wpAny (model prog w) A (Lo slice false o i) (fun r s₃=>wpAny (model prog w) A (letTemporaryGo value o r >>= fun _=>pure r) Q E s₃) E s₂:=by
  rw[hs o i];exact wpAny_operating (Cc h₂ (fun r s₃ h₃=>Ac (wpAny_letTemporaryGo (Aj h₃))) fun _ _ x=>x)
 first
  |exact Aj (Ac fin)
  |exact Ac (Aj (Ac fin))
  |exact Ac fin
theorem z1o{σ:St}(I:Inv X pins σ H s)(g:DGet H a y o):s.TypeIs (.ref a) "dict" := by
 rcases g with⟨kvs,k,e,_,_⟩|⟨kvs,k,b,e,_,_,_⟩
 ·obtain⟨_,_,vs,_,dd⟩:=z5r I.hok e;exact dd.typeIs
 ·obtain⟨_,_,xs,_,dd⟩:=z5s I.hok e;exact dd.typeIs
def tDGet(td ty:TE):TE:=fun σ H Q=>td σ H fun x H1=>ty σ H1 fun y H2=>∃a v,x=.ref a/\DGet H2 a y (some v)/\Q v H2
def tDIn(ty td:TE):TE:=fun σ H Q=>ty σ H fun y H1=>td σ H1 fun x H2=>∃a o,x=.ref a/\DGet H2 a y o/\Q (.bl o.isSome) H2
def tDNotIn(ty td:TE):TE:=fun σ H Q=>ty σ H fun y H1=>td σ H1 fun x H2=>∃a o,x=.ref a/\DGet H2 a y o/\Q (.bl (!o.isSome)) H2
def sDPut(td ty tv:TE):TS:=fun D σ H=>tv σ H fun v H1=>td σ H1 fun x H2=>ty σ H2 fun y H3=>∃a H4,x=.ref a/\DPut H3 a y v H4/\D.nx σ H4
section
variable{X:Cx}{o i e value:Expr}{pos pos' tpos:Pos}{td ty tv:TE}
theorem x0j(hu:X.A.units+1<cLine)(ho:PE X o td)(hi:PE X i ty)(hs:NoSl i):PE X (.Subscript o i pos) (tDGet td ty):=by
 intro pins s σ H Q I h;refine z5v Ki.lookup hs (thn (ho pins s σ H _ I h) fun u s1 ⟨x,H1,I1,rx,q1⟩=>thn (hi pins s1 σ H1 _ I1 q1) fun iv s2 ⟨y,H2,I2,ry,a,v,ex,g,q2⟩=>?_);subst ex;obtain rfl:u=Value.ref a:=rx;exact⟨z1o I2 g,z5t hu I2 g ry fun w' s3 I3 rw'=>⟨v,H2,I3,rw',q2⟩⟩
theorem pc_din(hu:X.A.units+1<cLine)(hi:PE X i ty)(ho:PE X o td):PC X .In i o (tDIn ty td):=by
 intro pins s σ H Q I h;refine thn (hi pins s σ H _ I h) fun iv s1 ⟨y,H1,I1,ry,q1⟩=>thn (ho pins s1 σ H1 _ I1 q1) fun u s2 ⟨x,H2,I2,rx,a,ov,ex,g,q2⟩=>?_;subst ex;obtain rfl:u=Value.ref a:=rx;exact d_in hu I2 g ry fun s3 I3=>⟨.bl ov.isSome,H2,I3,rfl,q2⟩
theorem z5w(hu:X.A.units+1<cLine)(hi:PE X i ty)(ho:PE X o td):PC X .NotIn i o (tDNotIn ty td):=by
 intro pins s σ H Q I h;refine thn (hi pins s σ H _ I h) fun iv s1 ⟨y,H1,I1,ry,q1⟩=>thn (ho pins s1 σ H1 _ I1 q1) fun u s2 ⟨x,H2,I2,rx,a,ov,ex,g,q2⟩=>?_;subst ex;obtain rfl:u=Value.ref a:=rx;exact x0i hu I2 g ry fun s3 I3=>⟨.bl (!ov.isSome),H2,I3,rfl,q2⟩
theorem x0k(hu:X.A.units+1<cLine)(ho:PE X o td)(hi:PE X i ty)(hv:PE X value tv)(hs:Le value (some (.Subscript o i pos')) pos.line X.env=pure false):
  PS X (.Assign [.Subscript o i pos'] value pos) (sDPut td ty tv):=by
 intro pins s σ H D I h;refine wpAny_Assign_Subscript (thn (hv pins s σ H _ I h) fun r s1 ⟨v,H1,I1,rv,q1⟩=>thn (ho pins s1 σ H1 _ I1 q1) fun u s2 ⟨x,H2,I2,rx,q2⟩=>thn (hi pins s2 σ H2 _ I2 q2) fun iv s3 ⟨y,H3,I3,ry,a,H4,ex,g,q3⟩=>?_) hs;subst ex;obtain rfl:u=Value.ref a:=rx;exact z5u hu I3 g ry rv fun s4 I4=>⟨σ,H4,I4,q3⟩
end
theorem z2v(h:Heap)(hb:Er<h.objs.size):ObjOk P w H (h.push { cls:=.type "dict",data:=.dict #[] }) h.objs.size (.dK []) :=
 ⟨Bg _,beq_eq_false_iff_ne.mpr (Cu (By hb)),[],.nil,Heap.DictOf.new h⟩
def tDNewK:TE:=fun _ H Q=>∀p,H p=none->Q (.ref p) (upd H p (.dK []))
section
variable{X:Cx}{pos:Pos}
theorem z7u:PE X (.Dict [] [] pos) tDNewK:=fun pins s σ H Q I h =>
 wpAny_Dict_empty ⟨.ref s.heap.objs.size,_,I.laid (t':=s.toks) (fun _ _ q=>Ad _ q) (Ah _) (z2v s.heap I.big),rfl,h _ (I.hok.fresh (Ah _))⟩
end
def tPairs:List (TE×TE)->St->Hp->(List (V×V)->Hp->Prop)->Prop
 |[],_,H,Q=>Q [] H
 |(tk,tv)::r,σ,H,Q=>tk σ H fun x H1=>tv σ H1 fun y H2=>tPairs r σ H2 fun ps H3=>Q ((x,y)::ps) H3
abbrev VV:List (V×V)->List (Value×Value)->Prop:=Fg fun p q=>RelV p.1 q.1/\RelV p.2 q.2
def PPs(X:Cx)(pos:Pos)(keys:List (Option Expr))(values:List Expr)(trs:List (TE×TE)):Prop :=
 ∀(pins:List (Addr×Obj)) (s:Ag) (σ:St) (H:Hp) (Q:List (V×V)->Hp->Prop),Inv X pins σ H s->tPairs trs σ H Q ->
  wpAny (model X.prog X.w) X.A (evalPairs (pairTrees keys values X.env pos)) (fun vs s'=>∃ps H',Inv X pins σ H' s'/\VV ps vs/\Q ps H') X.xe s
theorem x0l:PPs X pos [] [] []:=fun pins s σ H Q I h=>pairTrees_nil_walk ⟨[],H,I,.nil,h⟩
theorem z7v{X:Cx}{pos:Pos}{k v:Expr}{ks:List (Option Expr)}{vs:List Expr}{tk tv:TE}{trs:List (TE×TE)}(hk:PE X k tk)(hv:PE X v tv)(hr:PPs X pos ks vs trs):
  PPs X pos (some k::ks) (v::vs) ((tk,tv)::trs):=fun pins s σ H Q I h =>
 pairTrees_cons_walk (thn (hk pins s σ H _ I h) fun u s1 ⟨x,H1,I1,rx,q1⟩=>thn (hv pins s1 σ H1 _ I1 q1) fun w2 s2 ⟨y,H2,I2,ry,q2⟩ =>
  thn (hr pins s2 σ H2 _ I2 q2) fun ws s3 ⟨ps,H3,I3,rel,q3⟩=>⟨(x,y)::ps,H3,I3,.cons ⟨rx,ry⟩ rel,q3⟩)
def mergeK(kvs more:List (Key×V)):List (Key×V):=more.foldl (fun acc kv=>putK acc kv.1 kv.2) kvs
theorem KV.merge:∀{more:List (Key×V)} {rs:List (Key×Value)} {kvs:List (Key×V)} {vs:List (Key×Value)},KV more rs->KV kvs vs->KV (mergeK kvs more) (merged vs rs):=by
 intro more rs kvs vs r;induction r generalizing kvs vs with
 |nil=>intro q;exact q
 | @cons p q ps qs h t ih =>
  intro r0;have e:KV (putK kvs p.1 p.2) (stored vs q.1 q.2):=by
   have:=r0.put p.1 h.2;rw[<- h.1];exact this
  exact ih e
theorem q4o:∀(more kvs:List (Key×V)),(mergeK kvs more).length<=kvs.length+more.length
 |[],kvs=>by show kvs.length<=kvs.length+0;lia
 |p::r,kvs=>by
  have h1:=q4o r (putK kvs p.1 p.2);have h2:=q2w kvs p.1 p.2;show(mergeK (putK kvs p.1 p.2) r).length<=_;rw[Be];lia
theorem q7n:∀{kvs:List (Key×V)} {ws:List (Value×Value)},VV (kvs.map fun kv=>(kV kv.1,kv.2)) ws->∃rs,Carries (mixKind P w) ws rs/\KV kvs rs
 |[],_,r=>by rw[List.map_nil] at r;cases r;exact⟨[],True.intro,.nil⟩
 |p::kvs,_,r=>by
  rw[Cj] at r;cases r with
  | @cons a b as bs h t =>
   obtain⟨rs,c,q⟩:=q7n (P:=P) (w:=w) t;obtain⟨b1,b2⟩:=b;exact⟨(p.1,b2)::rs,⟨z1m h.1,rfl,c⟩,.cons ⟨rfl,h.2⟩ q⟩
def tDisp(trs:List (TE×TE)):TE:=fun σ H Q=>∀p,H p=none->tPairs trs σ (upd H p (.dK [])) fun ps H2=>H2 p=some (.dK [])/\∃kvs:List (Key×V),ps=kvs.map (fun kv=>(kV kv.1,kv.2))/\kvs.length<=15/\Q (.ref p) (upd H2 p (.dK (mergeK [] kvs)))
theorem x0m{X:Cx}{pos:Pos}{keys:List (Option Expr)}{values:List Expr}{trs:List (TE×TE)}(h:PPs X pos keys values trs)(hall:keys.all (·.isSome)=true)(hl:keys.length=values.length)(h0:keys≠[])(h15:keys.length<=15):PE X (.Dict keys values pos) (tDisp trs):=by
 intro pins s σ H Q I q;have hn:=I.hok.fresh (Ah s.heap.objs.size);have I1:=I.laid (h':=s.heap.push { cls:=.type "dict",data:=.dict #[] }) (t':=s.toks) (fun _ _ q=>Ad _ q) (Ah _) (z2v s.heap I.big);refine wpAny_Dict_walk (knd:=mixKind X.prog X.w) hall hl h0 h15 (thn (h pins _ σ _ _ I1 (q _ hn)) fun ws s2 ⟨ps,H2,I2,rel,e,kvs,ep,lk,q2⟩=>?_);subst ep;obtain⟨rs,c,rk⟩:=q7n rel;obtain⟨z,hd,vs0,r0,dd⟩:=dk_of I2.hok e;cases r0;refine⟨rs,c,dd,fun h' dd' hs=>⟨.ref s.heap.objs.size,_,?_,rfl,q2⟩⟩;have hz:(mergeK [] kvs).length<=sizeLine:=by
  have h1:=q4o kvs [];rw[Iw] at h1;rw[Es];lia
 have he:∃q,h'.get? s.heap.objs.size=some q:=let ⟨q,_,_,hq,_⟩:=dd';⟨q,hq⟩;exact z1n I2 (by rw[e];exact True.intro) hs he (z9a hz hd (rk.merge .nil) dd')
end L2
namespace K
open PySem L2 TX
def FIs:Str:=Ab "0123456789"
def LEs:Str:=Ab "abcdefghijklmnopqrstuvwxyzABCDEFGHIJKLMNOPQRSTUVWXYZ"
abbrev FI:List Nat:=tl FIs
abbrev LE:List Nat:=tl LEs
def allOf(t s:List Nat):Bool:=decide (t≠[])&&t.all fun c=>decide (c∈s)
def gapTakes(c:Nat)(t:List Nat):Bool:=if c=63 then decide (t.length=1) else if c=35 then allOf t FI else if c=64 then allOf t LE else true
def Pt.takes:Pt->List Nat->Bool
 |.tx l,t=>decide (t=l)
 |.gp c,t=>gapTakes c t
def cut(n:List Nat)(b e:Nat):List Nat:=(n.drop b).take (e-b)
def farTo(p:Pt)(n:List Nat)(L:Nat->Bool)(b k:Nat):Option Nat:=((List.range' b k).filter fun e=>L e&&p.takes (cut n b e)).getLast?
def far(p:Pt)(n:List Nat)(L:Nat->Bool)(b:Nat):Option Nat:=if b<=n.length then farTo p n L b (n.length+1-b) else none
def fits(n:List Nat):List Pt->Nat->Bool
 |[],b=>decide (b=n.length)
 |p::ps,b=>(far p n (fits n ps) b).isSome
def rd(n:List Nat):List Pt->Nat->List (List Nat)
 |[],_=>[]
 |p::ps,b=>(if p.isG then[cut n b ((far p n (fits n ps) b).getD 0)] else[])++rd n ps ((far p n (fits n ps) b).getD 0)
theorem q7o(p:Pt)(n:List Nat)(L:Nat->Bool)(b k:Nat):farTo p n L b (k+1)=if (L (b+k)&&p.takes (cut n b (b+k)))=true then some (b+k) else farTo p n L b k:=by
 unfold farTo;rw[List.range'_concat,Fz];by_cases h:(L (b+k)&&p.takes (cut n b (b+k)))=true
 ·simp_all
 ·simp_all
theorem z3w(p:Pt)(n:List Nat)(L:Nat->Bool)(b:Nat):farTo p n L b 0=none:=rfl
theorem q7p:∀{k:Nat} {p:Pt} {n:List Nat} {L:Nat->Bool} {b e:Nat},farTo p n L b k=some e->b<=e/\e<b+k/\L e=true/\p.takes (cut n b e)=true/\∀e',e<e'->e'<b+k->(L e'&&p.takes (cut n b e'))=false
 |0,p,n,L,b,e,h=>by rw[z3w] at h;cases h
 |k+1,p,n,L,b,e,h=>by
  rw[q7o] at h;by_cases c:(L (b+k)&&p.takes (cut n b (b+k)))=true
  ·rw[if_pos c] at h;cases h;rw[Gq] at c;exact⟨by lia,by lia,c.1,c.2,fun e' h1 h2=>absurd h2 (by lia)⟩
  ·rw[if_neg c] at h;obtain⟨a1,a2,a3,a4,a5⟩:=q7p h;refine⟨a1,by lia,a3,a4,fun e' h1 h2=>?_⟩;by_cases z:e'=b+k
   ·grind
   ·grind
theorem z2w(h:far p n L b=some e):b<=e/\e<=n.length/\L e=true/\p.takes (cut n b e)=true/\∀e',e<e'->e'<=n.length->(L e'&&p.takes (cut n b e'))=false:=by
 unfold far at h;by_cases hb:b<=n.length
 ·rw[if_pos hb] at h;obtain⟨a1,a2,a3,a4,a5⟩:=q7p h;exact⟨a1,by lia,a3,a4,fun e' h1 h2=>a5 e' h1 (by lia)⟩
 ·grind
def gsOf:List Pt->List Nat
 |[]=>[]
 |.gp c::ps=>c::gsOf ps
 |.tx _::ps=>gsOf ps
def glue:List Pt->List (List Nat)->List Nat
 |[],_=>[]
 |.tx l::ps,ts=>l++glue ps ts
 |.gp _::ps,[]=>glue ps []
 |.gp _::ps,t::ts=>t++glue ps ts
theorem z2x(h:b<=e):cut n b e++n.drop e=n.drop b:=by
 unfold cut;have:n.drop e=(n.drop b).drop (e-b):=by simp_all
 rw[this,Mc]
theorem z9b(n:List Nat):∀(ps:List Pt) (b:Nat),fits n ps b=true->(rd n ps b).length=(gsOf ps).length/\(∀(i c:Nat) (t:List Nat),(gsOf ps)[i]?=some c->(rd n ps b)[i]?=some t->gapTakes c t=true)/\glue ps (rd n ps b)=n.drop b/\∀t∈rd n ps b,t.length<=n.length
 |[],b,h=>by
  have hb:b=n.length:=of_decide_eq_true h;refine⟨rfl,fun i c t h=>by simp[gsOf] at h,?_,fun t ht=>by simp[rd] at ht⟩;subst hb;simp[glue]
 |p::ps,b,h=>by
  have h':(far p n (fits n ps) b).isSome=true:=h;cases hf:far p n (fits n ps) b with
  |none=>grind
  |some e =>
   obtain⟨a1,a2,a3,a4,_⟩:=z2w hf;obtain⟨i1,i2,i3,i4⟩:=z9b n ps e a3;cases p with
   |tx l =>
    have e1:rd n (.tx l::ps) b=rd n ps e:=by simp[rd,Pt.isG,hf]
    have e2:=of_decide_eq_true a4;rw[e1];refine⟨i1,i2,?_,i4⟩;show l++glue ps (rd n ps e)=_;rw[i3,<- e2,z2x a1]
   |gp c =>
    have e1:rd n (.gp c::ps) b=cut n b e::rd n ps e:=by simp[rd,Pt.isG,hf]
    rw[e1];refine⟨by simp[gsOf,i1],fun i d t h1 h2=>?_,?_,fun t ht=>?_⟩
    ·cases i with
     |zero =>
      simp[gsOf] at h1 h2;subst h1 h2;exact a4
     |succ i=>exact i2 i d t (by simpa[gsOf] using h1) (by simpa using h2)
    ·show cut n b e++glue ps (rd n ps e)=_;rw[i3,z2x a1]
    ·rcases Bd.mp ht with rfl|ht
     ·unfold cut;rw[Bk,Bx];lia
     ·exact i4 t ht
theorem allOf_iff:allOf t s=true↔t≠[]/\∀c∈t,c∈s:=by
 unfold allOf;simp
theorem q8i:∀(l cur:List Nat),(∀c∈cur,c∈NS)->(∀c∈l,c∈GS\/c∈NS)->∀p∈parse cur l,p.ok
 |[],cur,h1,_=>fun p hp=>by
  have hp':p∈tp cur:=hp;unfold tp at hp';split at hp'
  ·cases hp'
  ·rename_i hne;rw[Au.mp hp'];exact⟨hne,h1⟩
 |c::r,cur,h1,h2=>fun p hp=>by
  have e:parse cur (c::r)=if c∈GS then tp cur++.gp c::parse [] r else parse (cur++[c]) r:=rfl
  rw[e] at hp;have h3:=fun d hd=>h2 d (Av _ hd);split at hp
  ·rename_i hc;rcases Bh.mp hp with z|z
   ·unfold tp at z;split at z
    ·cases z
    ·rename_i hne;rw[Au.mp z];exact⟨hne,h1⟩
   ·rcases Bd.mp z with rfl|z
    ·exact hc
    ·exact q8i r [] (fun _ h=>nomatch h) h3 p z
  ·rename_i hc;refine q8i r (cur++[c]) (fun d hd=>?_) h3 p hp;rcases Bh.mp hd with z|z
   ·exact h1 d z
   ·grind
theorem z9c:∀(l cur:List Nat),(cur≠[]\/l≠[])->parse cur l≠[]
 |[],cur,h=>by
  have h1:cur≠[]:=h.resolve_right (fun z=>z rfl);show tp cur≠[];unfold tp;rw[if_neg h1];simp
 |c::r,cur,h=>by
  have e:parse cur (c::r)=if c∈GS then tp cur++.gp c::parse [] r else parse (cur++[c]) r:=rfl
  rw[e];split
  ·simp
  ·exact z9c r _ (.inl (by simp))
theorem q6p:∀(l cur:List Nat),(parse cur l).length<=2*l.length+1
 |[],cur=>by show(tp cur).length<=_;unfold tp;split<;>simp
 |c::r,cur=>by
  have e:parse cur (c::r)=if c∈GS then tp cur++.gp c::parse [] r else parse (cur++[c]) r:=rfl
  rw[e];have h0:(tp cur).length<=1:=by unfold tp;split<;>simp
  split
  ·have:=q6p r [];rw[Ae,Be,Be];lia
  ·have:=q6p r (cur++[c]);rw[Be];lia
structure DF (H:Hp) (a:Addr) (f:Nat->Option Nat):Prop where
 ex:∃kvs:List (Key×V),H a=some (.dK kvs)/\kvs.length<=5000/\∀b:Nat,valV kvs (Sum.inl (b:Int))=(f b).map fun e=>V.int (e:Nat)
theorem DF.same(h:DF H a f)(sm:Same H H'):DF H' a f:=let ⟨kvs,h1,h2,h3⟩:=h.ex;⟨kvs,sm _ _ h1,h2,h3⟩
theorem DF.get(h:DF H a f)(b:Nat):DGet H a (.int (b:Int)) ((f b).map fun e=>V.int (e:Nat)):=by
 obtain⟨kvs,h1,h2,h3⟩:=h.ex;have:=DGet.k (k:=Sum.inl (b:Int)) h1;rw[h3] at this;exact this
theorem DF.new(h:DF H a f)(hb:H b=none):DF (upd H b o) a f:=h.same ((Same.refl H).new hb)
theorem key_inj{i j:Nat}:((Sum.inl (i:Int):Key)=Sum.inl (j:Int))↔i=j:=by grind
inductive DS (H:Hp) (n:List Nat):List Addr->List Pt->Prop
 |nil:DS H n [] []
 |cons {d:Addr} {p:Pt} {ds:List Addr} {ps:List Pt}:DF H d (far p n (fits n ps))->DS H n ds ps->DS H n (d::ds) (p::ps)
theorem DS.same(h:DS H n ds ps)(sm:Same H H'):DS H' n ds ps:=by
 induction h with
 |nil=>exact .nil
 |cons a _ ih=>exact .cons (a.same sm) ih
theorem DS.keepL(h:DS H n ds ps)(k:∀b kvs,H b=some (.dK kvs)->H' b=some (.dK kvs)):DS H' n ds ps:=by
 induction h with
 |nil=>exact .nil
 |cons a _ ih=>obtain⟨kvs,a1,a2,a3⟩:=a.ex;exact .cons ⟨kvs,k _ _ a1,a2,a3⟩ ih
theorem DS.len(h:DS H n ds ps):ds.length=ps.length:=by
 induction h with
 |nil=>rfl
 |cons _ _ ih=>simp[ih]
theorem DS.get(h:DS H n ds ps):∀{i:Nat} {d:Addr},ds[i]?=some d->∃p,ps[i]?=some p/\DF H d (far p n (fits n (ps.drop (i+1)))):=by
 induction h with
 |nil=>simp_all
 | @cons d0 p ds ps a _ ih =>
  intro i d h;cases i with
  |zero=>simp_all
  |succ i =>simp_all
theorem z9d{kvs:List (Key×V)}{b e:Nat}{f:Nat->Option Nat}(h:∀c:Nat,valV kvs (Sum.inl (c:Int))=(f c).map fun e=>V.int (e:Nat))(c:Nat):
  valV (putK kvs (Sum.inl (b:Int)) (.int (e:Int))) (Sum.inl (c:Int))=((fun c=>if c=b then some e else f c) c).map fun e=>V.int (e:Nat):=by
 rw[z7t];by_cases z:c=b
 ·grind
 ·rw[if_neg (fun h=>z (key_inj.mp h)),h];show _=Option.map _ (if c=b then _ else _);rw[if_neg z]
abbrev vN(ns:List (List Nat)):List V:=ns.map fun n=>V.str (mk n)
theorem q0r(l:List Nat):(mk l).length=l.length:=by rw[len,q0z]
theorem dec_str(a b:List Nat):decide (V.str (mk a)=V.str (mk b))=decide (a=b):=by simp_all
theorem q4p{α:Type}{l:List α}{x:α}(h:l[i]?=some x):l.drop i=x::l.drop (i+1):=by
 have hi:=(Ak.mp h).1;rw[He hi];congr 1;exact(Ak.mp h).2
end K
namespace PySem.Rv
open Sem (wp)
namespace F
theorem q5k:mroOf (.type "reversed")=pure [.type "reversed",.type "object"]:=by rw[mroOf_type];kernel_rfl
theorem q3y:Kf (.type "reversed") "__new__" = pure (some (.builtin "reversed.__new__")):=by rw[Iy,Gm];kernel_rfl
theorem q4q:Slot "reversed" "__init__" "object.__init__" :=
 .of (owner := "object") (n := "__init__") (by rw[Iy,Gm];kernel_rfl) (by decide +kernel) (by decide +kernel) (by decide +kernel)
  (by first|exact .inl (by rw[Gz];kernel_rfl)|exact .inr (by rw[Gz];kernel_rfl)) (by rw[Gn];kernel_rfl)
theorem called_reversed:TypeCalled "reversed" "reversed.__new__" "object.__init__" :=
 ⟨by decide +kernel,by decide +kernel,⟨_,_,q5k⟩,madeBy_type q5k q3y (by decide +kernel),by decide +kernel,by rw[Gn];kernel_rfl,q4q⟩
theorem typeCall_reversed_1(a:Value):checkTypeCall "reversed" ⟨[a],[]⟩=pure ():=by kernel_rfl
theorem newCall_reversed_1(a:Value):checkBuiltinCall "reversed.__new__" ⟨[.type "reversed",a],[]⟩=pure ():=by kernel_rfl
theorem entry_reversed_new:Ox table "reversed.__new__" = some Dz.«reversed.__new__» := entryFor_of_tree (by kernel_rfl)
theorem slot_lrev_next:Slot "list_reverseiterator" "__next__" "list_reverseiterator.__next__" :=
 .of (owner := "list_reverseiterator") (n := "__next__") (by rw[Iy,Gm];kernel_rfl) (by decide +kernel) (by decide +kernel) (by decide +kernel)
  (by first|exact .inl (by rw[Gz];kernel_rfl)|exact .inr (by rw[Gz];kernel_rfl)) (by rw[Gn];kernel_rfl)
theorem entry_lrev_next:Ox table "list_reverseiterator.__next__" = some Dz.«list_reverseiterator.__next__» := entryFor_of_tree (by kernel_rfl)
theorem slot_lrev_iter:Slot "list_reverseiterator" "__iter__" "list_reverseiterator.__iter__" :=
 .of (owner := "list_reverseiterator") (n := "__iter__") (by rw[Iy,Gm];kernel_rfl) (by decide +kernel) (by decide +kernel) (by decide +kernel)
  (by first|exact .inl (by rw[Gz];kernel_rfl)|exact .inr (by rw[Gz];kernel_rfl)) (by rw[Gn];kernel_rfl)
theorem entry_lrev_iter:Ox table "list_reverseiterator.__iter__" = some Dz.«dict_keyiterator.__iter__» :=
 entryFor_alias (id' := "dict_keyiterator.__iter__") (by kernel_rfl) (by first|rfl|decide +kernel|(unfold String.splitOn;simp +decide [String.splitOnAux])) (by decide +kernel) (by kernel_rfl)
theorem q7q:Manifest.owners.lookup (String.ofList ['r', 'o', 't', 'a', 'r', 'e', 't', 'i', 'e', 's', 'r', 'e', 'v', 'e', 'r', '_', 't', 's', 'i', 'l'].reverse)=some Manifest.sig_list_reverseiterator:=by kernel_rfl
theorem args_lrev_next_1(a:Value):argsOk "list_reverseiterator.__next__" ⟨[a],[]⟩:=by
 unfold argsOk;rw[signature?_of (n:=['_', '_', 't', 'x', 'e', 'n', '_', '_']) (by kernel_rfl) q7q];kernel_rfl
theorem args_lrev_iter_1(a:Value):argsOk "list_reverseiterator.__iter__" ⟨[a],[]⟩:=by
 unfold argsOk;rw[signature?_of (n:=['_', '_', 'r', 'e', 't', 'i', '_', '_']) (by kernel_rfl) q7q];kernel_rfl
theorem sub_reversed:isSubtype (.type "reversed") (.type "reversed")=pure true:=by rw[Gn];kernel_rfl
theorem sub_lrev:isSubtype (.type "list_reverseiterator") (.type "reversed")=pure false:=by rw[Gn];kernel_rfl
end F
open Sem (wp)
def IsRevIter(h:Heap)(it l:Addr)(k:Int):Prop:=∃o,h.get? it=some o/\o.cls=.type "list_reverseiterator" /\ o.data=.fields #[.ref l,.int k 0]
section
variable{prog:Program}{w:World}{A:Around}{E:Value->Ag->Prop}{s:Ag}
theorem wpAny_pyNext_rev_item{k:Nat}{items}(hit:IsRevIter s.heap it l k)(hl:s.heap.IsList l items)(hx:items[k]?=some x)(hQ:∀h',IsRevIter h' it l ((k:Int)-1)->Gh it s.heap h'->Q (some x) { s with heap:=h' }):wpAny (model prog w) A (Nl (.ref it)) Q E s:=by
 obtain⟨o,ho,hc,hd⟩:=id hit;obtain⟨ol,hol,_,nl,hdl⟩:=hl;have hT:s.TypeIs (.ref it) "list_reverseiterator" := ⟨o,ho,hc⟩
 refine Ac (El (Dg hT F.slot_lrev_next
  (Dw F.slot_lrev_next hT F.entry_lrev_next ?_ (F.args_lrev_next_1 _))))
 show wpAny _ _ (field (.ref it) 1 >>= _) _ _ s;refine Ac (Bm ho hd rfl ?_);refine Ac (Bm ho hd rfl ?_);refine Ac (Fo hol hdl ?_);simp only[Kd,hx];refine Ac (Hn ho hd (by simp) (Aj ⟨x,rfl,Aj (hQ _ ?_ (Gh.update ..))⟩));exact⟨_,Dl _ ho (Ig (Ew hd _)),(Obj.cls_mapFields ..).trans hc,by
  rw[Ew hd];simp[Eh]⟩
theorem wpAny_pyNext_rev_end(hh:A.handled=none)(hit:IsRevIter s.heap it l k)(hk:k<0)(hQ:∀h',Heap.ExtBut it s.heap h'->Q none { s with heap:=h' }):wpAny (model prog w) A (Nl (.ref it)) Q E s:=by
 obtain⟨o,ho,hc,hd⟩:=id hit;have hT:s.TypeIs (.ref it) "list_reverseiterator" := ⟨o,ho,hc⟩
 refine Ac (El (Dg hT F.slot_lrev_next
  (Dw F.slot_lrev_next hT F.entry_lrev_next ?_ (F.args_lrev_next_1 _))))
 show wpAny _ _ (field (.ref it) 1 >>= _) _ _ s;refine Ac (Bm ho hd rfl ?_);show wpAny _ _ (if (k<0) then _ else _) _ _ s;rw[if_pos hk];refine Ac (Mq (Ac ?_));refine Ac ?_;refine Ac (Dq ?_ (by size_fits));refine Ac (Jn (by first|rfl|(simp only[firstArgMember];rfl)) ?_);refine Dq ?_ (by size_fits);refine Ac (wpAny_handled ?_);rw[show A.in1.handled=none from hh];refine Ac (Aj (wpAny_throw ?_));refine Ac (Kw ⟨_,As _ rfl,rfl⟩ Ma ?_);exact Aj (hQ _ (fun b o _ e=>Ad _ (Ad _ e)))
theorem wpAny_pyIter_rev(hit:IsRevIter s.heap it l k)(h:Q (.ref it) s):wpAny (model prog w) A (Ko (.ref it)) Q E s:=by
 obtain⟨o,ho,hc,hd⟩:=id hit;have hT:s.TypeIs (.ref it) "list_reverseiterator" := ⟨o,ho,hc⟩
 refine wpAny_pyIter_slot hT F.slot_lrev_iter (Dw F.slot_lrev_iter hT F.entry_lrev_iter ?_ (F.args_lrev_iter_1 _));exact Aj ⟨_,rfl, "list_reverseiterator",_,hT,F.slot_lrev_next.lookup,h⟩
theorem q3z(l:Addr)(items:Array Value)(n:Nat):
  Meets (Dz.«reversed.__new__» ⟨[.type "reversed",.ref l],[]⟩) (fun _ R s=>s.heap.get? l=some { cls:=.type "list",dict:=none,data:=.seq items n,slots:=#[] } /\
   R (.ok (.ret (.ref s.heap.objs.size))) { s with heap:=s.heap.push { cls:=.type "list_reverseiterator",data:=.fields #[.ref l,Eh (((items.size:Nat):Int)-1)] } }) :=
 .of_wp fun prog w A R s h=>by
  obtain⟨hp,g,d,tk,os⟩:=s;obtain⟨hl,h⟩:=h;have hT:Ag.TypeIs ⟨hp,g,d,tk,os⟩ (.ref l) "list" := ⟨_,hl,rfl⟩
  wp_walk
  refine Jn F.sub_reversed ?_
  wp_walk
  refine Jn Gs.lookup ?_
  wp_walk
  refine Jn (Gs.bind (Value.ref l)) ?_
  wp_walk
  have key:Hm (model prog w) A.in1 (Code.call (.builtin "list.__reversed__") ⟨[.ref l],[]⟩) (fun r s'=>r=.ok (.ret (.ref hp.objs.size))/\s'=(⟨hp.push { cls:=.type "list_reverseiterator",data:=.fields #[.ref l,Eh (((items.size:Nat):Int)-1)] },g,d,tk,os⟩:Ag)) ⟨hp,g,d,tk,os⟩ :=
   Ej Gs.plain F.entry_list_reversed (Gs.check _ _ _ _ _ _ _ _ hT (F.args_list_reversed_1 _) (AutoListH.list___reversed___list_0 l items n prog w A.in1 (fun r s'=>r=.ok (.ret (.ref hp.objs.size))/\s'=(⟨hp.push { cls:=.type "list_reverseiterator",data:=.fields #[.ref l,Eh (((items.size:Nat):Int)-1)] },g,d,tk,os⟩:Ag)) ⟨hp,g,d,tk,os⟩ ⟨hl,rfl,rfl⟩))
  refine Gj key fun r s' hr=>?_;obtain⟨rfl,rfl⟩:=hr;exact Aj ⟨_,rfl,h⟩
theorem q7c(ft:TypeCalled T newId initId)(hsubU:isSubtype (.type U) (.type T)=pure false)(hct:checkTypeCall T ⟨args,[]⟩=pure ())(hcn:checkBuiltinCall newId ⟨.type T::args,[]⟩=pure ())(entryN:Ox table newId=some Bn)(g:Meets (Bn ⟨.type T::args,[]⟩) S)(h:S A.in1 (wants (fun obj s₁=>s₁.TypeIs obj U/\Q obj s₁) E) s):wpAny (model prog w) A (call (.type T) args) Q E s:=by
 obtain⟨c,tl,hmro⟩:=ft.mro;have hmade:=ft.made;refine Et (Lk ?_);refine Aj ⟨Gb _ (by decide +kernel),codeAny_builtin F.entry_type_call ?_⟩;have h1:=ft.notType;have h2:=ft.canCreate;repeat (any_goals (first|assumption|wp_step))
 refine Gj (Ej ft.plain entryN (Jn hcn (g prog w A.in1 _ s h))) fun r s₁ hr=>?_;cases r with
 |error e=>exact hr
 |ok fl =>
  cases fl with
  |ret obj =>
   obtain⟨hT,hq⟩:=hr;repeat (any_goals (first|assumption|wp_step))
  |_=>exact hr.elim
theorem call_reversed_list(hl:s.heap.get? l=some { cls:=.type "list",dict:=none,data:=.seq items n,slots:=#[] })(h:Q (.ref s.heap.objs.size) { s with heap:=s.heap.push { cls:=.type "list_reverseiterator",data:=.fields #[.ref l,Eh (((items.size:Nat):Int)-1)] } }):
  wpAny (model prog w) A (call (.type "reversed") [.ref l]) Q E s :=
 q7c F.called_reversed F.sub_lrev (F.typeCall_reversed_1 _) (F.newCall_reversed_1 _) F.entry_reversed_new (q3z l items n) ⟨hl,⟨_,As _ rfl,rfl⟩,h⟩
end
end PySem.Rv
namespace L2
open PySem PySem.Spec PyProof.Rows
def Itv(K:Af)(a:Addr)(n:Nat):It :=
 ⟨fun i H=>∃xs x,SqL K H a xs/\xs.length=n/\xs.reverse[i]?=some x,fun i H x H'=>H'=H/\∀xs,SqL K H a xs->xs.reverse[i]?=some x,fun i _=>n<=i⟩
theorem z3x(x:PySem.Rv.IsRevIter h it l k)(e:∀o,h.get? it=some o->h'.get? it=some o):PySem.Rv.IsRevIter h' it l k:=let ⟨o,ho,r⟩:=x;⟨o,e _ ho,r⟩
theorem z7w{K:Af}(a it:Addr)(n:Nat):Turn P w K tg (Itv K a n) [it] it (fun i h=>PySem.Rv.IsRevIter h it a ((n:Int)-1-i)) where
 mem:=by simp
 obj:=fun i h st b hb=>by
  have e:b=it:=by grind
  subst e;obtain⟨o,e,c,d⟩:=st;exact⟨o,e,fun v z=>by rw[d] at z;cases z⟩
 keep:=fun i h h' st k=>z3x st fun o e=>k it (by simp) o e
 item:=by
  intro X hP hw hK hc i pins s σ H E I hf st hg;subst hP hw hK;obtain⟨xs,x,hq,hn,hx⟩:=hg;obtain⟨its,rv,p,hz⟩:=I.list hq;have hi:i<xs.length:=by have:=(Ak.mp hx).1;simpa using this
  have hx':xs[xs.length-1-i]?=some x:=by grind
  obtain⟨u,hu,ru⟩:=rv.get hx';obtain⟨f0,f1,f2,f3,f4,f5⟩:=hf it (by simp);have est:((n:Int)-1-(i:Int))=((xs.length-1-i:Nat):Int):=by lia
  have st1:PySem.Rv.IsRevIter s.heap it a ((xs.length-1-i:Nat):Int):=by simp_all
  refine PySem.Rv.wpAny_pyNext_rev_item st1 p.isList (by simpa using hu) fun h' st' sb=>?_;have I1:Inv X pins σ H { s with heap:=h' }:=I.turned (t':=s.toks) (fun b o hb e=>(sb.2 b hb).trans e) f0 f1 f3 f4 f5;obtain⟨o,e,c,d⟩:=id st';refine⟨u,rfl,z3i e c d (by decide) ⟨x,H,I1,ru,⟨rfl,fun ys hy=>by rw[I.list_inj hy hq];exact hx⟩,?_,fun b hb=>(hf b hb).1⟩⟩;have e2:((n:Int)-1-((i+1:Nat):Int))=((xs.length-1-i:Nat):Int)-1:=by lia
  rw[e2];exact st'
 done:=by
  intro X hP hw hK hc i pins s σ H E I hf st hg;obtain⟨f0,f1,f2,f3,f4,f5⟩:=hf it (by simp);have hle:n<=i:=hg;exact PySem.Rv.wpAny_pyNext_rev_end (I.ok.hd hc) st (by lia) fun h' eb=>⟨rfl,I.turned (t':=s.toks) (fun b o hb e=>eb b o hb e) f0 f1 f3 f4 f5⟩
 self:=fun _ _ _ _ _ st h=>PySem.Rv.wpAny_pyIter_rev st h
section
variable{X:Cx}{tg:Expr}
def iRev(K:Af)(ta:TA):TI:=fun σ H R=>ta σ H fun vs H1=>∃a xs,vs=[.ref a]/\H1 a=some (.lst xs)/\R (Itv K a xs.length) H1
theorem pi_rev(hg:Gl X "reversed")(hm:X.mg "reversed" = none)(ha:PA X [a] ta)(hs:Ay [a] X.env=[(false,eval a X.env)]:=by rfl):
  PI X tg (.Call (.Name "reversed" p) [a] [] pos) (iRev X.K ta):=by
 intro pins s σ H R I h;refine Call_ (q4c I hg hm (by decide +kernel:Eg "reversed" = some (.type "reversed")) (Ck (thn (ha pos pins s σ H _ I h) fun us s1 ⟨vs,H1,I1,r1,q1⟩=>?_) hs rfl));obtain⟨l,xs,e,hq,q⟩:=q1;subst e;obtain⟨u,rfl,r⟩:=vals1 r1;cases r;obtain⟨z,its,n,rv,hl,e⟩:=I1.lstM hq;refine PySem.Rv.call_reversed_list e ?_;have hit:PySem.Rv.IsRevIter (s1.heap.push { cls:=.type "list_reverseiterator",data:=.fields #[.ref l,Eh (((its.toArray.size:Nat):Int)-1)] }) s1.heap.objs.size l ((xs.length:Int)-1-((0:Nat):Int)):=by
  refine⟨_,As _ rfl,rfl,?_⟩;rw[Ar,<- hl];simp[Eh]
 refine PySem.Rv.wpAny_pyIter_rev hit ?_;refine⟨s1.heap.objs.size,[s1.heap.objs.size],_,_,H1,rfl,I1.kept (t':=s1.toks) fun b o e=>Ad _ e,z7w l _ xs.length,hit,fun b hb=>?_,q⟩;have e:b=s1.heap.objs.size:=by grind
 subst e;exact I1.fpOk (Ah _) (I1.hok.fresh (Ah _))
theorem rev_k{a:Expr}{ta:TA}{p pos:Pos}(K:Af)(hK:X.K=K)(hg:Gl X "reversed")(hm:X.mg "reversed" = none)(ha:PA X [a] ta)(hs:Ay [a] X.env=[(false,eval a X.env)]:=by rfl):
  PI X tg (.Call (.Name "reversed" p) [a] [] pos) (iRev K ta):=by subst hK;exact pi_rev hg hm ha hs
theorem x0n{K:Kp}{g:TG}{tb:TS}{D:Ends}(Pv:Nat->St->Hp->Prop)(h0:Pv 0 σ H)(hl:∀i σ H,Pv i σ H->SqL K H a xs)(hs:∀i x σ H,xs.reverse[i]?=some x->Pv i σ H->g x σ H fun σ2 H2=>tb { D with nx:=Pv (i+1),ct:=Pv (i+1),bk:=D.nx } σ2 H2)(hd:∀σ H,Pv xs.length σ H->D.nx σ H):
  ∃W:Nat->Nat->St->Hp->Prop,(∃m,W 0 m σ H)/\∀i m σ H,W i m σ H ->
   ((Itv K a xs.length).stop i H/\D.nx σ H)\/((Itv K a xs.length).go i H/\∃N:St->Hp->Prop,(∀σ' H',N σ' H'->∃m',m'<m/\W (i+1) m' σ' H')/\∀x H',(Itv K a xs.length).yld i H x H'->g x σ H' fun σ2 H2=>tb { D with nx:=N,ct:=N,bk:=D.nx } σ2 H2):=by
 refine z5j Pv h0 (fun i σ H h p=>⟨xs,xs.reverse[i]'(by simpa using h),hl i σ H p,rfl,Ap _⟩) (fun σ H _=>Ah _) (fun i v σ H H' h p yl=>?_) hd;obtain⟨rfl,y⟩:=yl;exact hs i v σ _ (y xs (hl i σ _ p)) p
end
end L2
namespace K
open PySem L2 TX
theorem q4r(l:Option Int)(len:Nat)(h:(len:Int)<=j):De l (some j) 1 len=De l (some (len:Int)) 1 len:=by
 have a:¬(j<0):=by lia
 have b:¬((len:Int)<0):=by lia
 have c:min j (len:Int)=(len:Int):=by lia
 simp[De,a,b,c]
theorem q4s{l:List Nat}(h1:i<=j)(h2:i<=l.length):Iz (mk l) (some (i:Int)) (some (j:Int))=mk ((l.drop i).take (j-i)):=by
 have hlen:(mk l).cps.toList=l:=q0z l;by_cases h:j<=l.length
 ·show Bs (mk l) (some (i:Int)) (some (j:Int))=_;rw[Md (mk l) h1 (by rw[q0r];exact h),hlen]
 ·have e:Bs (mk l) (some (i:Int)) (some (j:Int))=Bs (mk l) (some (i:Int)) (some (((mk l).length:Nat):Int)):=by
   unfold Bs;rw[q4r (some (i:Int)) (mk l).length (by rw[q0r];lia)]
  show Bs (mk l) (some (i:Int)) (some (j:Int))=_;rw[e,Md (mk l) (by rw[q0r];exact h2) (Ah _),hlen,q0r];rw[Cs (by rw[Bx];lia),Cs (by rw[Bx];lia)]
end K
namespace L2
open PySem PySem.Spec PyProof.Rows
section
variable{X:Cx}
theorem z5x:CallR X (.type "int") (fun xs H Q=>∃x n,xs=[.str x]/\Ho x=some n/\x.length<=640/\Q (.int n) H):=by
 intro pins s σ H xs us Q I r h;obtain⟨x,n,rfl,h1,h2,q⟩:=h;obtain⟨u,rfl,t,rfl⟩:=vals1 r;exact W.KIN.call_text h1 h2 ⟨.int n,H,I.tok _,⟨_,rfl⟩,q⟩
theorem q1r:CallR X (.type "int") (fun xs H Q=>((∃i,xs=[.int i]/\Q (.int i) H)\/∃k,xs=[.bl k]/\Q (.int (if k then 1 else 0)) H)\/∃x n,xs=[.str x]/\Ho x=some n/\x.length<=640/\Q (.int n) H):=call_int1.or z5x
end
end L2
namespace K
open PySem L2 TX
def dg(m:Nat):List Nat:=tl (Ab (toString (m:Int)))
theorem z3y(m:Nat):Ab (toString (m:Int))=mk (dg m):=(mk_tl _).symm
theorem z7x(m:Nat):dg m=(Nat.toDigits 10 m).map Char.toNat:=W.KIN.signs_num m
theorem q2g(h:m<10):dg m=[48+m]:=by
 rw[z7x,Nat.toDigits_of_lt_base h];exact(by decide:∀m:Nat,m<10->[Nat.digitChar m].map Char.toNat=[48+m]) m h
theorem q8j(h:10<=m):dg m=dg (m / 10)++[48+m%10]:=by
 have hm:m%10<10:=Nat.mod_lt m (by decide);have t:Nat.toDigits 10 (m / 10)++Nat.toDigits 10 (m%10)=Nat.toDigits 10 (10*(m / 10)+m%10):=Nat.toDigits_append_toDigits (by decide) (by lia) hm;rw[Nat.div_add_mod] at t;rw[z7x,z7x,<- t,Bi];congr 1;exact(z7x (m%10)).symm.trans (q2g hm)
theorem z9e(m:Nat):∀c∈dg m,c∈FI:=by
 have hf:∀d:Nat,d<10->48+d∈FI:=by decide +kernel
 induction m using Nat.strongRecOn with
 |_ m ih =>
  by_cases h:m<10
  ·rw[q2g h];intro c hc;rw[Au.mp hc];exact hf m h
  ·rw[q8j (by lia)];intro c hc;rcases Bh.mp hc with z|z
   ·grind
   ·rw[Au.mp z];exact hf _ (Nat.mod_lt m (by decide))
theorem z1p(m:Nat):∃d r,dg m=(48+d)::r/\d<10/\(d=0->m=0/\r=[]):=by
 induction m using Nat.strongRecOn with
 |_ m ih =>
  by_cases h:m<10
  ·exact⟨m,[],q2g h,h,fun z=>⟨z,rfl⟩⟩
  ·obtain⟨d,r,h1,h2,h3⟩:=ih (m / 10) (by lia);refine⟨d,r++[48+m%10],by rw[q8j (by lia),h1];rfl,h2,fun z=>?_⟩;have:=(h3 z).1;lia
theorem q4t:∀(k m:Nat),m<10^(k+1)->(dg m).length<=k+1
 |0,m,h=>by rw[q2g (by simpa using h)];exact Ah _
 |k+1,m,h=>by
  by_cases hz:m<10
  ·rw[q2g hz];simp
  ·rw[q8j (by lia),Ae,Aq];have:=q4t k (m / 10) (by rw[Nt] at h;lia);lia
theorem dg_pos(m:Nat):1<=(dg m).length:=by obtain⟨d,r,h,_⟩:=z1p m;rw[h];simp
theorem z1q(h:m<10^10):Ho (mk (dg m))=some (m:Int):=by
 exact W.KIN.num_reads (by lia) (by lia)
end K
namespace L2
open PySem PySem.Spec PyProof.Rows
structure KDict (P:Program) (w:World) (K:Af) (d:Addr) (kvs:List (Key×V)):Prop where
 ex:∃ob vs,K.lookup d=some ob/\KV kvs vs/\∀h:Heap,h.get? d=some ob->h.DictOf (mixKind P w) d vs
def tKGet(kvs:List (Key×V))(ty:TE):TE:=fun σ H Q=>ty σ H fun y H1=>∃k v,y=kV k/\valV kvs k=some v/\Q v H1
theorem z5y{X:Cx}{x:Str}{d:Addr}{kvs:List (Key×V)}{i:Expr}{ty:TE}{p pos:Pos}(hg:Gl X x)(hm:X.mg x=some (.ref d))(D:KDict X.prog X.w X.K d kvs)(hi:PE X i ty)(hs:NoSl i)(hdb:(x==("__debug__" : Str))=false:=by decide):
  PE X (.Subscript (.Name x p) i pos) (tKGet kvs ty):=by
 intro pins s σ H Q I h;refine z5v Ki.lookup hs (q2v I hg hm (thn (hi pins s σ H _ I h) fun iv s2 ⟨y,H2,I2,ry,k,v,ey,l,q2⟩=>?_) hdb);subst ey;obtain⟨ob,vs,hk,rel,hd⟩:=D.ex;have dd:=hd _ (I2.kIn d ob hk);obtain⟨w',hw,rw'⟩:=RelO.some_of (by rw[<- l];exact rel.val k);exact⟨dd.typeIs,wpAny_getItem_of (z1m ry) dd.mapOf hw ⟨v,H2,I2.tok _,rw',q2⟩⟩
section
variable{X:Cx}
theorem z7y:PGet X (rIxL X.K):=by
 intro pins s σ H x y v u Q I rx ry h;obtain⟨p,xs,i,z,rfl,rfl,hq,he,q⟩:=h;cases rx;obtain⟨t,rfl⟩:=ry;obtain⟨its,r,pl,hz⟩:=I.list hq;obtain⟨j,h1,h2,h3,h4,h5⟩:=q8a he;obtain⟨w,ew,rw'⟩:=r.get h2;have hl:=r.length;have hn:=line63;have fin:EP X pins σ Q w s:=⟨z,H,I,rw',q⟩
 by_cases h0:0<=i
 ·have hj:i.toNat=j:=by
   rw[Ln h0 h5] at h1;exact Cf h1
  exact wpAny_getItem_list pl.isList h0 (by lia) (by rw[hj];simpa using ew) fin
 ·have hj:(i+(its.toArray.size:Int)).toNat=j:=by
   rw[seqIndex_neg (by lia) h4] at h1;rw[Ar,<- hl];exact Cf h1
  exact Lq pl.isList (by lia) (by rw[Ar]<;>lia) (by lia) (by rw[hj];simpa using ew) fin
theorem get_k(K:Af)(hK:X.K=K):PGet X (rIxL K):=by subst hK;exact z7y
def CDivB(i j:Int):Prop:=0<j/\j<1152921504606846976
theorem z2y:OpR X (Fc .FloorDiv) (rI CDivB fun i j=>.int (i / j)):=opI fun i j _ _ _ _ _ hc q=>by
 have h1:=hc.1;have h2:=hc.2;refine floordiv_int (by lia) (by rw[Int.fdiv_eq_ediv_of_nonneg i (by lia)];exact q) (.inl (PyProof.noPylong_of_log2 ?_));have:j.natAbs<2^60:=by lia
 have h3:=(Ol (by lia)).mpr this;lia
end
def spDrawB:Sp:=fun vs H Q _=>∃a b m,vs=[.ref a,.int m]/\FeedAt H a b/\0<m/\m<1152921504606846976/\∀(r:Int) H',0<=r->r<m->Fd a b H H'->Q (.int r) H'
end L2
namespace SB
open PySem PyProof.Rows
section
variable{prog:Program}{w:World}{A:Around}{E:Value->Ag->Prop}{s:Ag}
def rk(r:Value->Int)(xs:Array Keyed)(i:Nat):Int:=((xs[i]?).map fun p=>r p.1).getD 0
variable{kd:SortKind}{S:Value->Prop}{r:Value->Int}{a₀:Array Keyed}
end
open PySem PyProof.Rows TX
abbrev Pth:=List (List Nat)
theorem IsTup.inj(h1:IsTup h a x)(h2:IsTup h a y):x=y:=by
 obtain⟨o,e,_,n,d⟩:=h1;obtain⟨o',e',_,n',d'⟩:=h2;rw[e] at e';cases e';rw[d] at d';cases d';rfl
theorem IsTup.keep(t:IsTup h a x)(k:∀o,h.get? a=some o->h'.get? a=some o):IsTup h' a x:=let ⟨o,e,r⟩:=t;⟨o,k o e,r⟩
section
variable{prog:Program}{w:World}{A:Around}{E:Value->Ag->Prop}{s:Ag}
open Classical in
noncomputable def keyBy (K:Value->Pth->Prop) (v:Value):Pth:=if h:∃p,K v p then choose h else[]
end
end SB
namespace L2
open PySem PySem.Spec PyProof.Rows SB TX
def kP(p:Pth):List Key:=p.map fun n=>Sum.inr (mk n)
abbrev vP(p:Pth):List V:=p.map fun n=>V.str (mk n)
theorem kP_kV(p:Pth):(kP p).map kV=vP p:=by unfold kP;rw[Hj];rfl
abbrev HRow:=Pth×V
abbrev dR(rows:List HRow):HO:=.dT (rows.map fun r=>(kP r.1,r.2))
section
variable{X:Cx}{pins:List (Addr×Obj)}{σ:St}{H:Hp}{s:Ag}
theorem Inv.rows(I:Inv X pins σ H s){rows:List HRow}(hd:H d=some (dR rows)):(d==Er)=false/\rows.length<=sizeLine/\∃ob es ep,s.heap.get? d=some ob/\ob.ExactDict/\ob.data=.dict es ep/\(rows.map (·.1)).Nodup /\
  ∃zs:List (Addr×Value×HRow),zs.map (·.2.2)=rows/\es.toList.map (fun e=>(e.key,e.val))=zs.map (fun z=>(Value.ref z.1,z.2.1))/\∀z∈zs,H z.1=some (.tup (vP z.2.2.1))/\RelV z.2.2.2 z.2.1:=by
 obtain⟨z,hsys,xs,hp,ob,es,ep,ho,hex,hob,h4,h5⟩:=(show ObjOk X.prog X.w H s.heap d (dR rows) from I.hok d _ hd)
 rw[Ai] at z;have go:∀(rows:List HRow) (xs:List (List Key×Addr×Value)),Fg (fun(p:List Key×V) (q:List Key×Addr×Value)=>p.1=q.1/\H q.2.1=some (.tup (p.1.map kV))/\RelV p.2 q.2.2) (rows.map fun r=>(kP r.1,r.2)) xs ->
   xs.map (·.1)=rows.map (fun r=>kP r.1)/\∃zs:List (Addr×Value×HRow),zs.map (·.2.2)=rows/\(xs.map (entryOfKey (Jo (mixKind X.prog X.w)))).map (fun e=>(e.key,e.val))=zs.map (fun z=>(Value.ref z.1,z.2.1))/\∀z∈zs,H z.1=some (.tup (vP z.2.2.1))/\RelV z.2.2.2 z.2.1:=by
  intro rows;induction rows with
  |nil=>intro xs h;cases h;exact⟨rfl,[],rfl,rfl,fun _ h=>nomatch h⟩
  |cons r rows ih =>
   intro xs h;cases h with
   |cons hq t =>
    rename_i q ys;obtain⟨e1,e2,e3⟩:=hq;obtain⟨i0,zs,i1,i2,i3⟩:=ih ys t;refine⟨by rw[Cj,Cj,i0,<- e1],(q.2.1,q.2.2,r)::zs,by rw[Cj,i1],by rw[Cj,Cj,Cj,i2];rfl,fun z hz=>?_⟩;rcases Bd.mp hz with rfl|hz
    ·exact⟨by rw[<- kP_kV];exact e2,e3⟩
    ·exact i3 z hz
 obtain⟨g0,zs,g1,g2,g3⟩:=go rows xs hp;refine⟨hsys,z,ob,es,ep,ho,hex,hob,?_,zs,g1,by rw[h4];exact g2,g3⟩;rw[g0] at h5;have e:rows.map (fun r=>kP r.1)=(rows.map (·.1)).map kP:=by simp_all
 rw[e] at h5;exact(List.pairwise_map.mp h5).imp fun hne z=>hne (by rw[z])
end
end L2
namespace HM
open PySem PySem.Spec PyProof.Rows L2 TX SB
def NSs:Str:=Ab "abcdefghijklmnopqrstuvwxyzABCDEFGHIJKLMNOPQRSTUVWXYZ0123456789-_."
abbrev NS:List Nat:=tl NSs
abbrev Rw:=Pth×Option Int
def mV:Option Int->V
 |none=>.non
 |some i=>.int i
def rR(r:Rw):HRow:=(r.1,mV r.2)
theorem drop_app{a:Pth}(h:a≠[]):(p++a).dropLast=p++a.dropLast:=List.dropLast_append_of_ne_nil h
end HM
namespace L2
open PySem PySem.Spec PyProof.Rows
section
variable{M:Model}{A:Around}{E:Value->Ag->Prop}{s:Ag}
def TbAt(h:Heap)(e:Addr)(vs:Array Value)(T:Addr)(fl:Value):Prop:=vs[1]?=some (.ref T)/\T≠e/\∃oT ts,h.get? T=some oT/\oT.data=.fields ts/\ts[3]?=some fl
def TbOk(L:Addr)(h:Heap)(e:Addr)(vs:Array Value):Prop:=vs[1]?=some .none\/∃T,TbAt h e vs T .none\/TbAt h e vs T (Eh L)
structure LeftX (fr:List Addr) (e:Addr) (oe:Obj) (vs:Array Value) (fl:Value) (h h':Heap):Prop where
 ex:∃T,(h.objs.size<=T\/vs[1]?=some (.ref T))/\T≠e/\h'.get? e=some (oe.mapFields (·.setIfInBounds 1 (.ref T)))/\∃oT ts,h'.get? T=some oT/\oT.data=.fields ts/\ts[3]?=some fl
 keep:∀b o,h.get? b=some o->b≠e->vs[1]?≠some (.ref b)->b∉fr->h'.get? b=some o
 slot:∀b o,h.get? b=some o->b∈fr->∃sl,h'.get? b=some { o with slots:=sl }
theorem z0f{oe:Obj}(hd:oe.data=.fields vs)(h1:vs[1]?=some x):oe.mapFields (·.setIfInBounds 1 x)=oe:=by
 obtain⟨c,d,dt,sl⟩:=oe;cases hd;have e:vs.setIfInBounds 1 x=vs:=by
  have hs:=(Dj.mp h1)
  obtain⟨hlt,hx⟩:=hs;apply Array.ext
  ·simp
  ·intro i h2 h3;rw[Array.getElem_setIfInBounds (by simpa using h3)];split
   ·grind
   ·rfl
 show(⟨c,d,.fields (vs.setIfInBounds 1 x),sl⟩:Obj)=_;rw[e]
theorem entryX
  (hfr:A.frames=some (env::outer))(hl:s.heap.FunFrames base (env::outer))(hf:env.frame=some L)(he:s.heap.get? e=some oe)(hd:oe.data=.fields vs)(hsz:1<vs.size)(h:∀h',(∃T,s.heap.objs.size<=T/\h'.get? e=some (oe.mapFields (·.setIfInBounds 1 (.ref T)))/\∃oT ts,h'.get? T=some oT/\oT.data=.fields ts/\ts[3]?=some (Eh L)) ->
   (∀b o,s.heap.get? b=some o->b≠e->b∉(env::outer).filterMap (·.frame)->h'.get? b=some o) ->
   (∀b o,s.heap.get? b=some o->b∈(env::outer).filterMap (·.frame)->∃sl,h'.get? b=some { o with slots:=sl })->Q () { s with heap:=h' }):
  wpAny M A (do let a<-frameOf env;let pl<-entryPlaceOf L hadNext;let b<-EntryCells.newEntry head a .none (Eh L) .none pl;setField (.ref e) 1 b) Q E s:=by
 have hene:e∉(env::outer).filterMap (·.frame):=fun hm=>by
  obtain⟨_,o,ho,hnf⟩:=hl.mem hm;rw[he] at ho;injection ho with ho;subst ho;exact hnf vs hd
 refine Ac (wpAny_frameOf_fun hfr hl hf fun h₁ hs₁=>?_);refine Ac (wpAny_entryPlaceOf fun pl hpl=>?_);refine Ac (Dq ?_ (hpl.sizeOk5 _ _ _ _ _));have he₁:=(hs₁.2.1 e hene).trans he;have he₂:=Ad { cls:=.type "traceback",dict:=none,data:=.fields ([head,.ref L,.none,Eh L,.none]++(if pl.isEmpty then List.replicate 6 Value.none else pl)).toArray } he₁;have hTe:=Fq (An he₁);have hd₃:=Ew hd (·.setIfInBounds 1 (Value.ref h₁.objs.size));have he₃:=Dl (Em (·.setIfInBounds 1 (Value.ref h₁.objs.size))) he₂ (Ig hd₃);have hT₃:=(Bz (h₁.push { cls:=.type "traceback",dict:=none,data:=.fields ([head,.ref L,.none,Eh L,.none]++(if pl.isEmpty then List.replicate 6 Value.none else pl)).toArray })
  (Em (·.setIfInBounds 1 (Value.ref h₁.objs.size))) (Cu hTe)).trans (As h₁ rfl)
 refine Hn he₂ hd hsz (h _ ⟨h₁.objs.size,by rw[hs₁.1];exact Ah _,he₃,_,_,hT₃,rfl,by first|(simp;done)|(rcases hpl with rfl|⟨_,_,_,_,_,_,_,rfl⟩<;>simp)⟩ ?_ ?_)
 ·intro b o hb hbe hbf;have hb₁:=(hs₁.2.1 b hbf).trans hb;rw[Bz _ _ (Cu hbe)];exact Ad _ hb₁
 ·intro b o hb hbf;have hbe:b≠e:=fun z=>hene (z▸hbf);obtain⟨sl,hb₁⟩:=hs₁.2.2 b o hb;refine⟨sl,?_⟩;rw[Bz _ _ (Cu hbe)];exact Ad _ hb₁
theorem noteX
  (hfr:A.frames=some (env::outer))(hl:s.heap.FunFrames base (env::outer))(hf:env.frame=some L)(he:s.heap.get? e=some oe)(hd:oe.data=.fields vs)(ht:TbOk L s.heap e vs)(h:∀h',LeftX ((env::outer).filterMap (·.frame)) e oe vs (Eh L) s.heap h'->Q () { s with heap:=h' }):wpAny M A (noteFrame (.ref e) env) Q E s:=by
 have helt:=An he;unfold noteFrame;simp only[hf];rcases ht with h1|⟨T,⟨h1,hTe,oT,ts,hT,hdT,h3⟩|⟨h1,hTe,oT,ts,hT,hdT,h3⟩⟩
 ·refine Ac (Bm he hd h1 ?_);refine entryX hfr hl hf he hd (Dj.mp h1).1 fun h' ⟨T,q1,q2,q3⟩ b c=>h h' ⟨⟨T,.inl q1,fun z=>absurd helt (Gd.mpr (z▸q1)),q2,q3⟩,fun x o hx hxe _ hxf=>b x o hx hxe hxf,c⟩
 ·refine Ac (Bm he hd h1 ?_);refine Ac (Bm hT hdT h3 ?_);refine Ac (Hn hT hdT (Dj.mp h3).1 ?_);have other:∀b,b≠T->(s.heap.update T (Em (·.setIfInBounds 3 Value.none))).get? b=s.heap.get? b:=fun b hb=>Bz _ _ (Cu hb);have noRecord:∀b o,s.heap.get? b=some o->(∀vs,o.data≠.fields vs)->b≠T:=fun b o hb hnf q=>by
   rw[q,hT] at hb;injection hb with hb;subst hb;exact hnf ts hdT
  have hTf:T∉(env::outer).filterMap (·.frame):=fun hm=>by
   obtain⟨_,o,ho,hnf⟩:=hl.mem hm;rw[hT] at ho;injection ho with ho;subst ho;exact hnf ts hdT
  have hsz:(s.heap.update T (Em (·.setIfInBounds 3 Value.none))).objs.size=s.heap.objs.size:=by simp_all
  refine entryX hfr (hl.of_keeps fun b o hb hnf=>⟨o,(other b (noRecord b o hb hnf)).trans hb,rfl⟩) hf ((other e (Cu hTe)).trans he) hd (Dj.mp h1).1 fun h' a b c=>h h' ⟨?_,fun x o hx hxe hx1 hxf=>?_,fun x o hx hxf=>?_⟩
  ·obtain⟨T',q1,q2,q3⟩:=a;rw[hsz] at q1;exact⟨T',.inl q1,fun z=>absurd helt (Gd.mpr (z▸q1)),q2,q3⟩
  ·exact b x o ((other x fun z=>hx1 (by rw[z];exact h1)).trans hx) hxe hxf
  ·exact c x o ((other x fun z=>hTf (z▸hxf)).trans hx) hxf
 ·refine Ac (Bm he hd h1 ?_);refine Ac (Bm hT hdT h3 ?_);rw[if_pos (show(Eh L==Eh L)=true from by simp)];refine Aj (h s.heap ⟨⟨T,.inr h1,hTe,by rw[z0f hd h1];exact he,oT,ts,hT,hdT,h3⟩,fun x o hx _ _ _=>hx,fun x o hx _=>⟨o.slots,hx⟩⟩)
theorem flightX(he:s.heap.get? e=some oe)(hd:oe.data=.fields vs)(ht:TbAt s.heap e vs T fl)(hTf:T∉fr)(h:∀h',LeftX fr e oe vs (f.elim .none fun f=>Eh f) s.heap h'->Q () { s with heap:=h' }):wpAny M A (setFlight (.ref e) f) Q E s:=by
 obtain⟨h1,hTe,oT,ts,hT,hdT,h3⟩:=ht;have other:∀b,b≠T->(s.heap.update T (Em (·.setIfInBounds 3 (f.elim Value.none fun f=>Eh f)))).get? b=s.heap.get? b:=fun b hb=>Bz _ _ (Cu hb)
 refine Ac (Bm he hd h1 ?_);refine Hn hT hdT (Dj.mp h3).1 (h _ ⟨⟨T,.inr h1,hTe,?_,_,_,Dl _ hT (Ig (Ew hdT _)),Ew hdT _,?_⟩,fun x o hx _ hx1 _=>?_,fun x o hx hxf=>?_⟩)
 ·rw[z0f hd h1,other e (Cu hTe)];exact he
 ·simp[(Dj.mp h3).1]
 ·rw[other x fun z=>hx1 (by rw[z];exact h1)];exact hx
 ·rw[other x fun z=>hTf (z▸hxf)];exact⟨o.slots,hx⟩
end
open PySem PySem.Spec PyProof.Rows
def ExO(C:Value)(dd:Option Addr)(e:Addr):HO:=.ext fun h=>∃vs sl,h.get? e=some { cls:=C,dict:=dd,data:=.fields vs,slots:=sl }/\vs.size=6
structure FlX (X:Cx) (pins:List (Addr×Obj)) (H:Hp) (s:Ag) (e:Addr):Prop where
 at_:∃C dd,H e=some (ExO C dd e)
 tb:∃oe vs,s.heap.get? e=some oe/\oe.data=.fields vs/\TbOk X.env.locals s.heap e vs/\∀T,vs[1]?=some (.ref T)->X.s₀.heap.objs.size<=T/\H T=none/\T≠X.env.locals/\(∀x c,X.env.cells.lookup x=some c->c≠T)/\∀p∈X.pn++pins,p.1≠T
 new:X.s₀.heap.objs.size<=e
section
variable{X:Cx}{pins:List (Addr×Obj)}{σ:St}{H:Hp}{s:Ag}{e:Addr}{oe:Obj}{vs:Array Value}{fl:Value}{h':Heap}
def chOf(vs:Array Value):List Addr:=match vs[(1:Nat)]? with|some (Value.ref T)=>[T]|_=>[]
theorem chOf_mem:b∈chOf vs↔vs[(1:Nat)]?=some (Value.ref b):=by
 unfold chOf;constructor
 ·intro h;split at h
  ·simp_all
  ·cases h
 ·simp_all
theorem Inv.leftX(I:Inv X pins σ H s)(F:FlX X pins H s e)(he:s.heap.get? e=some oe)(hd:oe.data=.fields vs)(hfl:fl=.none\/fl=Eh X.env.locals)(hT:∀T,vs[1]?=some (.ref T)->X.s₀.heap.objs.size<=T/\H T=none/\T≠X.env.locals/\(∀x c,X.env.cells.lookup x=some c->c≠T)/\∀p∈X.pn++pins,p.1≠T)(L:LeftX (frs X.stack) e oe vs fl s.heap h'):Inv X pins σ H { s with heap:=h' }/\FlX X pins H { s with heap:=h' } e/\∃oe' vs' T,h'.get? e=some oe'/\oe'.data=.fields vs'/\TbAt h' e vs' T fl:=by
 obtain⟨C,dd,hE⟩:=F.at_;obtain⟨T',hT'1,hT'e,hE',oT,ts,q1,q2,q3⟩:=L.ex;have hne:∀b,H b=none->b≠e:=fun b h z=>by rw[z,hE] at h;cases h
 have un:Un (frs X.stack) (chOf vs) H H s.heap h':=⟨fun b o hb n hf hc=>L.keep b o hb (hne b n) (fun z=>hc (chOf_mem.mpr z)) hf,fun b o hb n hf hc=>L.slot b o hb hf,fun _ _ _ n _=>n,fun b o hb hc=>by
   by_cases z:b=e
   ·simp_all
   ·by_cases y:b∈frs X.stack
    ·obtain⟨sl,k⟩:=L.slot b o hb y;exact⟨_,k⟩
    ·exact⟨o,L.keep b o hb z (fun x=>hc (chOf_mem.mpr x)) y⟩,
  fun _ _ q=>q,fun _ _ _ q=>q,fun _ ps q=>⟨#[],by rw[q];simp⟩⟩
 have hsz6:vs.size=6/\oe.cls=C/\oe.dict=dd:=by
  obtain⟨⟨vs2,sl,z,z6⟩,_,_⟩:=I.hok e _ hE;rw[he] at z;cases z;cases hd;exact⟨z6,rfl,rfl⟩
 have hok:HOk X.prog X.w H h':=fun a o ha=>by
  by_cases z:a=e
  ·subst z;rw[hE] at ha;cases ha;refine⟨⟨vs.setIfInBounds 1 (.ref T'),oe.slots,?_,by simpa using hsz6.1⟩,⟨_,hE'⟩,fun h1 h2 ⟨ws,sl,k1,k2⟩ k=>⟨ws,sl,k _ k1,k2⟩⟩;rw[hE'];obtain⟨c,d,dt,sl⟩:=oe;cases hd;obtain⟨_,rfl,rfl⟩:=hsz6;rfl
  ·refine(I.hok a o ha).stay (fun b u hb hu=>?_) (fun _ q=>q) fun _ _ q=>q;have hbt:H b≠none/\b≠e:=by
    rcases hb with rfl|hb
    ·grind
    ·refine⟨by rw[hb];simp,fun y=>?_⟩;rw[y,hE] at hb;cases hb
   exact L.keep b u hu hbt.2 (fun y=>hbt.1 (hT b y).2.1) fun y=>hbt.1 (I.stkFree b y)
 have hch:∀b∈chOf vs,(b∈X.ex\/X.s₀.heap.objs.size<=b)/\b≠X.env.locals/\(∀x c,X.env.cells.lookup x=some c->c≠b)/\∀p∈X.pn++pins,p.1≠b:=fun b hb=>by
  obtain⟨a1,_,a3,a4,a5⟩:=hT b (chOf_mem.mp hb);exact⟨.inr a1,a3,a4,a5⟩
 have I':Inv X pins σ H { s with heap:=h' }:=I.call' (s':={ s with heap:=h' }) rfl un hok I.bare hch;have hd':=Ew hd (·.setIfInBounds 1 (Value.ref T'));have hlt1:1<vs.size:=by grind
 have hTb:TbAt h' e (vs.setIfInBounds 1 (.ref T')) T' fl:=⟨by simp[hlt1],hT'e,oT,ts,q1,q2,q3⟩
 refine⟨I',⟨⟨C,dd,hE⟩,⟨_,_,hE',hd',.inr ⟨T',?_⟩,fun T hTT=>?_⟩,F.new⟩,_,_,T',hE',hd',hTb⟩
 ·lia
 ·have:T=T':=by
   have z:=hTb.1;rw[z] at hTT;injection hTT with y;injection y with y;exact y.symm
  subst this;rcases hT'1 with k|k
  ·refine⟨Aw I.sz k,I.hok.fresh k,fun z=>absurd I.lt (Gd.mpr (z▸k)),fun x c hx z=>?_,fun p hp z=>?_⟩
   ·obtain⟨v,o,ho,_⟩:=I.cell x c hx;exact absurd (An ho) (Gd.mpr (z▸k))
   ·obtain⟨ho,_⟩:=I.pin p hp;exact absurd (An ho) (Gd.mpr (z▸k))
  ·exact hT T k
def XE(X:Cx)(J:Addr->St->Hp->Prop)(e:Value)(s:Ag):Prop:=∃pins σ H ea,e=.ref ea/\Inv X pins σ H s/\FlX X pins H s ea/\J ea σ H
theorem z9f(hst:X.stack=X.env::X.outer):frs X.stack=(X.env::X.outer).filterMap (·.frame):=by rw[hst];rfl
theorem passX(hst:X.stack=X.env::X.outer)(hf:X.env.frame=some X.env.locals):Nk (model X.prog X.w) X.A X.env (XE X J):=by
 rintro e s' ⟨pins,σ,H,ea,rfl,I,F,j⟩;obtain⟨oe,vs,he,hd,ht,hT⟩:=F.tb;have hfr:X.A.frames=some (X.env::X.outer):=by rw[<- hst];exact I.ok.frames
 have hl:s'.heap.FunFrames X.base (X.env::X.outer):=by rw[<- hst];exact I.stack
 refine noteX hfr hl hf he hd ht fun h1 L1=>?_;rw[<- z9f hst] at L1;obtain⟨I1,F1,oe1,vs1,T1,e1,d1,t1⟩:=I.leftX F he hd (.inr rfl) hT L1;refine Ac (Bm e1 d1 t1.1 ?_);have hT1f:T1∉frs X.stack:=fun hm=>by
  obtain⟨_,_,oT,ts,q1,q2,_⟩:=t1;obtain⟨_,o,ho,hnf⟩:=I1.stack.mem hm;rw[q1] at ho;injection ho with ho;subst ho;exact hnf ts q2
 obtain⟨oe1',vs1',e1',d1',_,hT1⟩:=F1.tb;have q:oe1'=oe1/\vs1'=vs1:=by grind
 obtain⟨rfl,rfl⟩:=q;refine flightX e1 d1 t1 hT1f fun h2 L2=>?_
 rw[hf] at L2;obtain⟨I2,F2,_⟩:=I1.leftX F1 e1 d1 (.inr rfl) hT1 L2;exact⟨pins,σ,H,ea,rfl,I2,F2,j⟩
end
open PySem PySem.Spec PyProof.Rows
def CXR(P:Program)(w:World):CXT:=fun outer H s E e s'=>∃ea H',e=.ref ea/\s'.os=s.os/\Hl s'.gens/\Un (frs outer) [] H H' s.heap s'.heap/\HOk P w H' s'.heap/\s.heap.objs.size<=ea/\(∃C dd,H' ea=some (ExO C dd ea)) /\
 (∃oe vs,s'.heap.get? ea=some oe/\oe.data=.fields vs/\(vs[1]?=some .none\/∃T,TbAt s'.heap ea vs T .none)/\∀T,vs[1]?=some (.ref T)->s.heap.objs.size<=T/\H' T=none)/\E (.ref ea) none H'
section
variable{X:Cx}{J J':Addr->St->Hp->Prop}{E:Value->Ag->Prop}{e:Value}{s:Ag}
theorem FlX.wish(F:FlX X pins H s ea)(E:Value->Ag->Prop):FlX (X.wish E) pins H s ea:=⟨F.at_,F.tb,F.new⟩
theorem FlX.unwish(F:FlX (X.wish E) pins H s ea):FlX X pins H s ea:=⟨F.at_,F.tb,F.new⟩
theorem XE.wish(h:XE X J e s):XE (X.wish E) J e s:=by
 obtain⟨pins,σ,H,ea,rfl,I,F,j⟩:=h;exact⟨pins,σ,H,ea,rfl,I.wish _,F.wish _,j⟩
theorem XE.unwish(h:XE (X.wish E) J e s):XE X J e s:=by
 obtain⟨pins,σ,H,ea,rfl,I,F,j⟩:=h;exact⟨pins,σ,H,ea,rfl,I.unwish,F.unwish,j⟩
structure AccX (X:Cx) (J:Addr->St->Hp->Prop):Prop where
 acc:∀e s,XE X J e s->X.xe e s
theorem AccX.of:AccX (X.wish (XE X J)) J:=⟨fun _ _ h=>h.unwish⟩
theorem PSs.wishX{st:List Stmt}(hE:∀e s,E e s->X.xe e s)(h:PSs (X.wish E) st t):PSs X st t:=fun pins s σ H D I hw =>
 Cc (h pins s σ H D (I.wish _) hw) (fun _ _ q=>q.unwish) hE
theorem leaves{K:Af}(h:XE (cxOf (CXR P w) P w K mg base N qual scope f cd A outer s₀ H₀ E₀) (fun ea _ H'=>E₀ (.ref ea) none H') e s):(cxOf (CXR P w) P w K mg base N qual scope f cd A outer s₀ H₀ E₀).xe e s:=by
 obtain⟨pins,σ,H,ea,rfl,I,F,j⟩:=h;obtain⟨oe,vs,he,hd,ht,hT⟩:=F.tb;refine Ac (noteX I.ok.frames I.stack rfl he hd ht fun h1 L1=>?_);obtain⟨I1,F1,oe1,vs1,T1,e1,d1,t1⟩:=I.leftX F he hd (.inr rfl) hT L1;have hT1f:T1∉frs (cxOf (CXR P w) P w K mg base N qual scope f cd A outer s₀ H₀ E₀).stack:=fun hm=>by
  obtain⟨_,_,oT,ts,q1,q2,_⟩:=t1;obtain⟨_,o,ho,hnf⟩:=I1.stack.mem hm;rw[q1] at ho;injection ho with ho;subst ho;exact hnf ts q2
 obtain⟨oe1',vs1',e1',d1',_,hT1⟩:=F1.tb;have q:oe1'=oe1/\vs1'=vs1:=by grind
 obtain⟨rfl,rfl⟩:=q;refine flightX e1 d1 t1 hT1f fun h2 L2=>?_
 obtain⟨I2,F2,oe2,vs2,T2,e2,d2,t2⟩:=I1.leftX F1 e1 d1 (.inl rfl) hT1 L2;obtain⟨oe2',vs2',e2',d2',_,hT2⟩:=F2.tb;have q:oe2'=oe2/\vs2'=vs2:=by grind
 obtain⟨rfl,rfl⟩:=q;exact⟨ea,H,rfl,I2.os,I2.bare,I2.base,I2.hok,F2.new,F2.at_,⟨_,_,e2,d2,.inr ⟨T2,t2⟩,fun T hTT=>⟨(hT2 T hTT).1,(hT2 T hTT).2.1⟩⟩,j⟩
end
abbrev cxX(P:Program)(w:World)(K:Af)(mg:Str->Option Value)(base:Heap)(N:List Str)(qual:Str)(scope:Scope)(f:Addr)(cd:Value)(A:Around)(outer:List Env)(s:Ag)(H:Hp)(E:XK):Cx :=
 (cxOf (CXR P w) P w K mg base N qual scope f cd A outer s H E).wish (XE (cxOf (CXR P w) P w K mg base N qual scope f cd A outer s H E) fun ea _ H'=>E (.ref ea) none H')
section
variable{P:Program}{w:World}{K:Af}{mg:Str->Option Value}{base:Heap}
theorem accX:AccX (cxX P w K mg base N qual scope f cd A outer s H E) fun ea _ H'=>E (.ref ea) none H':=AccX.of
theorem passDef:Nk (model P w) (A.deeper (Fy qual scope s.heap.objs.size f cd)) (Fy qual scope s.heap.objs.size f cd) (cxX P w K mg base N qual scope f cd A outer s H E).xe :=
 passX rfl rfl
theorem Fun.okX{st:Stmt}(F:Fun K x qual st f fd)(S:FnScope N ps (defScope st))(len:∀vs H Q E,sp vs H Q E->vs.length=ps.length)(hbody:∀(cdv:Value) (A:Around) (outer:List Env) (s:Ag) (H:Hp) (vs:List V) (Q:VK) (E:XK),Room k (A.deeper (Fy qual (defScope st) s.heap.objs.size f cdv))->sp vs H Q E ->
   ∃t,PSs (cxX P w K mg base N qual (defScope st) f cdv A outer s H E) (defBody st) t/\t { nx:=fun _ H'=>Q .non H',rt:=Q } (start N vs) H):FnOk P w K mg base (CXR P w) (k+1) f fd ps sp:=by
 obtain⟨oc,od,kV,doc,pm,an,cdv,ct,osl,rfl,lk,hcd⟩:=F.ex;refine fn_of lk hcd S len fun A outer s H vs Q E hr hsp=>?_
 obtain⟨t,h,q⟩:=hbody cdv A outer s H vs Q E hr hsp;exact⟨t,PSs.wishX (fun e s' z=>leaves z) h,q⟩
structure CalX (P:Program) (w:World) (K:Af) (mg:Str->Option Value) (base:Heap) (x:Str) (k:Nat) (ps:List Str) (sp:Sp):Prop where
 ex:∃f fd,FnOk P w K mg base (CXR P w) k f fd ps sp/\mg x=some (.ref f)/\Eo K (.ref f)=true/\Binds K fd ps []
theorem Df.calX{st:Stmt}(D:Df K mg x st ps)(S:FnScope N ps (defScope st))(len:∀vs H Q E,sp vs H Q E->vs.length=ps.length)(hbody:∀(f:Addr) (cdv:Value) (A:Around) (outer:List Env) (s:Ag) (H:Hp) (vs:List V) (Q:VK) (E:XK),Room k (A.deeper (Fy x (defScope st) s.heap.objs.size f cdv))->sp vs H Q E ->
   ∃t,PSs (cxX P w K mg base N x (defScope st) f cdv A outer s H E) (defBody st) t/\t { nx:=fun _ H'=>Q .non H',rt:=Q } (start N vs) H):CalX P w K mg base x (k+1) ps sp:=by
 obtain⟨f,fd,F,hm,hb⟩:=D.ex;exact⟨f,fd,F.okX S len fun cdv A outer s H vs Q E hr h=>hbody f cdv A outer s H vs Q E hr h,hm,F.kp,hb⟩
end
section
variable{X:Cx}{J:Addr->St->Hp->Prop}{k j:Nat}{f:Addr}{fd:Ib}{ps:List Str}{sp:Sp}{x:Str}{p pos:Pos}{e:Expr}{es:List Expr}{t:TA}
def tCallX(sp:Sp)(J:Addr->St->Hp->Prop)(t:TA):TE:=fun σ H Q=>t σ H fun vs H1=>sp vs H1 Q fun e _ H'=>∀ea,e=.ref ea->J ea σ H'
theorem x0o{σ:St}(F:FnOk X.prog X.w X.K X.mg X.base (CXR X.prog X.w) k f fd ps sp)(hr:Room k X.A)(hb:Binds X.K fd ps [])(hx:AccX X J)(I:Inv X pins σ H s)(r:Vals vs us)(h:sp vs H Q fun e _ H'=>∀ea,e=.ref ea->J ea σ H'):wpAny (model X.prog X.w) X.A (call (.ref f) us) (EP X pins σ Q) X.xe s:=by
 have hl:(us++[]).length=ps.length:=by rw[Dd,<- r.length];exact F.len _ _ _ _ h
 have hb':=hb s us I.kIn hl;rw[Dd] at hb';refine Et (Gj (F.run X.A X.stack s H ⟨us,[]⟩ us vs Q _ hr I.env0 hb' r h) fun r s' hq=>?_);cases r with
 |error e =>
  obtain⟨ea,H',rfl,os,bare,un,hok,hnew,hat,⟨oe,ws,he,hd,ht,hT⟩,j⟩:=hq;have I':=I.call' os un hok bare fun b z=>absurd z (by simp)
  refine hx.acc _ _ ⟨pins,σ,H',ea,rfl,I',⟨hat,⟨oe,ws,he,hd,?_,fun T hTT=>?_⟩,Aw I.sz hnew⟩,j ea rfl⟩
  ·rcases ht with z|⟨T,z⟩
   ·exact .inl z
   ·exact .inr ⟨T,.inl z⟩
  ·obtain⟨a1,a2⟩:=hT T hTT;refine⟨Aw I.sz a1,a2,fun z=>absurd I.lt (Gd.mpr (z▸a1)),fun y c hy z=>?_,fun q hq z=>?_⟩
   ·obtain⟨v,o,ho,_⟩:=I.cell y c hy;exact absurd (An ho) (Gd.mpr (z▸a1))
   ·obtain⟨ho,_⟩:=I.pin q hq;exact absurd (An ho) (Gd.mpr (z▸a1))
 |ok fl =>
  cases fl with
  |ret u=>exact I.after hq
  |next=>exact False.elim hq
  |brk=>exact False.elim hq
  |cont=>exact False.elim hq
theorem q1z(C:CalX X.prog X.w X.K X.mg X.base x k ps sp)(hr:Room j X.A)(hx:AccX X J)(ha:PA X (e::es) t)(hjk:k<=j:=by decide)(hg:Gl X x:=by rfl)(hdb:(x==("__debug__" : Str))=false:=by decide)(he:Ay (e::es) X.env=(false,eval e X.env)::Ay es X.env:=by rfl)(hpl:(Fp pos (Ay es X.env)).any (·.1)=false:=by rfl):
  PE X (.Call (.Name x p) (e::es) [] pos) (tCallX sp J t):=by
 obtain⟨f,fd,F,hm,hk,hb⟩:=C.ex;intro pins s σ H Q I h;refine Ea (q2v I hg hm ?_ hdb);refine Ks I.ok.mod.kin hk (thn (ha pos pins s σ H _ I h) fun us s1 ⟨vs,H1,I1,r,q⟩=>⟨I1.kIn,?_⟩) he hpl;exact x0o F (hr.mono hjk) hb hx I1 r q
end
open PySem PySem.Spec PyProof.Rows
structure ECls (K:Af) (C:Addr) (bm:List Value):Prop where
 ex:∃nm q N bs hdct sn sub ab col dd k0 k1 k2 k3 k5 newId,K.lookup C=some (Ce nm q C N bs bm hdct sn sub ab col dd k0 k1 k2 k3 k5 newId)
 base:bm.contains (.type "BaseException")=true
section
variable{M:Model}{A:Around}{E:Value->Ag->Prop}{h:Heap}{g:Array Kx}{d:Drawn}{t:Nat}{os:Ih}
variable{nm q:Str}{C N:Addr}{bs bm:List Value}{hdct:Bool}{sn:List Str}{sub:List Value}{ab:Bool}{col:Option Bool}{dd:Option Addr}{k0 k1 k2 k3 k5:Option Value}{newId:String}
variable{nm' q':Str}{D N':Addr}{bs' bm':List Value}{hdct':Bool}{sn':List Str}{sub':List Value}{ab':Bool}{col':Option Bool}{dd':Option Addr}{k0' k1' k2' k3' k5':Option Value}{newId':String}
theorem excMatchX(hC:h.get? C=some (Ce nm q C N bs bm hdct sn sub ab col dd k0 k1 k2 k3 k5 newId))(hD:h.get? D=some (Ce nm' q' D N' bs' bm' hdct' sn' sub' ab' col' dd' k0' k1' k2' k3' k5' newId'))(he:h.get? e=some oe)(hcls:oe.cls=.ref C)(hbase:bm'.contains (.type "BaseException")=true)(hq:Q ((Value.ref C::bm).contains (.ref D)) ⟨h,g,d,t,os⟩):wpAny M A (excMatches (.ref e) (.ref D)) Q E ⟨h,g,d,t,os⟩:=by
 have hcB:(Value.ref D::bm').contains (.type "BaseException")=true:=by grind
 have f:=tc_notTuple;repeat (first|(with_reducible refine Cz he ?_;rw[hcls])|with_reducible refine Cz hD ?_|(with_reducible refine Fu hD ?_;rw[hcB])|(with_reducible refine Fu hC ?_)|wp_step)
 cases hb:(Value.ref C::bm).contains (.ref D)<;>(rw[hb] at hq;wp_walk;exact hq)
end
section
variable{X:Cx}{pins:List (Addr×Obj)}{σ:St}{H:Hp}{s:Ag}
theorem q8k(I:Inv X pins σ H s)(hN:X.N.Nodup)(hi:X.N[i]?=some x)(hk:X.env.scope.names.lookup x=some .local)(h:∀s',Inv X pins (σ.set i none) H s'->Q () s'):wpAny M A (do bindName X.env x .none;unbindBehindTheSuite X.env x pos) Q E s:=by
 obtain⟨m,hn,hl⟩:=id I.loc;have hcls:(X.env.scope.kind==.class||(X.env.scope.kind==.module&&X.env.locals != X.env.globals))=false:=by rw[I.ok.kind];rfl
 have hiσ:i<σ.length:=by rw[I.len];exact(Ak.mp hi).1
 have cne:=I.cne;have tracked:∀{a:Addr} {h':Heap},(∃o,s.heap.get? a=some o/\H a=none)->Gh a s.heap h'->HOk X.prog X.w H h':=fun{a h'} ha hs b ob e=>by
  refine(I.hok b ob e).stay (fun c w' hc q=>(hs.2 c ?_).trans q) (fun _ q=>q) fun _ _ q=>q;rcases hc with rfl|hc
  ·grind
  ·grind
 refine wpAny_nameGoes_keeps hk hn hcls fun h' v hn' hs=>?_;obtain⟨oL,_,_,hoL,_⟩:=id hn;refine h _ ⟨I.ok,I.os,I.bare,⟨fun b o e n hb hx=>?_,fun b o e n hb hx=>?_,I.base.free,fun b o e hx=>?_,I.base.tups,I.base.frzs,I.base.tbls⟩,⟨_,hn',fun j y v' e1 e2 e3=>?_⟩,fun y c e=>?_,I.free,I.freeC,fun p hp=>?_,tracked ⟨oL,hoL,I.free⟩ hs,by simpa using I.len⟩
 ·exact(hs.2 b (By (Bb (An e) I.ok.above))).trans (I.base.keep b o e n hb hx)
 ·obtain⟨sl,e1⟩:=I.base.slot b o e n hb hx;exact⟨sl,(hs.2 b (By (Bb (An e) I.ok.above))).trans e1⟩
 ·obtain⟨o',e1⟩:=I.base.there b o e hx;exact⟨o',(hs.2 b (By (Bb (An e) I.ok.above))).trans e1⟩
 ·by_cases hj:j=i
  ·simp_all
  ·rw[Ik (Cu hj)] at e2;obtain⟨u',r',q⟩:=hl j y v' e1 e2 e3;refine⟨u',r',?_⟩;rcases q with⟨k,e⟩|⟨k,c,e,z⟩
   ·refine .inl ⟨k,?_⟩;have:y≠x:=fun e=>hj (q7w hN e1 (e▸hi));simp[this,e]
   ·exact .inr ⟨k,c,e,z.sameBut hs (cne y c e)⟩
 ·obtain⟨w',z⟩:=I.cell y c e;exact⟨w',z.sameBut hs (cne y c e)⟩
 ·obtain⟨e,n,ne,nf,d⟩:=I.pin p hp;exact⟨(hs.2 p.1 ne).trans e,n,ne,nf,d⟩
abbrev Cx.pinned(X:Cx)(pn:List (Addr×Obj)):Cx:={ X with pn:=pn }
theorem Cx.Ok.pinned{pn:List (Addr×Obj)}(ok:X.Ok):(X.pinned pn).Ok:=⟨ok.mod,ok.kind,ok.glob,ok.blt,ok.above,ok.inj,ok.has,ok.cab,ok.hd,ok.frames,ok.stk,ok.exf,ok.bs,ok.bsz,ok.noex,ok.exfs,ok.funs,ok.frf⟩
theorem Cx.Ok.unpin{pn:List (Addr×Obj)}(ok:(X.pinned pn).Ok):X.Ok:=⟨ok.mod,ok.kind,ok.glob,ok.blt,ok.above,ok.inj,ok.has,ok.cab,ok.hd,ok.frames,ok.stk,ok.exf,ok.bs,ok.bsz,ok.noex,ok.exfs,ok.funs,ok.frf⟩
theorem Inv.toPn(I:Inv X pins σ H s):Inv (X.pinned (X.pn++pins)) [] σ H s:=⟨I.ok.pinned,I.os,I.bare,I.base,I.loc,I.cell,I.free,I.freeC,fun p hp=>I.pin p (by simpa using hp),I.hok,I.len⟩
theorem Inv.ofPn(I:Inv (X.pinned (X.pn++pins)) pins' σ H s):Inv X pins σ H s:=⟨I.ok.unpin,I.os,I.bare,I.base,I.loc,I.cell,I.free,I.freeC,fun p hp=>I.pin p (Dh _ hp),I.hok,I.len⟩
theorem FlX.ofPn(F:FlX (X.pinned (X.pn++pins)) pins' H s e):FlX X pins H s e:=by
 obtain⟨oe,vs,h1,h2,h3,h4⟩:=F.tb;exact⟨F.at_,⟨oe,vs,h1,h2,h3,fun T hT=>let ⟨a,b,c,d,f⟩:=h4 T hT;⟨a,b,c,d,fun p hp=>f p (Dh _ hp)⟩⟩,F.new⟩
abbrev Cx.hand(X:Cx)(e:Addr):Cx:={ X with A:=X.A.mark (some (.ref e)),calm:=false,xe:=fun _ _=>False }
theorem Cx.Ok.hand(ok:X.Ok):(X.hand e).Ok:=⟨ok.mod,ok.kind,ok.glob,ok.blt,ok.above,ok.inj,ok.has,ok.cab,(fun z=>by cases z),ok.frames,ok.stk,ok.exf,ok.bs,ok.bsz,ok.noex,ok.exfs,ok.funs,ok.frf⟩
theorem Inv.hand(I:Inv X pins σ H s)(e:Addr):Inv (X.hand e) pins σ H s:=⟨I.ok.hand,I.os,I.bare,I.base,I.loc,I.cell,I.free,I.freeC,I.pin,I.hok,I.len⟩
theorem Inv.unhand(I:Inv (X.hand e) pins σ H s)(ok:X.Ok):Inv X pins σ H s:=⟨ok,I.os,I.bare,I.base,I.loc,I.cell,I.free,I.freeC,I.pin,I.hok,I.len⟩
def SubX(K:Af)(C:Value)(D:Addr):Prop:=∃c bm,C=.ref c/\ECls K c bm/\(Value.ref c::bm).contains (.ref D)=true
def gone(i:Nat)(D:Ends):Ends:=⟨fun σ H=>D.nx (σ.set i none) H,D.rt,fun σ H=>D.bk (σ.set i none) H,fun σ H=>D.ct (σ.set i none) H⟩
end
open PySem PySem.Spec PyProof.Rows
section
variable{prog:Program}{w:World}{A:Around}{E:Value->Ag->Prop}{h:Heap}{g:Array Kx}{d:Drawn}{t:Nat}{os:Ih}
variable{nm q:Str}{C N:Addr}{bs bm bmB:List Value}{hdct:Bool}{sn:List Str}{sub:List Value}{ab:Bool}{col:Option Bool}{dd:Option Addr}{k0 k1 k2 k3 k5:Option Value}{B newId initId:String}
theorem q4a(F:Ja B newId initId bmB)(T:Jk h bmB bm){rest:List Value}(hC:h.get? C=some (Ce nm q C N bs bm hdct sn sub ab col dd k0 k1 k2 k3 k5 newId))(hn:h.Ns N mN)(hi:mN "__init__" = some (.ref fI))(hfI:h.get? fI=some oI)(hfc:oI.cls=.type "function")(hq:∀h' e,Jl h h' e (.ref C) rest->h.objs.size<=e ->
   wpAny (model prog w) A (call (.ref fI) (.ref e::rest)) (fun r s'=>r=.none/\Q (.done (.ret (.ref e))) s') E ⟨h',g,d,t,os⟩)(hrest:rest.length<=sizeLine:=by size_fits):
  wpAny (model prog w) A (Dz.«type.__call__» ⟨.ref C::rest,[]⟩) Q E ⟨h,g,d,t,os⟩:=by
 repeat (first|with_reducible refine Cz hC ?_|with_reducible refine wpAny_madeBy_exc hC ?_|wp_step)
 refine Kj (Gb _ F.quiet) (Mr F T hC ?_);refine Ms F T hC ?_ hrest;have hC₁:=Ad { cls:=.ref C,data:=.fields #[.ref h.objs.size,.none,.none,.none,.bool false,.none] }
  (Ad { cls:=.type "tuple",data:=.seq rest.toArray } hC)
 have hfI₁:=Ad { cls:=.ref C,data:=.fields #[.ref h.objs.size,.none,.none,.none,.bool false,.none] }
  (Ad { cls:=.type "tuple",data:=.seq rest.toArray } hfI)
 have hn₁:((h.push { cls:=.type "tuple",data:=.seq rest.toArray }).push { cls:=.ref C,data:=.fields #[.ref h.objs.size,.none,.none,.none,.bool false,.none] }).Ns N mN :=
  let ⟨o,es,ep,e,r⟩:=hn;⟨o,es,ep,Ad _ (Ad _ e),r⟩
 have hget:((h.push { cls:=.type "tuple",data:=.seq rest.toArray }).push
   { cls:=.ref C,data:=.fields #[.ref h.objs.size,.none,.none,.none,.bool false,.none] }).get? (h.objs.size+1)=some
   { cls:=.ref C,data:=.fields #[.ref h.objs.size,.none,.none,.none,.bool false,.none] }:=by heap_get
 have T₁:=T.keeps (h':=(h.push { cls:=.type "tuple",data:=.seq rest.toArray }).push { cls:=.ref C,data:=.fields #[.ref h.objs.size,.none,.none,.none,.bool false,.none] })
  fun b o e=>Ad _ (Ad _ e)
 have hcC:(Value.ref C::bm).contains (.ref C)=true:=by simp
 repeat (first|with_reducible refine Cz hget ?_|(with_reducible refine Fu hC₁ ?_;rw[hcC])|wp_step)
 refine Me hC₁ hn₁ T₁ F.mroIs F.init.lookup ?_;rw[hi];refine Dp (Ac ?_);refine Ac (wpAny_typeOf ⟨_,hfI₁,hfc⟩ ?_);refine Aj (Ac (Cc (hq _ (h.objs.size+1) ⟨fun b o hb=>Ad _ (Ad _ hb),Fi (Hc _),h.objs.size,hget,Fi (Ah _),?_⟩ (Hc _)) (fun r s' hr=>?_) fun _ _ x=>x))
 ·exact Ad _ (Of rfl rfl)
 ·obtain⟨rfl,hQ⟩:=hr
  wp_walk
  exact hQ
theorem q7d(F:Ja B newId initId bmB)(T:Jk h bmB bm){rest:List Value}(hC:h.get? C=some (Ce nm q C N bs bm hdct sn sub ab col dd k0 k1 k2 k3 k5 newId))(hn:h.Ns N mN)(hi:mN "__init__" = some (.ref fI))(hfI:h.get? fI=some oI)(hfc:oI.cls=.type "function")(hq:∀h' e,Jl h h' e (.ref C) rest->h.objs.size<=e ->
   wpAny (model prog w) (A.under (.builtin "type.__call__" ⟨.ref C::rest,[]⟩)) (call (.ref fI) (.ref e::rest)) (fun r s'=>r=.none/\Q (.ref e) s') E ⟨h',g,d,t,os⟩)(hrest:rest.length<=sizeLine:=by size_fits):
  wpAny (model prog w) A (call (.ref C) rest) Q E ⟨h,g,d,t,os⟩:=by
 have f1:=tc_lookup;have f2:=tc_bind (.ref C);refine Et (Lk ?_);repeat (any_goals (first|assumption|with_reducible refine Cz hC ?_|wp_step))
 refine⟨rfl,?_⟩;refine Lb (Gb _ (by decide +kernel)) entry_typeCall (Kk hC (q4a F T hC hn hi hfI hfc fun h' e hm hle=>?_));exact hq h' e hm hle
theorem raiseX(hbase:bm.contains (.type "BaseException")=true)(hh:A.handled=none)(h:wpAny M A x (fun v s₁=>∃e de vs sl,v=.ref e/\s₁.heap.get? C=some (Ce nm q C N bs bm hdct sn sub ab col dd k0 k1 k2 k3 k5 newId) /\
   s₁.heap.get? e=some { cls:=.ref C,dict:=de,data:=.fields vs,slots:=sl }/\vs[1]?=some .none/\E (.ref e) s₁) E s):
  wpAny M A (raiseStmt env (some x) none) Q E s:=by
 have hcB:(Value.ref C::bm).contains (.type "BaseException")=true:=by grind
 refine Ac (Cc h (fun v s₁ h₁=>?_) fun _ _ x=>x);obtain⟨e,de,vs,sl,rfl,hC,he,h1,hE⟩:=h₁;repeat (first|with_reducible refine Cz he ?_|with_reducible refine Cz hC ?_|(with_reducible refine Fu hC ?_;rw[hcB])|(with_reducible refine Bm he rfl h1 ?_)|wp_step)
 exact wpAny_raiseNew_none hh hE
end
open PySem PySem.Spec PyProof.Rows
def ExN(C:Value)(dd:Option Addr)(e:Addr):HO:=.ext fun h=>∃vs sl,h.get? e=some { cls:=C,dict:=dd,data:=.fields vs,slots:=sl }/\vs.size=6/\vs[1]?=some .none
abbrev bmV:List Value:=[.type "ValueError",.type "Exception",.type "BaseException",.type "object"]
structure EMk (K:Af) (C fI:Addr) (bm:List Value):Prop where
 ex:∃nm q N bs hdct sn sub ab col dd k0 k1 k2 k3 k5 mN,K.lookup C=some (Ce nm q C N bs bm hdct sn sub ab col dd k0 k1 k2 k3 k5 "ValueError.__new__")/\(∀h:Heap,K.In h->h.Ns N mN)/\mN "__init__" = some (.ref fI)
 tail:∀h:Heap,K.In h->Jk h bmV bm
 fn:∃oI,K.lookup fI=some oI/\oI.cls=.type "function"
 kp:Eo K (.ref C)=true
theorem EMk.base{K:Af}(M:EMk K C fI bm)(KX:K.In h):bm.contains (.type "BaseException")=true:=(M.tail h KX).hasType (by decide)
section
variable{X:Cx}{pins:List (Addr×Obj)}{σ:St}{H:Hp}{s:Ag}{e:Addr}
theorem Inv.asO(I:Inv X pins σ H s)(h:H e=some (ExN C dd e)):Inv X pins σ (upd H e (ExO C dd e)) s:=by
 have un:Un (frs X.stack) [] H (upd H e (ExO C dd e)) s.heap s.heap:=by
  have hk:∀{b:Addr} {o:HO},H b=some o->b≠e\/o=ExN C dd e:=fun{b o} hb=>by
   by_cases z:b=e
   ·grind
   ·exact .inl z
  refine⟨fun b o hb _ _ _=>hb,fun b o hb _ _ _=>⟨o.slots,hb⟩,fun b o _ n _=>?_,fun b o hb _=>⟨o,hb⟩,fun b xs q=>?_,fun b o u q=>?_,fun b ps q=>⟨#[],?_⟩⟩
  ·rw[q0l (fun z=>by rw[z,h] at n;cases n)];exact n
  ·rcases hk q with z|z
   ·rw[q0l z];exact q
   ·cases z
  ·rcases hk q with z|z
   ·rw[q0l z];exact q
   ·cases z
  ·rcases hk q with z|z
   ·rw[q0l z,q];simp
   ·cases z
 have hok:HOk X.prog X.w (upd H e (ExO C dd e)) s.heap:=fun a o ha=>by
  by_cases z:a=e
  ·subst z;rw[q0d] at ha;cases ha;obtain⟨⟨vs,sl,q1,q2,_⟩,q3,_⟩:=I.hok a _ h;exact⟨⟨vs,sl,q1,q2⟩,q3,fun h1 h2 ⟨ws,sl,k1,k2⟩ k=>⟨ws,sl,k _ k1,k2⟩⟩
  ·rw[q0l z] at ha;refine(I.hok a o ha).stay (fun b u _ q=>q) (fun b q=>?_) fun b xs q=>?_
   ·rw[q0l (fun y=>by rw[y,h] at q;cases q)];exact q
   ·rw[q0l (fun y=>by rw[y,h] at q;cases q)];exact q
 exact I.call' (s':=s) rfl un hok I.bare fun b z=>absurd z (by simp)
def tRaise(C:Addr)(sp:Sp)(J:Addr->St->Hp->Prop)(t:TA):TS:=fun _ σ H=>t σ H fun vs H1=>∀ea,H1 ea=none ->
 sp (.ref ea::vs) (upd H1 ea (ExN (.ref C) none ea)) (fun v H2=>v=.non/\∃dd,H2 ea=some (ExN (.ref C) dd ea)/\J ea σ (upd H2 ea (ExO (.ref C) dd ea))) E0
theorem z7z{np cpos pos:Pos}(M:EMk X.K C fI bm)(F:FnOk X.prog X.w X.K X.mg X.base CX0 k fI fd ps sp)(hr:Room (k+1) X.A)(hb:Binds X.K fd ps [])(hx:AccX X J)(hc:X.calm=true)(hg:Gl X x)(hm:X.mg x=some (.ref C))(ha:PA X (e₀::es) t)(hps:ps.length<=100:=by decide)(hdb:(x==("__debug__" : Str))=false:=by decide)(he:Ay (e₀::es) X.env=(false,eval e₀ X.env)::Ay es X.env:=by rfl)(hpl:(Fp cpos (Ay es X.env)).any (·.1)=false:=by rfl):
  PS X (.Raise (some (.Call (.Name x np) (e₀::es) [] cpos)) none pos) (tRaise C sp J t):=by
 intro pins s σ H D I h;obtain⟨nm,q,N,bs,hdct,sn,sub,ab,col,dd,k0,k1,k2,k3,k5,mN,lk,hN,hi⟩:=M.ex;obtain⟨oI,lkI,hfc⟩:=M.fn;have key:wpAny (model X.prog X.w) X.A (eval (.Call (.Name x np) (e₀::es) [] cpos) X.env) (fun v s₁=>∃e de vs sl,v=.ref e/\s₁.heap.get? C=some (Ce nm q C N bs bm hdct sn sub ab col dd k0 k1 k2 k3 k5 "ValueError.__new__") /\
   s₁.heap.get? e=some { cls:=.ref C,dict:=de,data:=.fields vs,slots:=sl }/\vs[1]?=some .none/\X.xe (.ref e) s₁) X.xe s:=by
  refine Ea (q2v I hg hm ?_ hdb);refine Ks I.ok.mod.kin M.kp (thn (ha cpos pins s σ H _ I h) fun us s1 ⟨vs,H1,I1,r,hq⟩=>⟨I1.kIn,?_⟩) he hpl;obtain⟨hp,g,dr,tk,os⟩:=s1;have KX:=I1.kIn;have hlen:us.length<=sizeLine:=by
   have hh:=F.len _ _ _ _ (hq hp.objs.size (I1.hok.fresh (Ah _)));rw[Be] at hh;rw[<- r.length,Es];lia
  refine q7d Ha (M.tail hp KX) (KX _ _ lk) (hN hp KX) hi (KX _ _ lkI) hfc fun h' e hme hle=>?_;have hfree:=I1.hok.fresh hle;obtain⟨t0,hrec,_,_⟩:=hme.there;have I2:Inv X pins σ (upd H1 e (ExN (.ref C) none e)) ⟨h',g,dr,tk,os⟩:=I1.laid (h':=h') (t':=tk) (fun b u q=>hme.keeps b u q) hle ⟨⟨_,_,hrec,rfl,rfl⟩,⟨_,hrec⟩,fun h1 h2 ⟨ws,sl,k1,k2⟩ k=>⟨ws,sl,k _ k1,k2⟩⟩;have hq':=hq e hfree;have r2:Vals (V.ref e::vs) (Value.ref e::us):=.cons rfl r;have hl:((Value.ref e::us)++[]).length=ps.length:=by rw[Dd,<- r2.length];exact F.len _ _ _ _ hq'
  have hb':=hb ⟨h',g,dr,tk,os⟩ (Value.ref e::us) I2.kIn hl;rw[Dd] at hb';refine Et (Gj (F.run _ X.stack _ _ ⟨Value.ref e::us,[]⟩ (Value.ref e::us) _ _ _ (hr.make C us []) (I2.env0.make C us []) hb' r2 hq') fun r s' hz=>?_);cases r with
  |error e=>exact hz.elim
  |ok fl =>
   cases fl with
   |ret u =>
    obtain⟨v,H',I3,rv,ev,de,hE,j⟩:=I2.after hz;subst ev;refine⟨rv,?_⟩;obtain⟨⟨ws,sl,q1,q2,q3⟩,_,_⟩:=I3.hok e _ hE;refine⟨e,de,ws,sl,rfl,I3.kIn _ _ lk,q1,q3,hx.acc _ _ ⟨pins,σ,_,e,rfl,I3.asO hE,⟨⟨_,_,q0d⟩,⟨_,ws,q1,rfl,.inl q3,fun T hT=>?_⟩,Aw I1.sz hle⟩,j⟩⟩;rw[q3] at hT;cases hT
   |next=>exact False.elim hz
   |brk=>exact False.elim hz
   |cont=>exact False.elim hz
 have hbase:=M.base I.kIn;first
  |exact Ac (Co (raiseX hbase (I.ok.hd hc) (Ac (Cc key (fun v s₁ z=>Ac (Co (Aj z))) fun _ _ z=>z))))
  |(simp only[evalOpt,Option.map];exact Ac (Co (raiseX hbase (I.ok.hd hc) (Ac (Cc key (fun v s₁ z=>Ac (Co (Aj z))) fun _ _ z=>z)))))
  |exact Ac (Co (raiseX hbase (I.ok.hd hc) key))
end
open PySem PySem.Spec PyProof.Rows
section
variable{prog:Program}{w:World}{A:Around}{R:Result->Ag->Prop}{h:Heap}{g:Array Kx}{d:Drawn}{t:Nat}{os:Ih}
variable{nm q:Str}{C N:Addr}{bs bm bmB:List Value}{hdct:Bool}{sn:List Str}{sub:List Value}{ab:Bool}{col:Option Bool}{dd:Option Addr}{k0 k1 k2 k3 k5:Option Value}{B newId initId:String}
theorem z0g(F:Ja B newId initId bmB)(T:Jk h bmB bm){rest:List Value}(hC:h.get? C=some (Ce nm q C N bs bm hdct sn sub ab col dd k0 k1 k2 k3 k5 newId))(he:h.get? e=some { cls:=.ref C,dict:=de,data:=.fields vs,slots:=sl })(hs:vs.size=6)(hrest:rest.length<=sizeLine)(hq:R (.ok (.ret .none)) ⟨(h.push { cls:=.type "tuple",data:=.seq rest.toArray }).update e (Em (·.setIfInBounds 0 (.ref h.objs.size))),g,d,t,os⟩):
  Hm (model prog w) A (.call (.builtin initId) ⟨.ref e::rest,[]⟩) R ⟨h,g,d,t,os⟩:=by
 refine Ej F.init.plain F.initEntry (wpAny_check_init_subT F T hC he rfl ?_);have he2:=Ad { cls:=.type "tuple",data:=.seq rest.toArray } he
 wp_walk
 have h0:vs[(0:Nat)]?=some (vs[0]'(by lia)):=Array.getElem?_eq_getElem (by lia);rw[h0];refine Aj (Ac (Hn he2 rfl (by lia) ?_));generalize vs[0]'(by lia)=v0;cases v0<;>(wp_walk;exact hq)
end
theorem upd_id(h:H a=some o):upd H a o=H:=by
 funext b;by_cases z:b=a
 ·rw[z,q0d,h]
 ·rw[q0l z]
structure ELow (K:Af) (C:Addr) (bm:List Value):Prop where
 ex:∃nm q N bs hdct sn sub ab col dd k0 k1 k2 k3 k5,K.lookup C=some (Ce nm q C N bs bm hdct sn sub ab col dd k0 k1 k2 k3 k5 "ValueError.__new__")
 tail:∀h:Heap,K.In h->Jk h bmV bm
theorem EMk.low{K:Af}(M:EMk K C fI bm):ELow K C bm:=by
 obtain⟨nm,q,N,bs,hdct,sn,sub,ab,col,dd,k0,k1,k2,k3,k5,mN,lk,_⟩:=M.ex;exact⟨⟨nm,q,N,bs,hdct,sn,sub,ab,col,dd,k0,k1,k2,k3,k5,lk⟩,M.tail⟩
structure EIni (K:Af) (D:Addr) (mc:Value):Prop where
 sp:Hv K (.ref D) "__getattribute__" = some (some (.builtin "type.__getattribute__"))
 rd:W.readsIn K D mc=true
 fc:W.findCls K (.ref D) mc "__init__" = some (.val (.builtin "ValueError.__init__"))
section
variable{X:Cx}{x:Str}{p pos apos:Pos}{a b:Expr}{t:TA}{C D:Addr}{bm:List Value}{mc:Value}
def tIni(C:Addr)(t:TA):TE:=fun σ H Q=>t σ H fun vs H1=>∃ea v de,vs=[.ref ea,v]/\H1 ea=some (ExN (.ref C) de ea)/\Q .non H1
theorem z9g{pl:Sem Bool}(L:ELow X.K C bm)(N:EIni X.K D mc)(hg:Gl X x)(hm:X.mg x=some (.ref D))(ha:PA X [a,b] t)(hdb:(x==("__debug__" : Str))=false:=by decide)(hst:Ay [a,b] X.env=(false,eval a X.env)::Ay [b] X.env:=by rfl)(hpl:(Fp pos (Ay [b] X.env)).any (·.1)=false:=by rfl)(ht:eval (.Call (.Attribute (.Name x p) "__init__" apos) [a,b] [] pos) X.env=(do
   let ov<-eval (.Name x p) X.env
   Pm apos.atName
   let (f,first)<-Kl [ov] (getMethod ov "__init__" pl)
   callWith pos f first (Fp pos (Ay [a,b] X.env)) (backToKw pos (Oj [] X.env))):=by rfl):
  PE X (.Call (.Attribute (.Name x p) "__init__" apos) [a,b] [] pos) (tIni C t):=by
 intro pins s σ H Q I h;refine W.methodCall_KW (q2v I hg hm ?_ hdb) ht;refine W.method_cls I.kIn N.sp (W.cls_value I.kIn N.rd N.fc rfl ?_);refine Io (thn (ha pos pins _ σ H _ (I.tok _) h) fun us s1 ⟨vs,H1,I1,r,ea,v,de,ev,hE,q⟩=>?_) hst hpl;subst ev;obtain⟨u1,u2,rfl,ru,rv⟩:=r.two;obtain rfl:u1=Value.ref ea:=ru;obtain⟨hp,g,dr,tk,os⟩:=s1;obtain⟨nm,q0,N0,bs,hdct,sn,sub,ab,col,dd,k0,k1,k2,k3,k5,lk⟩:=L.ex;obtain⟨⟨ws,sl,q1,q2,q3⟩,_,_⟩:=I1.hok ea _ hE;refine Et (z0g Ha (L.tail hp I1.kIn) (I1.kIn _ _ lk) q1 q2 (by show 1<=sizeLine;decide) ?_);have q1':=Ad { cls:=.type "tuple",data:=.seq #[u2] } q1;have hrec:=Dl (Em (·.setIfInBounds 0 (Value.ref hp.objs.size))) q1' rfl;have I2:=I1.write (o:=ExN (.ref C) de ea) (t':=tk) (h':=(hp.push { cls:=.type "tuple",data:=.seq #[u2] }).update ea (Em (·.setIfInBounds 0 (Value.ref hp.objs.size)))) (by rw[hE];exact trivial) (.inl rfl)
  (fun b u hb hu=>by rw[Bz _ _ (Cu hb)];exact Ad _ hu) ⟨_,hrec⟩
  ⟨⟨ws.setIfInBounds 0 (.ref hp.objs.size),sl,hrec,by simpa using q2,by rw[Array.getElem?_setIfInBounds_ne (by decide)];exact q3⟩,⟨_,hrec⟩,fun h1 h2 ⟨ws,sl,k1,k2⟩ k=>⟨ws,sl,k _ k1,k2⟩⟩
 rw[upd_id hE] at I2;exact⟨.non,H1,I2,rfl,q⟩
end
open PySem PySem.Spec PyProof.Rows
def ExMro(l:List Value):Prop:=∃rs:List Addr,l=rs.map Value.ref++bmV
theorem z3z(self:Value):Pk self "__setattr__" bmV=pure ():=by kernel_rfl
theorem z5z(self:Value)(h:ExMro l):Pk self "__setattr__" l=pure ():=by
 obtain⟨rs,rfl⟩:=h;induction rs with
 |nil=>exact z3z self
 |cons c r ih=>show Pk self "__setattr__" (.ref c::(r.map Value.ref++bmV))=_;rw[refuseLoop_ref];exact ih
theorem q7r(h:ExMro l):l.contains (.type "object")=true/\l.isEmpty=false:=by
 obtain⟨rs,rfl⟩:=h;refine⟨?_,?_⟩
 ·induction rs with
  |nil=>decide
  |cons c r ih=>show(Value.ref c::(r.map Value.ref++bmV)).contains _=true;rw[Ex,ih,Jb]
 ·cases rs<;>rfl
structure ESet (K:Af) (C:Addr) (f:Str):Prop where
 cls:∃cd,Ii K C=some cd/\ExMro cd.mro/\cd.hasDict=true
 sa:Bu K (.ref C) "__setattr__" = some (some (.builtin "object.__setattr__"))
 tk:Bu K (.ref C) f=some none
section
variable{prog:Program}{w:World}{A:Around}{R:Result->Ag->Prop}{s:Ag}{K:Af}{x C:Addr}
theorem z0h(X:K.In s.heap)(I:Ic s.heap x ox C od)(S:ESet K C name)(h:wpAny (model prog w) A.in1 (Dz.ObjectAttr.storeInOwnDict (.ref x) (.ref C) (.str name tk) name v false)
   (fun fin s'=>match fin with|.done f=>R (.ok f) s'|.again c'=>c'.quiet=true/\Hm (model prog w) A c' R s') (fun e s'=>R (.error e) s') s):
  Hm (model prog w) A (.call (.builtin "object.__setattr__") ⟨[.ref x,.str name tk,v],[]⟩) R s:=by
 have SF:=PySem.F.store_object;obtain⟨cd,hc,ho,_⟩:=S.cls;have sub:Mf (model prog w) s.heap (isInstance (.ref x) (.type "object")) true:=I.type.andThen (My X (by unfold Lw;rw[hc,Dx,if_neg (by rw[(q7r ho).2];decide),(q7r ho).1]));refine Ej SF.slot.plain SF.entry (@Nu (model prog w) _ _ s "object.__setattr__" "object" "__setattr__" (.ref x) [.str name tk,v] [] _ SF.kind SF.split sub (SF.args (.ref x) (.str name tk) v) ?_);have hm:Mf (model prog w) s.heap (mroOf (.ref C)) cd.mro:=(Mz X hc).andThen .now;rw[W.osa_eq,refuse_eq];refine Ac (Ac (I.type.here (Ac (hm.here ?_))));rw[z5z _ ho];refine Aj (Ac (I.type.here (Ac ((Hq X S.tk).here (Ac ?_)))));exact Aj h
end
open PySem PySem.Spec PyProof.Rows
def XdO(d:Addr)(fs:List (Str×V)):HO:=.ext fun h=>∃mA,h.Ns1 d mA/\(∀f,RelO (fs.lookup f) (mA f))/\Ng mA (fs.map (·.1))
theorem x0p(n:h.Ns1 d mA)(r:∀f,RelO (fs.lookup f) (mA f))(wi:Ng mA (fs.map (·.1))):ObjOk P w H h d (XdO d fs) :=
 ⟨⟨mA,n,r,wi⟩,let ⟨o,_,_,e,_⟩:=n;⟨o,e⟩,fun h1 h2 ⟨mA,n,r,wi⟩ k=>⟨mA,n.at k,r,wi⟩⟩
theorem exn_ok(q1:h.get? e=some { cls:=C,dict:=dd,data:=.fields vs,slots:=sl })(q2:vs.size=6)(q3:vs[1]?=some .none):ObjOk P w H h e (ExN C dd e) :=
 ⟨⟨vs,sl,q1,q2,q3⟩,⟨_,q1⟩,fun h1 h2 ⟨ws,sl,k1,k2⟩ k=>⟨ws,sl,k _ k1,k2⟩⟩
section
variable{X:Cx}{pins:List (Addr×Obj)}{σ:St}{H:Hp}{s:Ag}{x C d:Addr}{f:Str}{y:V}{u:Value}{A:Around}{E:Value->Ag->Prop}{Q:Unit->Ag->Prop}
theorem z6a(I:Inv X pins σ H s)(hE:H x=some (ExN (.ref C) (some d) x))(hd:H d=some (XdO d fs))(S:ESet X.K C f)(hl:fs.length<1000)(ry:RelV y u)(h:∀s',Inv X pins σ (upd H d (XdO d (putF f y fs))) s'->Q () s'):wpAny (model X.prog X.w) A (setAttr (.ref x) f u) Q E s:=by
 obtain⟨⟨vs,sl,q1,q2,q3⟩,_,_⟩:=I.hok x _ hE;obtain⟨⟨mA,n,r,wi⟩,⟨od,hod⟩,_⟩:=I.hok d _ hd;have J:Ic s.heap x { cls:=.ref C,dict:=some d,data:=.fields vs,slots:=sl } C (some od):=⟨q1,rfl,rfl,hod⟩
 refine W.set_plain I.kIn J S.sa (z0h I.kIn J S ?_);obtain⟨cd,hc,_,hd'⟩:=S.cls;refine Ac (Aj (Ac (Ac (Mg q1 (Ac (Mf.here (Mz I.kIn hc) ?_))))));rw[hd'];refine Aj (Ac (Aj (Ac ?_)));refine wpAny_nsSet1 n fun h' hn2 hs2=>?_;obtain⟨oD,esD,epD,hoD,hdD,hcD⟩:=hn2.count (Og f u wi);refine Ac (wpAny_lookBehind hoD (by rw[hdD];exact pastItsLine_dict (Aw hcD (by rw[Be,Ai,Es];lia))) ?_);refine Aj (h _ (I.write (t':=s.toks+1+1) (h':=h') (by rw[hd];exact trivial) (.inl rfl) (fun b q hb z=>(hs2.2 b hb).trans z) ⟨_,hoD⟩ (x0p hn2 (fun g=>?_) fun g hg=>?_)))
 ·show RelO ((putF f y fs).lookup g) (if g=f then some u else mA g);rw[q3w];by_cases q:g=f
  ·rw[if_pos q,if_pos q];exact ry
  ·grind
 ·by_cases q:g=f
  ·rw[q];exact(q6e f y fs).1
  ·refine(q6e f y fs).2 g (wi g fun z=>hg ?_);rw[if_neg q];exact z
theorem z6b(I:Inv X pins σ H s)(hE:H x=some (ExN (.ref C) none x))(S:ESet X.K C f)(ry:RelV y u)(h:∀d s',H d=none->d≠x->Inv X pins σ (upd (upd (upd H d (XdO d [])) x (ExN (.ref C) (some d) x)) d (XdO d [(f,y)])) s'->Q () s'):wpAny (model X.prog X.w) A (setAttr (.ref x) f u) Q E s:=by
 obtain⟨⟨vs,sl,q1,q2,q3⟩,_,_⟩:=I.hok x _ hE;have J:Ic s.heap x { cls:=.ref C,dict:=none,data:=.fields vs,slots:=sl } C none:=⟨q1,rfl,rfl,trivial⟩
 refine W.set_plain I.kIn J S.sa (z0h I.kIn J S ?_);obtain⟨cd,hc,_,hd'⟩:=S.cls;refine Ac (Aj (Ac (Ac (Mg q1 (Ac (Mf.here (Mz I.kIn hc) ?_))))));rw[hd'];have hxlt:=An q1;have hfresh:=I.hok.fresh (Ah s.heap.objs.size);have hne:=Fq hxlt;have e1:(s.heap.push Dc).get? s.heap.objs.size=some Dc:=As s.heap rfl;have e3:(s.heap.push Dc).Ns s.heap.objs.size (fun _=>none):=⟨Dc,#[],_,e1,rfl,(fun e he=>absurd he (by simp)),fun _=>rfl⟩
 have I1:=I.laid (o:=XdO s.heap.objs.size []) (h':=s.heap.push Dc) (t':=s.toks+1) (fun b u q=>Ad _ q) (Ah _) (x0p (Oa e3) (fun _=>True.intro) fun y hy=>absurd rfl hy);have q1':=Ad Dc q1;have hrec:=Dl (fun o:Obj=>{ o with dict:=some s.heap.objs.size }) q1' rfl;have hE1:upd H s.heap.objs.size (XdO s.heap.objs.size []) x=some (ExN (.ref C) none x):=by rw[q0l (Cu hne)];exact hE
 have I2:=I1.write (t':=s.toks+1) (h':=(s.heap.push Dc).update x (fun o:Obj=>{ o with dict:=some s.heap.objs.size })) (by rw[hE1];exact trivial) (.inl rfl)
  (fun b u hb hu=>by rw[Bz _ _ (Cu hb)];exact hu) ⟨_,hrec⟩ (exn_ok hrec q2 q3)
 have hd2:upd (upd H s.heap.objs.size (XdO s.heap.objs.size [])) x (ExN (.ref C) (some s.heap.objs.size) x) s.heap.objs.size=some (XdO s.heap.objs.size []):=by rw[q0l hne,q0d]
 obtain⟨⟨mA,n,r,wi⟩,⟨od,hod⟩,_⟩:=I2.hok _ _ hd2;refine Ac (wpAny_alloc (Ac (wpAny_update q1' ?_)));refine Aj (Ac (Aj (Ac ?_)));refine wpAny_nsSet1 n fun h' hn2 hs2=>?_
 obtain⟨oD,esD,epD,hoD,hdD,hcD⟩:=hn2.count (Og f u wi);refine Ac (wpAny_lookBehind hoD (by rw[hdD];exact pastItsLine_dict (Aw hcD (by rw[Be,Ai,Es];decide))) ?_);refine Aj (h s.heap.objs.size _ hfresh hne (I2.write (t':=s.toks+1+1) (h':=h') (by rw[hd2];exact trivial) (.inl rfl) (fun b q hb z=>(hs2.2 b hb).trans z) ⟨_,hoD⟩ (x0p hn2 (fun g=>?_) fun g hg=>?_)))
 ·have e:(putF f y []).lookup g=if g=f then some y else List.lookup g []:=q3w f g y []
  show RelO ((putF f y []).lookup g) (if g=f then some u else mA g);rw[e];by_cases q:g=f
  ·rw[if_pos q,if_pos q];exact ry
  ·grind
 ·by_cases q:g=f
  ·grind
  ·exfalso;have:=wi g fun z=>hg (by show(if g=f then some u else mA g)=none;rw[if_neg q];exact z);cases this
end
open PySem PySem.Spec PyProof.Rows
structure EGet (K:Af) (C:Addr) (f:Str):Prop where
 cls:∃cd,Ii K C=some cd/\ExMro cd.mro/\cd.hasDict=true
 ga:Bu K (.ref C) "__getattribute__" = some (some (.builtin "BaseException.__getattribute__"))
 gh:Bu K (.ref C) "__getattr__" = some none
 tk:Bu K (.ref C) f=some none
theorem z6c(h:ExMro l):l.contains (.type "BaseException")=true:=by
 obtain⟨rs,rfl⟩:=h;induction rs with
 |nil=>decide
 |cons c r ih=>show(Value.ref c::(r.map Value.ref++bmV)).contains _=true;rw[Ex,ih,Jb]
section
variable{prog:Program}{w:World}{A:Around}{E:Value->Ag->Prop}{s:Ag}{K:Af}{x C:Addr}{ox:Obj}{od:Option Obj}{name:Str}{expr:Bool}{v:Value}{Q:Value->Ag->Prop}
theorem getE(X:K.In s.heap)(I:Ic s.heap x ox C od)(G:EGet K C name)(hf:Pp K C od name=some (.value v))(hh:W.handedIn v=true)(h:Q v { s with toks:=s.toks+1 }):
  wpAny (model prog w) A (getAttr (.ref x) name expr) Q E s:=by
 obtain⟨hp,g,d,t,os⟩:=s;have L0:=I.type (M:=model prog w);have L1:=Hq (M:=model prog w) X G.ga;have L2:=Hq (M:=model prog w) X G.gh;have L3:=W.looks_find (M:=model prog w) X I hf;have SG:=Jy.ga;obtain⟨cd,hc,ho,_⟩:=G.cls;have sub:Mf (model prog w) hp (isInstance (.ref x) (.type "BaseException")) true:=I.type.andThen (My X (by unfold Lw;rw[hc,Dx,if_neg (by rw[(q7r ho).2];decide),z6c ho]));have hk:builtinKind "BaseException.__getattribute__" = some .slot:=by decide +kernel
 have hsplit:splitId "BaseException.__getattribute__" = some ("BaseException", "__getattribute__"):=by decide +kernel
 refine Ac (wpAny_mkText (Dp (Ac (L0.at (Ac (L1.at ?_))))));refine Ac (show wpAny _ _ (Kf (.ref C) "__getattr__") _ _ _ from L2.at ?_);have hx0:(expr&&onTheHeap (Value.builtin "BaseException.__getattribute__"))=false:=by cases expr<;>rfl
 unfold callGetattribute boundAndCalled;rw[hx0];refine Ac (El (Dp (show wpAny _ _ (bindSpecial _ _ >>= _) _ _ _ from ?_)));refine Ac (Aj (Et (Ej SG.plain Mh (@Nu (model prog w) _ _ _ "BaseException.__getattribute__" "BaseException" "__getattribute__" (.ref x) [.str name t] [] _ hk hsplit sub (Mt (.ref x) (.str name t)) ?_))));refine Ac (Aj (Ac (Aj (Ac (L0.at (Ac (L3.at ?_)))))));refine Aj ?_;show wpAny _ _ (handedOut v) _ _ _;rw[W.handedOut_of hh];exact Aj h
end
open PySem PySem.Spec PyProof.Rows
section
variable{X:Cx}{e o value:Expr}{f:Str}{pos pos':Pos}{ta tv:TE}
def tEfld(K:Af)(ta:TE)(f:Str):TE:=fun σ H Q=>ta σ H fun x H1=>∃a C d fs v,x=.ref a/\(H1 a=some (ExO (.ref C) (some d) a)\/H1 a=some (ExN (.ref C) (some d) a))/\H1 d=some (XdO d fs)/\EGet K C f/\fs.lookup f=some v/\Q v H1
theorem z9h(K:Af)(hK:X.K=K)(he:PE X e ta)(hb:Gy e f X.env (eval e X.env)=eval e X.env:=by rfl):PE X (.Attribute e f pos) (tEfld K ta f):=by
 subst hK;intro pins s σ H Q I h;refine z9y hb (thn (he pins s σ H _ I h) fun u s1 ⟨x,H1,I1,rx,a,C,d,fs,v,ex,ea,hd,G,l,q⟩=>?_);subst ex;obtain rfl:u=Value.ref a:=rx;obtain⟨⟨mA,n,r,wi⟩,_,_⟩:=I1.hok d _ hd;obtain⟨od,hod,hlk⟩:=z4v n;have hrec:∃vs sl,s1.heap.get? a=some { cls:=.ref C,dict:=some d,data:=.fields vs,slots:=sl }:=by
  rcases ea with ea|ea
  ·obtain⟨⟨vs,sl,q1,_⟩,_,_⟩:=I1.hok a _ ea;exact⟨vs,sl,q1⟩
  ·obtain⟨⟨vs,sl,q1,_⟩,_,_⟩:=I1.hok a _ ea;exact⟨vs,sl,q1⟩
 obtain⟨vs,sl,q1⟩:=hrec;have J:Ic s1.heap a { cls:=.ref C,dict:=some d,data:=.fields vs,slots:=sl } C (some od):=⟨q1,rfl,rfl,hod⟩
 have hr:=r f;rw[l] at hr;cases hm:mA f with
 |none=>rw[hm] at hr;exact hr.elim
 |some u =>
  rw[hm] at hr;have ru:=hr;have hh:Oi X.K C=true:=by
   obtain⟨cd,hc,_,hd'⟩:=G.cls;unfold Oi;rw[hc];exact hd'
  exact getE I1.kIn J G (W.findObj_own hh G.tk rfl (by rw[hlk,hm])) (z4w ru) ⟨v,H1,I1.tok _,ru,q⟩
def sEfld(K:Af)(ta tv:TE)(f:Str):TS:=fun D σ H=>tv σ H fun y H1=>ta σ H1 fun x H2=>∃a C,x=.ref a/\ESet K C f /\
 ((H2 a=some (ExN (.ref C) none a)/\∀d,H2 d=none->d≠a->D.nx σ (upd (upd (upd H2 d (XdO d [])) a (ExN (.ref C) (some d) a)) d (XdO d [(f,y)]))) \/
  ∃d fs,H2 a=some (ExN (.ref C) (some d) a)/\H2 d=some (XdO d fs)/\fs.length<1000/\D.nx σ (upd H2 d (XdO d (putF f y fs))))
theorem z9i(K:Af)(hK:X.K=K)(ha:PE X o ta)(hv:PE X value tv)(hs:Le value (some (.Attribute o f pos')) pos.line X.env=pure false:=by rfl):PS X (.Assign [.Attribute o f pos'] value pos) (sEfld K ta tv f):=by
 subst hK;intro pins s σ H D I h;refine plainObj_wpAny_Assign_Attribute (thn (hv pins s σ H _ I h) fun u s1 ⟨y,H1,I1,ry,q⟩=>thn (ha pins s1 σ H1 _ I1 q) fun ov s2 ⟨x,H2,I2,rx,a,C,ex,S,q2⟩=>?_) hs;subst ex;obtain rfl:ov=Value.ref a:=rx;rcases q2 with⟨hE,q2⟩|⟨d,fs,hE,hd,hl,q2⟩
 ·exact z6b I2 hE S ry fun d s3 hn hne I3=>⟨σ,_,I3,q2 d hn hne⟩
 ·exact z6a I2 hE hd S hl ry fun s3 I3=>⟨σ,_,I3,q2⟩
end
open PySem PySem.Spec PyProof.Rows
structure EIsi (K:Af) (C:Addr):Prop where
 cls:∃cd,Ii K C=some cd/\ExMro cd.mro/\cd.hasDict=true
 ga:Bu K (.ref C) "__getattribute__" = some (some (.builtin "BaseException.__getattribute__"))
 gh:Bu K (.ref C) "__getattr__" = some none
 ha:Bu K (.ref C) "__class__" = some (some (.builtin "object.__class__"))
 hn:Hv K (.builtin "object.__class__") "__get__" = some (some (.builtin "getset_descriptor.__get__"))
 htk:Nn K (.builtin "object.__class__")=some true
section
variable{prog:Program}{w:World}{A:Around}{E:Value->Ag->Prop}{s:Ag}{K:Af}{x C:Addr}{ox:Obj}{od:Option Obj}
theorem EIsi.obj(G:EIsi K C):Lw K C (.type "object")=some true:=by
 obtain⟨cd,hc,ho,_⟩:=G.cls;unfold Lw;rw[hc,Dx,if_neg (by rw[(q7r ho).2];decide),(q7r ho).1]
theorem classE{fill:Bool}(X:K.In s.heap)(I:Ic s.heap x ox C od)(G:EIsi K C)(h:Q (.ref C) s):
  wpAny (model prog w) A (getAttrBy (.ref x) (.str "__class__" tk) fill expr) Q E s:=by
 obtain⟨hp,g,d,t,os⟩:=s;have L0:=I.type (M:=model prog w);have L1:=Hq (M:=model prog w) X G.ga;have L2:=Hq (M:=model prog w) X G.gh;obtain⟨cd,hc,ho,_⟩:=G.cls;have hf:Pp K C od "__class__" = some (.bind (.builtin "getset_descriptor.__get__") (.builtin "object.__class__")):=by
  unfold Pp;rw[hc,Dx,G.ha,Dx];dsimp only;rw[G.hn,Dx];dsimp only;rw[G.htk,Dx]
 have L3:=W.looks_find (M:=model prog w) X I hf;have SG:=Jy.ga;have sub:Mf (model prog w) hp (isInstance (.ref x) (.type "BaseException")) true:=I.type.andThen (My X (by unfold Lw;rw[hc,Dx,if_neg (by rw[(q7r ho).2];decide),z6c ho]));have hk:builtinKind "BaseException.__getattribute__" = some .slot:=by decide +kernel
 have hsplit:splitId "BaseException.__getattribute__" = some ("BaseException", "__getattribute__"):=by decide +kernel
 refine Dp (Ac (L0.at (Ac (L1.at ?_))));refine Ac (show wpAny _ _ (Kf (.ref C) "__getattr__") _ _ _ from L2.at ?_);have hx0:(expr&&onTheHeap (Value.builtin "BaseException.__getattribute__"))=false:=by cases expr<;>rfl
 unfold callGetattribute boundAndCalled;rw[hx0];refine Ac (El (Dp (show wpAny _ _ (bindSpecial _ _ >>= _) _ _ _ from ?_)));refine Ac (Aj (Et (Ej SG.plain Mh (@Nu (model prog w) _ _ _ "BaseException.__getattribute__" "BaseException" "__getattribute__" (.ref x) [.str "__class__" tk] [] _ hk hsplit sub (Mt (.ref x) (.str "__class__" tk)) ?_))));refine Ac (Aj (Ac (Aj (Ac (L0.at (Ac (L3.at ?_)))))));refine Ac (Dp (Et (W.class_get X I G.obj (Aj ?_))));exact Aj h
theorem q8l(G:EIsi K C):W.KitX K (.ref x) (.ref C) (fun h=>∃ox od,Ic h x ox C od) where
 ty:=fun _ _ _ ⟨_,_,I⟩=>I.type
 it:=fun _ _ X _=>by
  obtain⟨cdD,hcD,_⟩:=G.cls;unfold Ii at hcD;split at hcD
  ·rename_i c' d' cd' sl' ho;intro A' Q' E' s' k q;exact Ac (Mg (k _ _ (X _ _ ho)) (Aj q))
  ·cases hcD
 ne:=fun h tp dd its n sl X htp=>by
  obtain⟨cdD,hcD,_⟩:=G.cls;refine Bool.eq_false_iff.mpr fun q=>?_
  have e:=Value.ref.inj (beq_iff_eq.mp q);subst e;unfold Ii at hcD;split at hcD
  ·rename_i c' d' cd' sl' ho;have z:=(X _ _ ho).symm.trans htp;cases z
  ·cases hcD
 ca:=fun{prog w A E Q s} X ⟨ox,od,I⟩ k=>by
  refine Ac (wpAny_mkText (Ac (El (classE X I G ?_))));exact Aj k
end
open PySem PySem.Spec PyProof.Rows
def strKey(e:Jq):Bool:=match e.key with|.str _ _=>true|_=>false
def isNsK(K:Af)(N:Addr):Bool:=match K.lookup N with|some ⟨_,_,.dict es _,_⟩=>es.toList.all strKey|_=>false
def nsMapK(K:Af)(N:Addr)(name:Str):Option Value:=match K.lookup N with|some ⟨_,_,.dict es _,_⟩=>nsFind es name|_=>none
theorem ns_K{K:Af}(e:isNsK K N=true)(h:Heap)(X:K.In h):h.Ns N (nsMapK K N):=by
 unfold isNsK at e;split at e
 ·rename_i c d es ep sl q;refine⟨_,es,ep,X _ _ q,rfl,fun x hx=>?_,fun name=>?_⟩
  ·have hx':=Oq.mp e x (Mo.mpr hx);unfold strKey at hx';split at hx'
   ·grind
   ·cases hx'
  ·unfold nsMapK;rw[q]
 ·cases e
theorem z1r{K:Af}(e:Ey K N name=some (some v)):nsMapK K N name=some v:=by
 unfold Ey at e;unfold nsMapK;split at e
 ·rename_i c d es ep sl q;rw[q];dsimp only;split at e
  ·rename_i x hx;unfold nsFind findBy;rw[<- Jp,hx];exact Cf e
  ·split at e<;>cases e
 ·cases e
theorem q6q{K:Af}(e:Ey K N name=some none):nsMapK K N name=none:=by
 unfold Ey at e;unfold nsMapK;split at e
 ·rename_i c d es ep sl q;rw[q];dsimp only;split at e
  ·cases e
  ·rename_i hx;unfold nsFind findBy;rw[<- Jp,hx];rfl
 ·cases e
theorem q8m{K:Af}(l:K.lookup N=some ⟨oc,od,.dict es ep,sl⟩)(h:es.toList.all strKey=true):isNsK K N=true:=by
 unfold isNsK;rw[l];exact h
structure EBase (K:Af) (D:Addr):Prop where
 ex:∃nm q N bs sn sub ab col dd k0 k1 k2 k3 k5,K.lookup D=some (Ce nm q D N bs bmV true sn sub ab col dd k0 k1 k2 k3 k5 "ValueError.__new__")/\isNsK K N=true/\Ey K N "__init__" = some none
theorem EBase.cls{K:Af}(B:EBase K D):ECls K D bmV:=by
 obtain⟨nm,q,N,bs,sn,sub,ab,col,dd,k0,k1,k2,k3,k5,lk,_⟩:=B.ex;exact⟨⟨nm,q,N,bs,true,sn,sub,ab,col,dd,k0,k1,k2,k3,k5,_,lk⟩,by decide⟩
theorem EBase.tail{K:Af}(B:EBase K D)(h:Heap)(X:K.In h):Jk h bmV (.ref D::bmV):=by
 obtain⟨nm,q,N,bs,sn,sub,ab,col,dd,k0,k1,k2,k3,k5,lk,hn,hi⟩:=B.ex;exact .own (X _ _ lk) (ns_K hn h X) (q6q hi) .base
structure ELaw (K:Af) (C D fI:Addr):Prop where
 ex:∃nm q N bs sn sub ab col dd k0 k1 k2 k3 k5,K.lookup C=some (Ce nm q C N bs (.ref D::bmV) true sn sub ab col dd k0 k1 k2 k3 k5 "ValueError.__new__")/\isNsK K N=true/\Ey K N "__init__" = some (some (.ref fI))
 fn:∃oI,K.lookup fI=some oI/\oI.cls=.type "function"
 kp:Eo K (.ref C)=true
section
variable{K:Af}{C D fI:Addr}
theorem ELaw.mk_(L:ELaw K C D fI)(B:EBase K D):EMk K C fI (.ref D::bmV):=by
 obtain⟨nm,q,N,bs,sn,sub,ab,col,dd,k0,k1,k2,k3,k5,lk,hn,hi⟩:=L.ex;exact⟨⟨nm,q,N,bs,true,sn,sub,ab,col,dd,k0,k1,k2,k3,k5,nsMapK K N,lk,ns_K hn,z1r hi⟩,fun h X=>B.tail h X,L.fn,L.kp⟩
theorem ELaw.cls(L:ELaw K C D fI):ECls K C (.ref D::bmV):=by
 obtain⟨nm,q,N,bs,sn,sub,ab,col,dd,k0,k1,k2,k3,k5,lk,_⟩:=L.ex;exact⟨⟨nm,q,N,bs,true,sn,sub,ab,col,dd,k0,k1,k2,k3,k5,_,lk⟩,by rw[Ex,show bmV.contains (.type "BaseException")=true from by decide,Jb]⟩
theorem ELaw.sub(L:ELaw K C D fI):SubX K (.ref C) D:=⟨C,_,rfl,L.cls,by simp⟩
theorem ELaw.clsIn(L:ELaw K C D fI):∃cd,Ii K C=some cd/\ExMro cd.mro/\cd.hasDict=true:=by
 obtain⟨nm,q,N,bs,sn,sub,ab,col,dd,k0,k1,k2,k3,k5,lk,_⟩:=L.ex;unfold Ii;rw[lk];exact⟨_,rfl,⟨[C,D],rfl⟩,rfl⟩
theorem ELaw.set(L:ELaw K C D fI)(sa:Bu K (.ref C) "__setattr__" = some (some (.builtin "object.__setattr__")))(tk:Bu K (.ref C) f=some none):ESet K C f:=⟨L.clsIn,sa,tk⟩
theorem ELaw.get(L:ELaw K C D fI)(ga:Bu K (.ref C) "__getattribute__" = some (some (.builtin "BaseException.__getattribute__")))(gh:Bu K (.ref C) "__getattr__" = some none)(tk:Bu K (.ref C) f=some none):EGet K C f:=⟨L.clsIn,ga,gh,tk⟩
end
open PySem PySem.Spec PyProof.Rows
structure CalE (P:Program) (w:World) (K:Af) (mg:Str->Option Value) (base:Heap) (x:Str) (C:Addr) (k:Nat) (ps:List Str) (sp:Sp):Prop where
 ex:∃fI fd bm,EMk K C fI bm/\FnOk P w K mg base CX0 k fI fd ps sp/\Binds K fd ps []
 at_:mg x=some (.ref C)
 sz:ps.length<=100
section
variable{X:Cx}{J:Addr->St->Hp->Prop}{k j:Nat}{C:Addr}{ps:List Str}{sp:Sp}{x:Str}{np cpos pos:Pos}{e₀:Expr}{es:List Expr}{t:TA}
theorem z6d(F:CalE X.prog X.w X.K X.mg X.base x C k ps sp)(hr:Room j X.A)(hx:AccX X J)(hc:X.calm=true)(ha:PA X (e₀::es) t)(hjk:k+1<=j:=by decide)(hg:Gl X x:=by rfl)(hdb:(x==("__debug__" : Str))=false:=by decide)(he:Ay (e₀::es) X.env=(false,eval e₀ X.env)::Ay es X.env:=by rfl)(hpl:(Fp cpos (Ay es X.env)).any (·.1)=false:=by rfl):
  PS X (.Raise (some (.Call (.Name x np) (e₀::es) [] cpos)) none pos) (tRaise C sp J t):=by
 obtain⟨fI,fd,bm,M,Fn,hb⟩:=F.ex;exact z7z M Fn (hr.mono hjk) hb hx hc hg F.at_ ha F.sz hdb he hpl
end
def spIni1(C:Addr)(f:Str):Sp:=fun vs H Q _=>∃ea v,vs=[.ref ea,v]/\H ea=some (ExN (.ref C) none ea)/\(∃n:Nat,v=.int (n:Int)/\n<=10^12)/\∀d,H d=none->d≠ea->Q .non (upd (upd (upd H d (XdO d [])) ea (ExN (.ref C) (some d) ea)) d (XdO d [(f,v)]))
structure Rfd (H:Hp) (ea C:Addr) (f:Str) (v:V):Prop where
 ex:∃d,H ea=some (ExO (.ref C) (some d) ea)/\H d=some (XdO d [(f,v)])
theorem raised1(hd:upd H1 ea (ExN (.ref C) none ea) d=none)(hne:d≠ea):
  ∃dd,(upd (upd (upd (upd H1 ea (ExN (.ref C) none ea)) d (XdO d [])) ea (ExN (.ref C) (some d) ea)) d (XdO d [(f,v)])) ea=some (ExN (.ref C) dd ea) /\
   Rfd (upd (upd (upd (upd (upd H1 ea (ExN (.ref C) none ea)) d (XdO d [])) ea (ExN (.ref C) (some d) ea)) d (XdO d [(f,v)])) ea (ExO (.ref C) dd ea)) ea C f v:=by
 refine⟨some d,?_,d,?_,?_⟩
 ·rw[q0l (Cu hne),q0d]
 ·rw[q0d]
 ·rw[q0l hne,q0d]
structure Ef (K:Af) (mg:Str->Option Value) (x:Str) (C D:Addr) (qual:Str) (st:Stmt) (ps:List Str):Prop where
 ex:∃f fd mc,Fun K "__init__" qual st f fd/\ELaw K C D f/\EBase K D/\EIni K D mc/\Binds K fd ps []
 at_:mg x=some (.ref C)
theorem Ef.cal{K:Af}{st:Stmt}(F:Ef K mg x C D qual st ps)(S:FnScope N ps (defScope st))(len:∀vs H Q E,sp vs H Q E->vs.length=ps.length)(hsz:ps.length<=100)(hbody:∀(mc:Value) (f:Addr) (cdv:Value) (A:Around) (outer:List Env) (s:Ag) (H:Hp) (vs:List V) (Q:VK) (E:XK),ELow K C (.ref D::bmV)->EIni K D mc->Room k (A.deeper (Fy qual (defScope st) s.heap.objs.size f cdv))->sp vs H Q E ->
   ∃t,PSs (cxOf CX0 P w K mg base N qual (defScope st) f cdv A outer s H E).nox (defBody st) t/\t { nx:=fun _ H'=>Q .non H',rt:=Q } (start N vs) H):CalE P w K mg base x C (k+1) ps sp:=by
 obtain⟨f,fd,mc,Fn,L,B,I,hb⟩:=F.ex;exact⟨⟨f,fd,_,L.mk_ B,Fn.ok S len fun cdv A outer s H vs Q E hr h=>hbody mc f cdv A outer s H vs Q E (L.mk_ B).low I hr h,hb⟩,F.at_,hsz⟩
open PySem PySem.Spec PyProof.Rows
structure Err (H:Hp) (a C:Addr):Prop where
 ex:∃dd,(H a=some (ExO (.ref C) dd a)\/H a=some (ExN (.ref C) dd a))/\(dd=none\/∃d fs,dd=some d/\H d=some (XdO d fs))
theorem Rfd.err(r:Rfd H ea C f v):Err H ea C:=by
 obtain⟨d,h1,h2⟩:=r.ex;exact⟨some d,.inl h1,.inr ⟨d,_,rfl,h2⟩⟩
theorem Rfd.same(r:Rfd H ea C f v)(sm:∀b o,H b=some o->H' b=some o):Rfd H' ea C f v:=by
 obtain⟨d,h1,h2⟩:=r.ex;exact⟨d,sm _ _ h1,sm _ _ h2⟩
theorem Err.same(r:Err H ea C)(sm:∀b o,H b=some o->H' b=some o):Err H' ea C:=by
 obtain⟨dd,h1,h2⟩:=r.ex;refine⟨dd,h1.imp (sm _ _) (sm _ _),?_⟩;rcases h2 with h2|⟨d,fs,h2,h3⟩
 ·exact .inl h2
 ·exact .inr ⟨d,fs,h2,sm _ _ h3⟩
theorem q7s:∀{cs:List Addr} {us:List Value},Vals (cs.map V.ref) us->us=cs.map Value.ref
 |[],_,.nil=>rfl
 |c::cs,_,.cons r t=>by
  have h:_=Value.ref c:=r;rw[h,q7s t,Cj]
section
variable{X:Cx}
theorem q4u(K:Af)(hK:X.K=K):CallR X (.builtin "isinstance") (fun xs H Q=>∃a C b,(∃c,xs=[.ref a,c]/\((∃D,c=.ref D/\Dy K (.ref C) (.ref D)=some b)\/(∃n,c=.ty n/\Dy K (.ref C) (.type n)=some b)\/∃(T:Addr) (cs:List Addr),c=.ref T/\SqT K H T (cs.map V.ref)/\Fe K (.ref C) (cs.map Value.ref)=some b))/\Err H a C/\EIsi K C/\Q (.bl b) H):=by
 subst hK;intro pins s σ H xs us Q I r h;obtain⟨a,C,b,⟨c,rfl,hc⟩,⟨dd,ha,hdd⟩,G,q⟩:=h;obtain⟨u,v,rfl,ru,rv⟩:=r.two;obtain rfl:u=Value.ref a:=ru;have hrec:∃ox od,Ic s.heap a ox C od:=by
  have hr:∃vs sl,s.heap.get? a=some { cls:=.ref C,dict:=dd,data:=.fields vs,slots:=sl }:=by
   rcases ha with ea|ea
   ·obtain⟨⟨vs,sl,q1,_⟩,_,_⟩:=I.hok a _ ea;exact⟨vs,sl,q1⟩
   ·obtain⟨⟨vs,sl,q1,_⟩,_,_⟩:=I.hok a _ ea;exact⟨vs,sl,q1⟩
  obtain⟨vs,sl,q1⟩:=hr;rcases hdd with rfl|⟨d,fs,rfl,hd⟩
  ·exact⟨_,none,q1,rfl,rfl,trivial⟩
  ·obtain⟨_,⟨od,hod⟩,_⟩:=I.hok d _ hd;exact⟨_,some od,q1,rfl,rfl,hod⟩
 rcases hc with⟨D,rfl,e⟩|⟨n,rfl,e⟩|⟨T,cs,rfl,hT,e⟩
 ·obtain rfl:v=Value.ref D:=rv;exact W.kia_one (q8l G) I.kIn hrec e (fun z=>nomatch z) fun tk=>⟨.bl b,H,I.tok _,rfl,q⟩
 ·obtain rfl:v=Value.type n:=rv;exact W.kia_one (q8l G) I.kIn hrec e (fun z=>nomatch z) fun tk=>⟨.bl b,H,I.tok _,rfl,q⟩
 ·obtain rfl:v=Value.ref T:=rv;obtain⟨its,r',⟨o,ho,oc,n,od⟩,_⟩:=I.tuple hT;rw[q7s r'] at od;obtain⟨c0,d0,dt0,sl0⟩:=o;subst oc;subst od;exact W.kia_tup (q8l G) I.kIn hrec ho e (fun z=>nomatch z) fun tk=>⟨.bl b,H,I.tok _,rfl,q⟩
end
open PySem PySem.Spec PyProof.Rows
section
variable{X:Cx}
def rRjust:V->List V->Hp->VK->Prop:=fun x vs H Q=>∃z i c,x=.str z/\vs=[.int i,.str c]/\PadOk i=true/\c.length=1/\Q (.str (Pl z i (c.cps.getD 0 0))) H
theorem z8a:MtM X "str.rjust" rRjust:=by
 intro pins s σ H x vs v us Q I rx rv h;obtain⟨z,i,c,rfl,rfl,hp,hc,q⟩:=h;obtain⟨t,rfl⟩:=rx;obtain⟨u,w,rfl,ru,rw'⟩:=rv.two;obtain⟨t1,rfl⟩:=ru;obtain⟨t2,rfl⟩:=rw';exact rjust_fill hp hc fun t' k=>⟨.str _,H,I.tok _,⟨_,rfl⟩,q⟩
theorem q2b:CallR X (.type "str") (fun xs H Q=>∃n:Nat,xs=[.int (n:Int)]/\n<=10^14/\Q (.str (Ab (toString (n:Int)))) H):=by
 intro pins s σ H xs us Q I r h;obtain⟨n,rfl,h1,q⟩:=h;obtain⟨u,rfl,t,rfl⟩:=vals1 r;refine PySem.P.str_of_int ?_ ⟨.str (Ab (toString (n:Int))),H,I.tok _,⟨_,rfl⟩,q⟩;rw[Nv];have h2:n<2^50:=Js h1 (by decide);have:n.log2<50:=by
  by_cases hz:n=0
  ·rw[hz];decide
  ·exact(Ol hz).mpr h2
 lia
end
end L2
namespace K
open PySem L2 TX
def wn(w:Nat)(t:List Nat):List Nat:=List.replicate (w-t.length) 48++t
theorem rj{w:Nat}:Pl (mk t) (w:Int) 48=mk (wn w t):=by
 have hl:(mk t).length=t.length:=by rw[len,q0z]
 unfold Pl wn;by_cases h:((w:Nat):Int)<=((mk t).length:Int)
 ·simp_all
 ·rw[if_neg h,hl];simp[Dz.Str.padded,tl,mk]
end K
namespace L2
open PySem PySem.Spec PyProof.Rows
abbrev TF:=St->Hp->(Str->Hp->Prop)->Prop
def PF1(X:Cx)(e:Expr)(t:TF):Prop:=∀(pins:List (Addr×Obj)) (s:Ag) (σ:St) (H:Hp) (R:Str->Hp->Prop),Inv X pins σ H s->t σ H R ->
 wpAny (model X.prog X.w) X.A (eval e X.env) (fun v s1=>∃y k H1,v=.str y k/\Inv X pins σ H1 s1/\R y H1) X.xe s
def PFs(X:Cx):List Expr->List TF->Prop
 |[],[]=>True
 |e::es,t::ts=>PF1 X e t/\PFs X es ts
 |_,_=>False
def tFs:List TF->Str->St->Hp->VK->Prop
 |[],acc,_,H,Q=>acc.length<=sizeLine/\Q (.str acc) H
 |t::ts,acc,σ,H,Q=>t σ H fun y H1=>(acc++y).length<=sizeLine/\tFs ts (acc++y) σ H1 Q
section
variable{X:Cx}
theorem z8b{σ:St}:∀{ts:List TF} {es:List Expr} {acc:Str} {H:Hp} {s:Ag},PFs X es ts->Inv X pins σ H s->tFs ts acc σ H Q ->
  Joins (model X.prog X.w) X.A X.xe (evalEach es X.env) acc (fun out s₁=>out.length<=sizeLine/\EP X pins σ Q (.str out s₁.toks) { s₁ with toks:=s₁.toks+1 }) s:=by
 intro ts;induction ts with
 |nil =>
  intro es acc H s hp I h;cases es with
  |nil=>exact⟨h.1,.str acc,H,I.tok _,⟨_,rfl⟩,h.2⟩
  |cons e es=>exact False.elim hp
 |cons t ts ih =>
  intro es acc H s hp I h;cases es with
  |nil=>exact False.elim hp
  |cons e es =>
   refine Cc (hp.1 pins s σ H _ I h) (fun v s1 z=>?_) fun _ _ z=>z;obtain⟨y,k,H1,ev,I1,hz,q⟩:=z;exact⟨y,k,ev,hz,ih hp.2 I1 q⟩
theorem q8n{v₁ v₂:Expr}{rest:List Expr}{pos:Pos}{t₁ t₂:TF}{ts:List TF}(h1:PF1 X v₁ t₁)(h2:PF1 X v₂ t₂)(h3:PFs X rest ts):PE X (.JoinedStr (v₁::v₂::rest) pos) (fun σ H Q=>tFs (t₁::t₂::ts) Lg σ H Q):=by
 intro pins s σ H Q I h;exact wpAny_JoinedStr (z8b (ts:=t₁::t₂::ts) ⟨h1,h2,h3⟩ I h)
theorem q8o:PFs X [] []:=trivial
theorem q8p{e:Expr}{es:List Expr}{t:TF}{ts:List TF}(h:PF1 X e t)(r:PFs X es ts):PFs X (e::es) (t::ts):=⟨h,r⟩
def tFv(te:TE):TF:=fun σ H R=>te σ H fun v H1=>(∃x,v=.str x/\x.length<=sizeLine/\R x H1)\/∃n:Nat,v=.int (n:Int)/\n<=10^12/\R (Ab (toString (n:Int))) H1
theorem z6e{n:Nat}(h:n<=10^12):(n:Int).natAbs.log2<1920:=by
 rw[Nv];by_cases h0:n=0
 ·subst h0;decide
 ·rw[Ol h0];exact Js h (Bb (by decide:10^12<2^64) (Gu (by decide) (by decide)))
theorem z2z{e:Expr}{pos:Pos}{te:TE}(he:PE X e te):PF1 X (.FormattedValue e (-1) none pos) (tFv te):=by
 intro pins s σ H R I h;refine FormattedValue_plain (thn (he pins s σ H _ I h) fun u s1 ⟨v,H1,I1,rv,q⟩=>?_);rcases q with⟨x,rfl,hz,q⟩|⟨n,rfl,hn,q⟩
 ·obtain⟨t,rfl⟩:=rv;exact formatField_str (fun t' tk=>⟨x,t',H1,rfl,I1.tok _,q⟩) hz
 ·obtain⟨t,rfl⟩:=rv;exact formatField_int_small (z6e hn) ⟨_,_,H1,rfl,I1.tok _,q⟩
theorem q6r:PF1 X (.Constant (.str c) k pos) (fun _ H R=>R c H):=by
 intro pins s σ H R I h;exact thn (q0g pins s σ H (fun v H1=>∃y,v=.str y/\R y H1) I ⟨c,rfl,h⟩) fun u s1 ⟨v,H1,I1,rv,y,ev,q⟩=>by
  subst ev;obtain⟨t,rfl⟩:=rv;exact⟨y,t,H1,rfl,I1,q⟩
end
open PySem PySem.Spec PyProof.Rows
section
variable{prog:Program}{w:World}{A:Around}{E:Value->Ag->Prop}{h:Heap}{g:Array Kx}{d:Drawn}{t:Nat}{os:Ih}
variable{nm q:Str}{C N:Addr}{bs bm bmB:List Value}{hdct:Bool}{sn:List Str}{sub:List Value}{ab:Bool}{col:Option Bool}{dd:Option Addr}{k0 k1 k2 k3 k5:Option Value}{B newId initId:String}
theorem q5o(F:Ja B newId initId bmB)(T:Jk h bmB bm){rest:List Value}(hC:h.get? C=some (Ce nm q C N bs bm hdct sn sub ab col dd k0 k1 k2 k3 k5 newId))(hn:h.Ns N mN)(hi:mN "__init__" = none)(hq:∀h' e,Jl h h' e (.ref C) rest->h.objs.size<=e ->
   Q (.done (.ret (.ref e))) ⟨h',g,d,t,os⟩)(hrest:rest.length<=sizeLine:=by size_fits):
  wpAny (model prog w) A (Dz.«type.__call__» ⟨.ref C::rest,[]⟩) Q E ⟨h,g,d,t,os⟩:=by
 repeat (first|with_reducible refine Cz hC ?_|with_reducible refine wpAny_madeBy_exc hC ?_|wp_step)
 refine Kj (Gb _ F.quiet) (Mr F T hC ?_);refine Ms F T hC ?_ hrest;have hC₁:=Ad { cls:=.ref C,data:=.fields #[.ref h.objs.size,.none,.none,.none,.bool false,.none] }
  (Ad { cls:=.type "tuple",data:=.seq rest.toArray } hC)
 have hn₁:((h.push { cls:=.type "tuple",data:=.seq rest.toArray }).push { cls:=.ref C,data:=.fields #[.ref h.objs.size,.none,.none,.none,.bool false,.none] }).Ns N mN :=
  let ⟨o,es,ep,e,r⟩:=hn;⟨o,es,ep,Ad _ (Ad _ e),r⟩
 have hget:((h.push { cls:=.type "tuple",data:=.seq rest.toArray }).push
   { cls:=.ref C,data:=.fields #[.ref h.objs.size,.none,.none,.none,.bool false,.none] }).get? (h.objs.size+1)=some
   { cls:=.ref C,data:=.fields #[.ref h.objs.size,.none,.none,.none,.bool false,.none] }:=by heap_get
 have T₁:=T.keeps (h':=(h.push { cls:=.type "tuple",data:=.seq rest.toArray }).push { cls:=.ref C,data:=.fields #[.ref h.objs.size,.none,.none,.none,.bool false,.none] })
  fun b o e=>Ad _ (Ad _ e)
 have hcC:(Value.ref C::bm).contains (.ref C)=true:=by simp
 repeat (first|with_reducible refine Cz hget ?_|(with_reducible refine Fu hC₁ ?_;rw[hcC])|wp_step)
 refine Me hC₁ hn₁ T₁ F.mroIs F.init.lookup ?_;rw[hi];refine Dp (Ac ?_);have hb:=F.init.bind (.ref (h.objs.size+1));rw[hb];refine Aj (Ac (Et (z0g F T₁ hC₁ hget rfl hrest ?_)));have hget2:=Ad { cls:=.type "tuple",data:=.seq rest.toArray } hget;generalize hP:(h.push { cls:=.type "tuple",data:=.seq rest.toArray }).push { cls:=.ref C,data:=.fields #[.ref h.objs.size,.none,.none,.none,.bool false,.none] }=P at *;have hrec:=Dl (Em (·.setIfInBounds 0 (Value.ref P.objs.size))) hget2 rfl;have hPs:P.objs.size=h.objs.size+2:=by rw[<- hP];simp[Heap.push]
 wp_walk
 refine hq _ (h.objs.size+1) ⟨fun b o hb=>?_,Fi (Hc _),P.objs.size,hrec,Fi (by lia),?_⟩ (Hc _)
 ·have hlt:=An hb;rw[Bz _ _ (fun z=>absurd hlt (Gd.mpr (by rw[<- z];exact Hc _)))];refine Ad _ ?_;rw[<- hP];exact Ad _ (Ad _ hb)
 ·rw[Bz _ _ (fun z=>absurd (hPs.symm.trans z.symm) (by lia))];exact Of rfl rfl
theorem z1s(F:Ja B newId initId bmB)(T:Jk h bmB bm){rest:List Value}(hC:h.get? C=some (Ce nm q C N bs bm hdct sn sub ab col dd k0 k1 k2 k3 k5 newId))(hn:h.Ns N mN)(hi:mN "__init__" = none)(hq:∀h' e,Jl h h' e (.ref C) rest->h.objs.size<=e ->
   Q (.ref e) ⟨h',g,d,t,os⟩)(hrest:rest.length<=sizeLine:=by size_fits):
  wpAny (model prog w) A (call (.ref C) rest) Q E ⟨h,g,d,t,os⟩:=by
 have f1:=tc_lookup;have f2:=tc_bind (.ref C);refine Et (Lk ?_);repeat (any_goals (first|assumption|with_reducible refine Cz hC ?_|wp_step))
 refine⟨rfl,?_⟩;refine Lb (Gb _ (by decide +kernel)) entry_typeCall (Kk hC (q5o F T hC hn hi fun h' e hm hle=>?_));exact hq h' e hm hle
end
open PySem PySem.Spec PyProof.Rows
structure ELaw0 (K:Af) (C D:Addr):Prop where
 ex:∃nm q N bs sn sub ab col dd k0 k1 k2 k3 k5,K.lookup C=some (Ce nm q C N bs (.ref D::bmV) true sn sub ab col dd k0 k1 k2 k3 k5 "ValueError.__new__")/\isNsK K N=true/\Ey K N "__init__" = some none
 kp:Eo K (.ref C)=true
 base:EBase K D
theorem ELaw0.clsIn{K:Af}(L:ELaw0 K C D):∃cd,Ii K C=some cd/\ExMro cd.mro/\cd.hasDict=true:=by
 obtain⟨nm,q,N,bs,sn,sub,ab,col,dd,k0,k1,k2,k3,k5,lk,_⟩:=L.ex;unfold Ii;rw[lk];exact⟨_,rfl,⟨[C,D],rfl⟩,rfl⟩
theorem ELaw0.sub{K:Af}(L:ELaw0 K C D):SubX K (.ref C) D:=by
 obtain⟨nm,q,N,bs,sn,sub,ab,col,dd,k0,k1,k2,k3,k5,lk,_⟩:=L.ex;exact⟨C,_,rfl,⟨⟨nm,q,N,bs,true,sn,sub,ab,col,dd,k0,k1,k2,k3,k5,_,lk⟩,by rw[Ex,show bmV.contains (.type "BaseException")=true from by decide,Jb]⟩,by simp⟩
section
variable{X:Cx}{J:Addr->St->Hp->Prop}{C D:Addr}{x:Str}{np cpos pos:Pos}{e₀:Expr}{es:List Expr}{t:TA}
def tRaise0(C:Addr)(J:Addr->St->Hp->Prop)(t:TA):TS:=fun _ σ H=>t σ H fun vs H1=>vs.length<=100/\∀ea,H1 ea=none->J ea σ (upd (upd H1 ea (ExN (.ref C) none ea)) ea (ExO (.ref C) none ea))
theorem q3j(M:ELaw0 X.K C D)(hx:AccX X J)(hc:X.calm=true)(hm:X.mg x=some (.ref C))(ha:PA X (e₀::es) t)(hg:Gl X x:=by rfl)(hdb:(x==("__debug__" : Str))=false:=by decide)(he:Ay (e₀::es) X.env=(false,eval e₀ X.env)::Ay es X.env:=by rfl)(hpl:(Fp cpos (Ay es X.env)).any (·.1)=false:=by rfl):
  PS X (.Raise (some (.Call (.Name x np) (e₀::es) [] cpos)) none pos) (tRaise0 C J t):=by
 intro pins s σ H Dn I h;obtain⟨nm,q,N,bs,sn,sub,ab,col,dd,k0,k1,k2,k3,k5,lk,hN,hi⟩:=M.ex;have key:wpAny (model X.prog X.w) X.A (eval (.Call (.Name x np) (e₀::es) [] cpos) X.env) (fun v s₁=>∃e de vs sl,v=.ref e/\s₁.heap.get? C=some (Ce nm q C N bs (.ref D::bmV) true sn sub ab col dd k0 k1 k2 k3 k5 "ValueError.__new__") /\
   s₁.heap.get? e=some { cls:=.ref C,dict:=de,data:=.fields vs,slots:=sl }/\vs[1]?=some .none/\X.xe (.ref e) s₁) X.xe s:=by
  refine Ea (q2v I hg hm ?_ hdb);refine Ks I.ok.mod.kin M.kp (thn (ha cpos pins s σ H _ I h) fun us s1 ⟨vs,H1,I1,r,hq0,hq⟩=>⟨I1.kIn,?_⟩) he hpl;obtain⟨hp,g,dr,tk,os⟩:=s1;have KX:=I1.kIn;have hlen:us.length<=sizeLine:=by
   rw[<- r.length,Es];lia
  refine z1s Ha (M.base.tail hp KX) (KX _ _ lk) (ns_K hN hp KX) (q6q hi) fun h' e hme hle=>?_;have hfree:=I1.hok.fresh hle;obtain⟨t0,hrec,_,_⟩:=hme.there;have I2:Inv X pins σ (upd H1 e (ExN (.ref C) none e)) ⟨h',g,dr,tk,os⟩:=I1.laid (h':=h') (t':=tk) (fun b u q=>hme.keeps b u q) hle ⟨⟨_,_,hrec,rfl,rfl⟩,⟨_,hrec⟩,fun h1 h2 ⟨ws,sl,k1,k2⟩ k=>⟨ws,sl,k _ k1,k2⟩⟩;have j:=hq e hfree;have hE:upd H1 e (ExN (.ref C) none e) e=some (ExN (.ref C) none e):=q0d;obtain⟨⟨ws,sl,q1,q2,q3⟩,_,_⟩:=I2.hok e _ hE;refine⟨e,none,ws,sl,rfl,I2.kIn _ _ lk,q1,q3,hx.acc _ _ ⟨pins,σ,_,e,rfl,I2.asO hE,⟨⟨_,_,q0d⟩,⟨_,ws,q1,rfl,.inl q3,fun T hT=>?_⟩,Aw I1.sz hle⟩,j⟩⟩;rw[q3] at hT;cases hT
 have hbase:=(M.base.tail _ I.kIn).hasType (show bmV.contains (.type "BaseException")=true by decide);first
  |exact Ac (Co (raiseX hbase (I.ok.hd hc) (Ac (Cc key (fun v s₁ z=>Ac (Co (Aj z))) fun _ _ z=>z))))
  |(simp only[evalOpt,Option.map];exact Ac (Co (raiseX hbase (I.ok.hd hc) (Ac (Cc key (fun v s₁ z=>Ac (Co (Aj z))) fun _ _ z=>z)))))
  |exact Ac (Co (raiseX hbase (I.ok.hd hc) key))
end
open PySem PySem.Spec PyProof.Rows
section
variable{M:Model}{A:Around}{E:Value->Ag->Prop}{h:Heap}{g:Array Kx}{d:Drawn}{t:Nat}{os:Ih}
def HCls(h:Heap)(C:Addr)(bm:List Value):Prop:=∃nm q N bs hdct sn sub ab col dd k0 k1 k2 k3 k5 newId,h.get? C=some (Ce nm q C N bs bm hdct sn sub ab col dd k0 k1 k2 k3 k5 newId)
theorem ECls.hp{K:Af}{C:Addr}{bm:List Value}(e:ECls K C bm)(X:K.In h):HCls h C bm:=by
 obtain⟨nm,q,N,bs,hdct,sn,sub,ab,col,dd,k0,k1,k2,k3,k5,newId,lk⟩:=e.ex;exact⟨nm,q,N,bs,hdct,sn,sub,ab,col,dd,k0,k1,k2,k3,k5,newId,X _ _ lk⟩
set_option maxHeartbeats 4000000 in
end
section
variable{X:Cx}{pins:List (Addr×Obj)}{σ:St}{H:Hp}{s:Ag}
def Lnd(h:Heap)(ea:Addr):Prop:=∃oe vs T,h.get? ea=some oe/\oe.data=.fields vs/\TbAt h ea vs T .none
theorem z6f{ea:Addr}{oe:Obj}{vs:Array Value}{T:Addr}{fl:Value}{Aa:Around}{Ee:Value->Ag->Prop}{Q:Unit->Ag->Prop}(I:Inv X pins σ H s)(F:FlX X pins H s ea)(e:s.heap.get? ea=some oe)(d:oe.data=.fields vs)(t:TbAt s.heap ea vs T fl)(k:∀h',Inv X pins σ H { s with heap:=h' }->FlX X pins H { s with heap:=h' } ea->Lnd h' ea->Q () { s with heap:=h' }):wpAny (model X.prog X.w) Aa (setFlight (.ref ea) none) Q Ee s:=by
 have hTf:T∉frs X.stack:=fun hm=>by
  obtain⟨_,_,oT,ts,q1,q2,_⟩:=t;obtain⟨_,o,ho,hnf⟩:=I.stack.mem hm;rw[q1] at ho;injection ho with ho;subst ho;exact hnf ts q2
 obtain⟨oe1,vs1,e1,d1,_,hT1⟩:=F.tb;have q:oe1=oe/\vs1=vs:=by
  rw[e] at e1;injection e1 with z;subst z;rw[d] at d1;injection d1 with y;exact⟨rfl,y.symm⟩
 obtain⟨rfl,rfl⟩:=q;refine flightX (f:=none) e d t hTf fun h3 L3=>?_
 obtain⟨I3,F3,oe3,vs3,T3,e3,d3,t3⟩:=I.leftX F e d (.inl rfl) hT1 L3;exact k h3 I3 F3 ⟨oe3,vs3,T3,e3,d3,t3⟩
def PH(X:Cx)(hs:List ExceptHandler)(t:Addr->TS):Prop:=∀ea pins s σ H D E,X.Ok->Inv X pins σ H s->FlX X pins H s ea->Lnd s.heap ea->t ea D σ H->wpAny (model X.prog X.w) X.A (handleBy (.ref ea) X.env hs) (SP X pins D) E s
def tTryH(th:Addr->TS)(tb:(Addr->St->Hp->Prop)->TS):TS:=fun D σ H=>∃J:Addr->St->Hp->Prop,(∀ea σ' H',J ea σ' H'->th ea D σ' H')/\tb J D σ H
theorem x0q{body:List Stmt}{h₀:ExceptHandler}{hs:List ExceptHandler}{pos:Pos}{tb:(Addr->St->Hp->Prop)->TS}{th:Addr->TS}(hst:X.stack=X.env::X.outer)(hf:X.env.frame=some X.env.locals)(hb:∀pn J,PSs ((X.pinned pn).wish (XE (X.pinned pn) J)) body (tb J))(hh:PH X (h₀::hs) th):PS X (.Try body (h₀::hs) [] [] pos) (tTryH th tb):=by
 intro pins s σ H D I ⟨J,hJ,q⟩;refine wpAny_Try_except (Cc (hb (X.pn++pins) J [] s σ H D (I.toPn.wish _) q) (fun f s1 z=>?_) fun e s1 z=>?_)
 ·have z':=z.unwish;have z2:SP X pins D f s1:=by
   cases f with
   |next=>obtain⟨σ',H',I',q'⟩:=z';exact⟨σ',H',I'.ofPn,q'⟩
   |brk=>obtain⟨σ',H',I',q'⟩:=z';exact⟨σ',H',I'.ofPn,q'⟩
   |cont=>obtain⟨σ',H',I',q'⟩:=z';exact⟨σ',H',I'.ofPn,q'⟩
   |ret u=>obtain⟨v,σ',H',I',r,q'⟩:=z';exact⟨v,σ',H',I'.ofPn,r,q'⟩
  cases f with
  |next=>exact Hd z2
  |ret v=>exact z2
  |brk=>exact z2
  |cont=>exact z2
 ·obtain⟨pins',σ1,H1,ea,rfl,I1,F1,j⟩:=z;have I1:=I1.ofPn;have F1:=F1.ofPn;obtain⟨oe,vs,he,hd,ht,hT⟩:=F1.tb;have hfr:X.A.frames=some (X.env::X.outer):=by rw[<- hst];exact I.ok.frames
  have hl:s1.heap.FunFrames X.base (X.env::X.outer):=by rw[<- hst];exact I1.stack
  refine noteX hfr hl hf he hd ht fun h2 L2=>?_;rw[<- z9f hst] at L2;obtain⟨I2,F2,oe2,vs2,T2,e2,d2,t2⟩:=I1.leftX F1 he hd (.inr rfl) hT L2;exact z6f I2 F2 e2 d2 t2 fun h3 I3 F3 l3=>hh ea pins _ σ1 H1 D _ I.ok I3 F3 l3 (hJ ea σ1 H1 j)
def subE(c:Addr)(bm:List Value)(C:Addr):Bool:=(Value.ref c::bm).contains (.ref C)
theorem cls_at{c:Addr}{dd:Option Addr}{ea:Addr}(I:Inv X pins σ H s)(h:H ea=some (ExO (.ref c) dd ea)):∃oe,s.heap.get? ea=some oe/\oe.cls=.ref c:=by
 obtain⟨⟨ws,sl,z,_⟩,_,_⟩:=I.hok ea _ h;exact⟨_,z,rfl⟩
theorem ph_nil:PH X [] (fun _ _ _ _=>False):=fun _ _ _ _ _ _ _ _ _ _ _ h=>h.elim
def hAs(K:Af)(i:Nat)(C:Addr)(th:TS)(tr:Addr->TS):Addr->TS:=fun ea D σ H=>∃c bm dd,H ea=some (ExO (.ref c) dd ea)/\ECls K c bm/\if subE c bm C=true then th (gone i D) (σ.set i (some (.ref ea))) H else tr ea D σ H
theorem x0r{suite:List Stmt}{b₀:Stmt}{dn n:Str}{i:Nat}{C:Addr}{bmC:List Value}{dp hp:Pos}{rest:List ExceptHandler}{th:TS}{tr:Addr->TS}(K:Af)(hK:X.K=K)(hN:X.N.Nodup)(hi:X.N[i]?=some n)(hk:X.env.scope.names.lookup n=some .local)(hg:Gl X dn)(hm:X.mg dn=some (.ref C))(eC:ECls X.K C bmC)(hh:∀ea,PSs (X.hand ea) (b₀::suite) th)(hr:PH X rest tr)(hdb:(dn==("__debug__" : Str))=false:=by decide):
  PH X (.ExceptHandler (some (.Name dn dp)) (some n) (b₀::suite) hp::rest) (hAs K i C th tr):=by
 subst hK;intro ea pins s σ H D E ok I F ⟨oe,vs,T,e3,d3,t3⟩ ⟨c,bm,dd,hat,eCc,q⟩;refine wpAny_handleBy_cons (codeAny_handlers_test ?_) (by intro z;cases z);refine q2v (X:=X.hand ea) (I.hand ea) hg hm ?_ hdb;obtain⟨nm,q0,N,bs,hdct,sn,sub,ab,col,dd0,k0,k1,k2,k3,k5,newId,lk⟩:=eCc.ex;obtain⟨nm',q0',N',bs',hdct',sn',sub',ab',col',dd0',k0',k1',k2',k3',k5',newId',lk'⟩:=eC.ex;obtain⟨oe4,e4,c4⟩:=cls_at I hat;refine excMatchX (I.kIn _ _ lk) (I.kIn _ _ lk') e4 c4 eC.base ?_;cases hs:(Value.ref c::bm).contains (.ref C) with
 |false =>
  unfold subE at q;rw[hs,if_neg (by decide)] at q;exact hr ea pins s σ H D E ok I F ⟨oe,vs,T,e3,d3,t3⟩ q
 |true =>
 unfold subE at q;rw[hs,if_pos rfl] at q;refine codeAny_handlers_suite_as (z6f I F e3 d3 t3 fun h5 I5 F5 _=>?_);refine q5t (X:=X.hand ea) (I5.hand ea) hN hi (.inl hk) (show RelV (.ref ea) (.ref ea) from rfl) (fun s6 I6=>?_) (.inr hk);refine Cc (hh ea pins s6 _ H (gone i D) I6 q) (fun f s7 z=>?_) fun _ _ z=>z.elim;cases f with
 |next =>
  obtain⟨σ',H',I',q'⟩:=z;exact q8k (I'.unhand ok) hN hi hk fun s8 I8=>⟨_,H',I8,q'⟩
 |brk =>
  obtain⟨σ',H',I',q'⟩:=z;exact q8k (I'.unhand ok) hN hi hk fun s8 I8=>⟨_,H',I8,q'⟩
 |cont =>
  obtain⟨σ',H',I',q'⟩:=z;exact q8k (I'.unhand ok) hN hi hk fun s8 I8=>⟨_,H',I8,q'⟩
 |ret u =>
  obtain⟨v,σ',H',I',r,q'⟩:=z;exact q8k (I'.unhand ok) hN hi hk fun s8 I8=>⟨v,_,H',I8,r,q'⟩
theorem FlX.push{ea:Addr}{o:Obj}{ho:HO}(F:FlX X pins H s ea)(l:Lnd s.heap ea)(hf:H s.heap.objs.size=none):FlX X pins (upd H s.heap.objs.size ho) { s with heap:=s.heap.push o } ea/\Lnd (s.heap.push o) ea:=by
 obtain⟨oe,vs,T,e1,d1,t1,t2,oT,ts,t3,t4,t5⟩:=l;obtain⟨oe',vs',e2,d2,tk,hT⟩:=F.tb;obtain⟨C,dd,at_⟩:=F.at_;have n1:ea≠s.heap.objs.size:=fun z=>by rw[z,hf] at at_;cases at_
 rw[e1] at e2;injection e2 with e2;subst e2;rw[d1] at d2;injection d2 with d2;subst d2;have n2:T≠s.heap.objs.size:=By (An t3);have p1:=Ad o e1;have p3:=Ad o t3;refine⟨⟨⟨C,dd,by rw[q0l n1];exact at_⟩,⟨oe,vs,p1,d1,.inr ⟨T,.inl ⟨t1,t2,oT,ts,p3,t4,t5⟩⟩,fun T' hT'=>?_⟩,F.new⟩,⟨oe,vs,T,p1,d1,t1,t2,oT,ts,p3,t4,t5⟩⟩;obtain⟨a1,a2,a3⟩:=hT T' hT';have:T'=T:=by rw[t1] at hT';injection hT' with z;injection z with z;exact z.symm
 subst this;exact⟨a1,by rw[q0l n2];exact a2,a3⟩
end
open PySem PySem.Spec
theorem q5f{X:Cx}{e:Expr}{t₁ t₂:TE}(h1:PE X e t₁)(h2:PE X e t₂):PE X e (fun σ H Q=>t₁ σ H Q\/t₂ σ H Q):=by
 intro pins s σ H Q I h;rcases h with h|h
 ·exact h1 pins s σ H Q I h
 ·exact h2 pins s σ H Q I h
theorem ELaw0.cls{K:Af}(L:ELaw0 K C D):ECls K C (.ref D::bmV):=by
 obtain⟨nm,q,N,bs,sn,sub,ab,col,dd,k0,k1,k2,k3,k5,lk,_⟩:=L.ex;exact⟨⟨nm,q,N,bs,true,sn,sub,ab,col,dd,k0,k1,k2,k3,k5,_,lk⟩,by rw[Ex,show bmV.contains (.type "BaseException")=true from by decide,Jb]⟩
open PySem PySem.Spec PyProof.Rows
variable{X:Cx}{a:Expr}{ta:TE}
def tNotT(ta:TE):TE:=fun σ H Q=>ta σ H fun x H1=>∃b,x=.bl b/\Q (.bl (!b)) H1
theorem x0s{j pos'}(ha:PE X a ta):PC X .IsNot a (.Constant (.bool true) j pos') (tNotT ta):=by
 intro pins s σ H Q I h;refine thn (ha pins s σ H _ I h) fun v s1 ⟨x,H1,I1,r1,b,e,q1⟩=>?_;subst e;obtain rfl:v=Value.bool b:=r1;refine Constant_bool (wpAny_isNot_plain rfl ⟨.bl _,H1,I1,?_,q1⟩);cases b<;>rfl
end L2
namespace HD
open PySem PySem.W PyProof.Rows
theorem end0:(∃f,endAt 0 t=some f)/\through t=true\/endAt 0 t=none/\through t=false:=by
 unfold endAt through;obtain⟨cur,code,pos,stack⟩:=t;cases stack with
 |cons a r=>exact .inr ⟨by cases cur<;>rfl,rfl⟩
 |nil =>
  cases cur with
  |pure f =>
   cases f with
   |done f=>simp_all
   |_=>simp_all
  |_=>exact .inr ⟨rfl,rfl⟩
theorem z3a{tb:String->Option Dz}{p:Program}{w:World}{n₀:Nat}{ann:Option Value}:∀{n:Nat} {s s':Ag} {t:Thread} {f:Flow} {c:Code} {q:Pos},segRun tb p w n₀ ann 0 n s t=some (f,s',c,q)->topRun tb p w n₀ ann n s t=some s'
 |0,_,_,_,_,_,_,h=>by cases h
 |n+1,s,s',t,f,c,q,h=>by
  unfold segRun at h;unfold topRun;rcases end0 (t:=t) with⟨⟨f',e⟩,th⟩|⟨e,th⟩
  ·rw[e] at h;rw[th];cases h;rfl
  ·rw[e] at h;rw[th];dsimp only at h ⊢;cases ok:stepOk n₀ ann t with
   |false=>rw[ok] at h;cases h
   |true =>
    rw[ok] at h;dsimp only at h ⊢;cases st:step (denote tb) p w s t with
    |go s1 t1=>rw[st] at h;exact z3a h
    |halt _ _=>rw[st] at h;cases h
def mkT(l:List Obj):BT:=(l.foldl (fun(a:BT×Nat) o=>(a.1.ins a.2 o,a.2+1)) (BT.nil,0)).1
noncomputable def bootT (P:Params) (os:Ih):SharedT:=⟨mkT (boot_heap P).objs.toList,11,(boot_heap P).life,#[],boot_drawn,boot_toks,os⟩
theorem z8c(P:Params)(os:Ih):(bootT P os).abs=⟨boot_heap P,#[],boot_drawn,boot_toks,os⟩:=by kernel_rfl
theorem z6g(P:Params):((boot_heap P).isNs Bt&&(#[]:Array Kx).size==0,(boot_heap P).objs.size,(boot_heap P).nsMap Bt "__annotations__")=(true,11,some (.ref 6)):=by kernel_rfl
theorem left{Yf:Ag->α}{Ya:World->α}(e:opening p=plainProg p.main.scope.names)(hN:Nat.ble 600 N=true)(f:∀s,fenceModules? p s=some s)(h:∀(w:World) (os:Ih),(segRunT Jt p w 11 (some (.ref 6)) 0 N (bootT w.params os) (topStub p)).map (fun r=>((staticsOk (Dr p.main.body) (boot_heap w.params) r.2.1.abs.heap&&namesBound p r.2.1.abs.heap&&gensDone r.2.1.abs&&laidKept (boot_heap w.params) r.2.1.abs.heap),
   openSeen q loose (Dr p.main.body) Xt true r.2.1.abs,Yf r.2.1.abs))=some (true,openGood q loose,Ya w)):LeftO p q loose Xt Yf Ya N:=fun w=>by
 obtain⟨⟨hp,gs,d,k,os⟩,e1,e2⟩:=Hz.mp (boot_open e hN f w);obtain⟨rfl,rfl,rfl,rfl⟩:hp=boot_heap w.params/\gs=#[]/\d=boot_drawn/\k=boot_toks:=by simpa using e2
 obtain⟨z1,z2,z3⟩:_/\_/\_:=by simpa only[Prod.mk.injEq] using z6g w.params
 obtain⟨⟨fl,st,c,ps⟩,r1,r2⟩:=Hz.mp (h w os);obtain⟨l1,l2,l3⟩:_/\_/\_:=by simpa only[Prod.mk.injEq] using r2
 have r:=z3a (segRun_of r1);rw[z8c] at r;have t:topFrom Jt p w N ⟨boot_heap w.params,#[],boot_drawn,boot_toks,os⟩=some st.abs:=by
  unfold topFrom;rw[z1,z2,z3,r];show(match staticsOk (Dr p.main.body) (boot_heap w.params) st.abs.heap&&namesBound p st.abs.heap&&gensDone st.abs&&laidKept (boot_heap w.params) st.abs.heap with|true=>_|false=>_)=_;rw[l1]
 unfold openEnds;rw[e1];show(topFrom Jt p w N _).map _=_;rw[t];exact congrArg some (Prod.ext l2 l3)
theorem left2(row:String){Yf:Ag->α}{Ya:World->α}(e:opening p=plainProg p.main.scope.names)(hN:Nat.ble 600 N=true)(f:∀s,fenceModules? p s=some s)(h:∀(b:Bool) (w:World) (os:Ih),(segRunT Jt p (w.withFollow row b) 11 (some (.ref 6)) 0 N (bootT (w.withFollow row b).params os) (topStub p)).map (fun r=>((staticsOk (Dr p.main.body) (boot_heap (w.withFollow row b).params) r.2.1.abs.heap&&namesBound p r.2.1.abs.heap&&gensDone r.2.1.abs&&laidKept (boot_heap (w.withFollow row b).params) r.2.1.abs.heap),
   openSeen q loose (Dr p.main.body) Xt true r.2.1.abs,Yf r.2.1.abs))=some (true,openGood q loose,Ya (w.withFollow row b))):LeftO p q loose Xt Yf Ya N :=
 left e hN f fun w os=>by
  have:=h (w.params.followText row) w os
  rwa [World.withFollow_self w row] at this
end HD
set_option maxHeartbeats 4000000
namespace K
open PySem L2 TX
def top(i:Nat):Stmt:=PySem.Challenge.pw_renamehall_k07_rules_asked.main.body.getD i (.Pass ⟨0,0,0,0⟩)
structure Txt (mg:Str->Option Value):Prop where
 b_ValueError:mg "ValueError" = none
 b_all:mg "all" = none
 b_enumerate:mg "enumerate" = none
 b_int:mg "int" = none
 b_isinstance:mg "isinstance" = none
 b_len:mg "len" = none
 b_list:mg "list" = none
 b_max:mg "max" = none
 b_min:mg "min" = none
 b_range:mg "range" = none
 b_reversed:mg "reversed" = none
 b_str:mg "str" = none
 b_tuple:mg "tuple" = none
 b_zip:mg "zip" = none
 NAME_SIGNS:∃t,mg "NAME_SIGNS" = some (.str (Ab "abcdefghijklmnopqrstuvwxyzABCDEFGHIJKLMNOPQRSTUVWXYZ0123456789-_.") t)
 GAP_SIGNS:∃t,mg "GAP_SIGNS" = some (.str (Ab "?*#@") t)
 MOST_GAPS:∃t,mg "MOST_GAPS" = some (.int 9 t)
 FIGURES:∃t,mg "FIGURES" = some (.str (Ab "0123456789") t)
 LETTERS:∃t,mg "LETTERS" = some (.str (Ab "abcdefghijklmnopqrstuvwxyzABCDEFGHIJKLMNOPQRSTUVWXYZ") t)
 FROM_ONE:∃t,mg "FROM_ONE" = some (.str (Ab "123456789") t)
 FROM_TWO:∃t,mg "FROM_TWO" = some (.str (Ab "23456789") t)
 MOST_FIGURES:∃t,mg "MOST_FIGURES" = some (.int 9 t)
 MOST_START:∃t,mg "MOST_START" = some (.int 1000000000 t)
structure Calls (P:Program) (w:World) (K:Af) (mg:Str->Option Value) (base:Heap):Prop where
 draw:Cal P w K mg base "_law_draw" 1 ["_law_feed", "_law_many"] spDraw
section
variable{P:Program}{w:World}{K:Af}{mg:Str->Option Value}{base:Heap}
abbrev q8q:Stmt:=top 52
theorem sc_draw:FnScope ["_law_feed", "_law_many", "_law_cell", "_law_number", "_law_found"] ["_law_feed", "_law_many"] (defScope q8q):=by trivial
theorem z3b (D : Df K mg "_law_draw" q8q ["_law_feed", "_law_many"]) (T : Txt mg) : Cal P w K mg base "_law_draw" 1 ["_law_feed", "_law_many"] spDrawB := by
  refine D.cal sc_draw (fun vs H Q E h => ?_) (fun f cdv A outer s H vs Q E hr h => ?_)
  · obtain ⟨a, b, m, rfl, _⟩ := h; rfl
  · obtain ⟨a, b, m, rfl, ⟨⟨i, j, ha⟩, ns, hb⟩, hm0, hm1, k⟩ := h;refine ⟨_, (q0c (q4e (q0p q0j (q0x (ix_k K rfl) (pv 0) q0f (fun _ _ => rfl)) q0f) (z4o (pv 0) q0f q4h)) (q0c (q0v (q0h (eq_k K rfl hr) (q0x (ix_k K rfl) (pv 0) q0f (fun _ _ => rfl)) q0f (nomark _)) (q0c (q0k (i := 2) sc_draw.nd rfl (by first | exact Or.inl rfl | exact Or.inr rfl) (q0x (ix_k K rfl) (pv 0) q0f (fun _ _ => rfl))) (q0c (q0v (q0h q3v (q0n (q1q K rfl) (by rfl) T.b_len Ax (q0a (q0x (ix_k K rfl) (pv 0) q0f (fun _ _ => rfl)) q0b)) q0f (nomark _)) (q0e (q0k (i := 2) sc_draw.nd rfl (by first | exact Or.inl rfl | exact Or.inr rfl) (q0x (ix_k K rfl) (q0x (ix_k K rfl) (pv 0) q0f (fun _ _ => rfl)) (q0p q7h (q0x (ix_k K rfl) (pv 0) q0f (fun _ _ => rfl)) (q0n (q1q K rfl) (by rfl) T.b_len Ax (q0a (q0x (ix_k K rfl) (pv 0) q0f (fun _ _ => rfl)) q0b))) (fun _ _ => rfl)))) q0i) (q0c (q0v (q0h q6c (pv 2) (q0p q4f q0f q0f) (nomark _)) (q0c (q0k (i := 3) sc_draw.nd rfl (by first | exact Or.inl rfl | exact Or.inr rfl) (q0p q7h (q0p z1g (q0p q0j (q0p q0j (q0p q7h (pv 2) q0f) (q0p z1g q0f (q0x (ix_k K rfl) (pv 0) q0f (fun _ _ => rfl)))) q0f) q0f) q0f)) (q0c (q0k (i := 3) sc_draw.nd rfl (by first | exact Or.inl rfl | exact Or.inr rfl) (q0p q7h (q0p z1g (pv 3) (q0p q0j (pv 3) q0f)) q0f)) (q0e (q0m (q0p q7h (q0p z2y (pv 3) q0f) (pv 1)))))) q0i) (q0e (q4e (pv 2) (z4o (pv 0) q0f q4h)))))) q0i) (q0c (q0k (i := 4) sc_draw.nd rfl (by first | exact Or.inl rfl | exact Or.inr rfl) (q0p q7h (q0x (ix_k K rfl) (pv 0) q0f (fun _ _ => rfl)) (pv 1))) (q0c (q4e (q0p z2y (q0x (ix_k K rfl) (pv 0) q0f (fun _ _ => rfl)) (pv 1)) (z4o (pv 0) q0f q4h)) (q0e (q0m (pv 4))))))), ?_⟩;have nba : b ≠ a := FeedAt.ne ⟨⟨i, j, ha⟩, ns, hb⟩;refine ⟨_, rfl, .inl ⟨a, _, 1, _, rfl, rfl, SqL.of ha, rfl, .inl ⟨_, _, rfl, rfl, _, rfl, a, _, 1, 1, rfl, rfl, ha, rfl, ?_⟩⟩⟩;generalize hH1 : upd H a _ = H1;have ha1 : H1 a = some (.lst [.ref b, .int (i + 1), .int j]) := by rw [← hH1]; exact q0d
    have hb1 : H1 b = some (.lst (ns.map V.int)) := by rw [← hH1, q0l nba]; exact hb
    have fd : ∀ (x y : Int), Fd a b H (upd H1 a (.lst [.ref b, .int x, .int y])) := fun x y => ⟨⟨⟨x, y, q0d⟩, ns, by rw [q0l nba]; exact hb1⟩, fun c o e hc => by rw [q0l hc, ← hH1, q0l hc]; exact e⟩
    have fd1 : Fd a b H H1 := ⟨⟨⟨_, _, ha1⟩, ns, hb1⟩, fun c o e hc => by rw [← hH1, q0l hc]; exact e⟩
    refine ⟨_, rfl, .inl ⟨a, _, 2, _, rfl, rfl, SqL.of ha1, rfl, .inl ⟨rfl, _, rfl, ?_⟩⟩⟩;have last : ∀ (H2 : Hp) (σ2 : St) (y : Int), H2 a = some (.lst [.ref b, .int (i + 1), .int y]) → (∀ x y : Int, Fd a b H (upd H2 a (.lst [.ref b, .int x, .int y]))) → σ2[0]? = some (some (.ref a)) → σ2[1]? = some (some (.int m)) → σ2.length = 5 →
        tSeq (tAsg (tOp (rI (fun _ j => 0 < j) fun i j => .int (i % j)) (tOp (rIx K) (tVar 0) (tC (.int 2))) (tVar 1)) (gName 4)) (tSeq (tAsg (tOp (rI CDivB fun i j => .int (i / j)) (tOp (rIx K) (tVar 0) (tC (.int 2))) (tVar 1)) (gSub (tVar 0) (tC (.int 2)) rSetL)) (tRet (tVar 4))) { nx := fun _ H' => Q .non H', rt := Q } σ2 H2 := by
      intro H2 σ2 y h2 f2 e0 e1 el;match σ2, e0, e1, el with
      | [x0, x1, x2, x3, x4], e0, e1, _ =>
        cases e0;cases e1;refine ⟨_, rfl, .inl ⟨a, _, 2, _, rfl, rfl, SqL.of h2, rfl, _, rfl, _, _, rfl, rfl, hm0, ?_⟩⟩;refine ⟨_, rfl, .inl ⟨a, _, 2, _, rfl, rfl, SqL.of h2, rfl, _, rfl, _, _, rfl, rfl, ⟨hm0, hm1⟩, _, rfl, a, _, 2, 2, rfl, rfl, h2, rfl, _, rfl, ?_⟩⟩;exact k _ _ (Iv _ (by lia)) (Hi _ hm0) (f2 _ _)
    refine ite2 (fun _ => ?_) (fun _ => last H1 _ j ha1 fd rfl rfl rfl);refine ⟨_, rfl, .inl ⟨a, _, 1, _, rfl, rfl, SqL.of ha1, rfl, ?_⟩⟩;refine ⟨_, rfl, .inl ⟨a, _, 0, _, rfl, rfl, SqL.of ha1, rfl, ⟨_, _, rfl, .inl ⟨_, SqL.of hb1, rfl⟩, ⟨_, _, rfl, rfl, _, rfl, ?_⟩⟩⟩⟩
    have rest : ∀ cell : Int, tSeq (tIfS (tTest (tOp (rI0 fun i j => .bl (decide (i < j))) (tVar 2) (tOp (rI CPow fun i j => .int (i ^ j.toNat)) (tC (.int 10)) (tC (.int 18)))))
          (tSeq (tAsg (tOp (rI (fun _ j => 0 < j) fun i j => .int (i % j)) (tOp rMulU (tOp rAddU (tOp rAddU (tOp (rI (fun _ j => 0 < j) fun i j => .int (i % j)) (tVar 2) (tC (.int 2147483647))) (tOp rMulU (tC (.int 613)) (tOp (rIx K) (tVar 0) (tC (.int 1))))) (tC (.int 7))) (tC (.int 48271))) (tC (.int 2147483647))) (gName 3))
            (tSeq (tAsg (tOp (rI (fun _ j => 0 < j) fun i j => .int (i % j)) (tOp rMulU (tVar 3) (tOp rAddU (tVar 3) (tC (.int 69621)))) (tC (.int 2147483629))) (gName 3))
              (tRet (tOp (rI (fun _ j => 0 < j) fun i j => .int (i % j)) (tOp (rI CDivB fun i j => .int (i / j)) (tVar 3) (tC (.int 64))) (tVar 1))))) tNext)
          (tAsg (tVar 2) (gSub (tVar 0) (tC (.int 2)) rSetL))
        { nx := fun σ2 H2 => tSeq (tAsg (tOp (rI (fun _ j => 0 < j) fun i j => .int (i % j)) (tOp (rIx K) (tVar 0) (tC (.int 2))) (tVar 1)) (gName 4)) (tSeq (tAsg (tOp (rI CDivB fun i j => .int (i / j)) (tOp (rIx K) (tVar 0) (tC (.int 2))) (tVar 1)) (gSub (tVar 0) (tC (.int 2)) rSetL)) (tRet (tVar 4))) { nx := fun _ H' => Q .non H', rt := Q } σ2 H2, rt := Q }
        [some (.ref a), some (.int m), some (.int cell), none, none] H1 := by
      intro cell;refine ⟨_, rfl, _, _, rfl, rfl, ⟨by decide, by decide, by decide⟩, _, _, rfl, rfl, _, rfl, ?_⟩;refine ite2 (fun _ => ?_) (fun _ => ?_)
      · refine ⟨_, rfl, _, _, rfl, rfl, (by show (0 : Int) < 2147483647; decide), ?_⟩;refine ⟨_, rfl, .inl ⟨a, _, 1, _, rfl, rfl, SqL.of ha1, rfl, .inl ⟨_, _, rfl, rfl, .inl ⟨by decide, by decide⟩, .inl ⟨_, _, rfl, rfl, .inl ⟨_, _, rfl, rfl, .inl ⟨_, _, rfl, rfl, .inr ⟨by decide, by decide⟩, _, _, rfl, rfl, (by show (0 : Int) < 2147483647; decide), ?_⟩⟩⟩⟩⟩⟩;generalize hn : ((cell % 2147483647 + 613 * (i + 1) + 7) * 48271) % 2147483647 = n;have n0 : 0 ≤ n := by rw [← hn]; exact Iv _ (by decide)
        have n1 : n < 2147483647 := by rw [← hn]; exact Hi _ (by decide)
        refine ⟨_, rfl, _, rfl, .inl ⟨_, _, rfl, rfl, .inl ⟨_, _, rfl, rfl, .inl ⟨by lia, by lia⟩, _, _, rfl, rfl, (by show (0 : Int) < 2147483629; decide), ?_⟩⟩⟩;refine ⟨_, rfl, _, _, rfl, rfl, ⟨by decide, by decide⟩, _, rfl, _, _, rfl, rfl, hm0, ?_⟩;exact k _ _ (Iv _ (by lia)) (Hi _ hm0) fd1
      · refine ⟨_, rfl, _, rfl, a, _, 2, 2, rfl, rfl, ha1, rfl, ?_⟩;refine last _ _ cell q0d (fun x y => ?_) rfl rfl rfl;have := fd x y;rw [z9v];exact this
    refine ite2 (fun hl => ?_) (fun _ => rest _);have hne : ns.map V.int ≠ [] := by
      intro z;rw [z] at hl;simp at hl
    obtain ⟨x, hx, ex⟩ := x0e (i + 1) hne;obtain ⟨c, rfl⟩ : ∃ c, x = V.int c := by
      obtain ⟨c, _, e⟩ := Nr.mp hx;exact ⟨c, e.symm⟩
    refine ⟨_, rfl, .inl ⟨a, _, 0, _, rfl, rfl, SqL.of ha1, rfl, ⟨_, rfl, .inl ⟨a, _, 1, _, rfl, rfl, SqL.of ha1, rfl, ⟨_, rfl, .inl ⟨a, _, 0, _, rfl, rfl, SqL.of ha1, rfl, ⟨_, _, rfl, .inl ⟨_, SqL.of hb1, rfl⟩, _, _, rfl, rfl, ?_, ?_⟩⟩⟩⟩⟩⟩⟩
    · have : 0 < (ns.map V.int).length := by
        cases e : ns.map V.int with
        | nil => exact absurd e hne
        | cons _ _ => simp
      show (0 : Int) < ((ns.map V.int).length : Int);lia
    · exact .inl ⟨b, _, _, _, rfl, rfl, SqL.of hb1, ex, rest c⟩
theorem x0t(D:Df K mg "_law_draw" q8q ["_law_feed", "_law_many"])(T:Txt mg):Cal P w K mg base "_law_draw" 1 ["_law_feed", "_law_many"] spDraw :=
 (z3b D T).imp fun vs H Q E ⟨a,b,m,h1,h2,h3,h4,h5⟩=>⟨a,b,m,h1,h2,h3,by lia,h5⟩
abbrev z1t:Stmt:=top 55
theorem x0u:FnScope ["_law_feed", "_law_signs", "_law_size"] ["_law_feed", "_law_signs", "_law_size"] (defScope z1t):=by trivial
theorem x0v(D:Df K mg "_law_text" z1t ["_law_feed", "_law_signs", "_law_size"])(T:Txt mg)(draw:Cal P w K mg base "_law_draw" 1 ["_law_feed", "_law_many"] spDraw):Cal P w K mg base "_law_text" 2 ["_law_feed", "_law_signs", "_law_size"] spText:=by
 refine D.cal x0u (fun vs H Q E h=>?_) (fun f cdv A outer s H vs Q E hr h=>?_)
 ·obtain⟨a,b,g,n,rfl,_⟩:=h;rfl
 ·obtain⟨a,b,g,n,rfl,F,hg0,hg1,hn0,hn1,k⟩:=h;have C:Calls P w K mg base:=⟨draw⟩
  refine⟨_,(q0e (q0m (@bm_k _ _ _ _ _ _ _ _ _ _ _ _ K rfl Eu Mi Mj (z8y K rfl) q0g (q0a (q8f ["_law_k"] [("_law_signs",1),("_law_feed",0)] rfl (q3h rfl T.b_range (q0a (pv 2) q0b)) (fun _ _ _ _ _=>(q0s (i:=0) (show(["_law_k", "_law_signs", "_law_feed"]:List Str).Nodup by decide +kernel) rfl (by trivial))) (fun _ _ _ _ _=>z1d) (fun _ _ _ _ _=>(q0x (ix_k K rfl) (pv 1) (pe_c C.draw hr (q0a (pv 2) (q0a (q0n (q1q K rfl) (by rfl) T.b_len Ax (q0a (pv 1) q0b)) q0b))) (fun _ _=>rfl)))) q0b) (by rfl) (by rfl) (by rfl) (by rfl) (by rfl)))),?_⟩;refine⟨rfl,_,rfl,n,rfl,by lia,by lia,fun D hD=>?_⟩;refine z1i (n:=n.toNat) (fun i ys H'=>∃cs:List Nat,ys=cs.map (fun c=>V.str ⟨#[c]⟩)/\cs.length=i/\i<=n.toNat/\(∀c∈cs,c∈tl g)/\Fd a b H H'/\H' D=some (.lst ys)) ⟨[],rfl,rfl,Bg _,fun _ h=>(nomatch h),(Fd.refl F).new hD,q0d⟩ (fun i ys H' ⟨cs,_,_,_,_,_,h⟩=>h) ?_ ?_
  ·rintro i ys H' hi ⟨cs,rfl,hl,_,hc,fd,hHD⟩;refine⟨_,rfl,_,rfl,_,rfl,_,_,rfl,⟨small (by lia),rfl⟩,a,b,_,rfl,fd.feed,by lia,by lia,fun r H2 r0 r1 fd2=>?_⟩;have hl2:(tl g).length=g.length:=(len g).symm;obtain⟨c,hc1,hc2⟩:=q3f (xs:=tl g) r0 (by lia);refine .inr (.inr ⟨g,r,c,rfl,rfl,small (by lia),hc2,?_⟩);have hDa:D≠a:=fun z=>by subst z;exact F.na hD rfl
   refine⟨fd2.at hHD hDa,small' (by rw[Ai];lia),cs++[c],by rw[Bi];rfl,by rw[Ae,hl];rfl,by lia,fun d hd=>?_,(fd.trans fd2).put F hD,q0d⟩;rcases Bh.mp hd with z|z
   ·exact hc d z
   ·rw[Au.mp z];exact Am hc1
  ·rintro ys H' ⟨cs,rfl,hl,_,hc,fd,hHD⟩;have e:cs.map (fun c=>V.str ⟨#[c]⟩)=(cs.map fun c=>(⟨#[c]⟩:Str)).map V.str:=by rw[Hj];rfl
   refine⟨_,D,cs.map fun c=>⟨#[c]⟩,rfl,rfl,.inl (SqL.of (by rw[<- e];exact hHD)),?_,?_⟩
   ·rw[z7p,Ai];have:(Ab "").length=0:=by decide +kernel
    rw[this];lia
   ·have z:=z5o cs;rw[z];exact k cs H' hl hc fd
abbrev q2x:Stmt:=top 53
theorem q8r:FnScope [] [] (defScope q2x):=by trivial
theorem q4v(D:Df K mg "_law_name_signs" q2x []):Cal P w K mg base "_law_name_signs" 1 [] (spConst NSs):=by
 refine D.cal q8r (fun vs H Q E h=>?_) (fun f cdv A outer s H vs Q E hr h=>?_)
 ·obtain⟨rfl,_⟩:=h;rfl
 ·obtain⟨rfl,k⟩:=h;refine⟨_,(q0e (q0m q0g)),?_⟩;exact k
def spAsk:Sp:=fun vs H Q _=>∃l,vs=[.str (mk l)]/\Good l/\∀H',Same H H'->Q .non H'
theorem gn_in:∀c,decide (c∈tl (Ab "?*#@" ++ Ab "abcdefghijklmnopqrstuvwxyzABCDEFGHIJKLMNOPQRSTUVWXYZ0123456789-_."))=decide (c∈GS\/c∈NS):=fun c=>by
 rw[q1d];exact decide_eq_decide.mpr Bh
abbrev q2l:Stmt:=top 14
theorem sc_ask_signs:FnScope ["pattern", "gaps", "at", "sign"] ["pattern"] (defScope q2l):=by trivial
theorem z0i(D:Df K mg "ask_signs" q2l ["pattern"])(T:Txt mg):Cal P w K mg base "ask_signs" 1 ["pattern"] spAsk:=by
 refine D.cal sc_ask_signs (fun vs H Q E h=>?_) (fun f cdv A outer s H vs Q E hr h=>?_)
 ·obtain⟨l,rfl,_⟩:=h;rfl
 ·obtain⟨l,rfl,hg,k⟩:=h;obtain⟨_,g_NAME_SIGNS⟩:=T.NAME_SIGNS;obtain⟨_,g_GAP_SIGNS⟩:=T.GAP_SIGNS;obtain⟨_,g_MOST_GAPS⟩:=T.MOST_GAPS;refine⟨_,(q0c (q0k (i:=1) sc_ask_signs.nd rfl (by trivial) q0f) (q0e (q1y Ca rfl (@z2o _ _ _ _ _ _ _ _ K rfl rfl T.b_enumerate (q0a (pv 0) q0b) (by rfl)) (@q2f _ _ _ _ (2) _ K rfl rfl (q0u (q0s (i:=2) sc_ask_signs.nd rfl (by trivial)) (q0u (q0s (i:=3) sc_ask_signs.nd rfl (by trivial)) q1o)) (by rfl) (by rfl)) (q1g (q0v (q0h (in_k K rfl) (pv 3) (q0t (v:=.str (Ab "?*#@")) (by rfl) g_GAP_SIGNS ⟨_,rfl⟩) (by with_unfolding_all rfl)) (q0e (z4p (i:=1) sc_ask_signs.nd rfl (by trivial) q0f z1c)) q0i) (q0e (q0v (pt_j (@PW.pt _ _ _ (q4d (q0h q3v (pv 1) (q0t (v:=.int 9) (by rfl) g_MOST_GAPS ⟨_,rfl⟩) (nomark _)) (q3e (q0h (z1h K rfl) (pv 3) (q0p q0j (q0t (v:=.str (Ab "?*#@")) (by rfl) g_GAP_SIGNS ⟨_,rfl⟩) (q0t (v:=.str (Ab "abcdefghijklmnopqrstuvwxyzABCDEFGHIJKLMNOPQRSTUVWXYZ0123456789-_.")) (by rfl) g_NAME_SIGNS ⟨_,rfl⟩)) (by with_unfolding_all rfl)))))) (q0e q2a) q0i)))))),?_⟩;have hlen:(mk l).length=l.length:=by rw[len,q0z]
  refine⟨_,rfl,.inl ⟨_,rfl,q4l (fun i σ' H'=>∃x2 x3,σ'=[some (.str (mk l)),some (.int (((l.take i).filter fun c=>decide (c∈GS)).length:Nat)),x2,x3]/\Same H H') ⟨none,none,rfl,Same.refl H⟩ ?_ ?_⟩⟩
  ·rintro i c T' σ' H' hc ⟨x2,x3,rfl,sm⟩ hT;have hci:l[i]?=some c:=by have:=get hc;rw[q0z] at this;exact this
   have hcl:c∈l:=Am hci;have hi:i<l.length:=(Ak.mp hci).1;have hcount:((l.take (i+1)).filter fun c=>decide (c∈GS)).length<=9:=by
    refine Aw (Ia ?_) hg.gp;exact(Fh _ _).filter _
   have htake:((l.take (i+1)).filter fun c=>decide (c∈GS)).length=((l.take i).filter fun c=>decide (c∈GS)).length+(if c∈GS then 1 else 0):=by
    rw[q1e hci,Fz,Ae];congr 1;by_cases h:c∈GS
    ·rw[if_pos h,z2r h];rfl
    ·rw[if_neg h,z2s h];rfl
   refine⟨T',_,rfl,SqT.of q0d,rfl,_,_,rfl,_,_,rfl,rfl,?_⟩;generalize hH2:upd H' T' _=H2;have sm2:Same H H2:=by rw[<- hH2];exact sm.new hT
   refine⟨fun σ2 H3=>σ2=[some (.str (mk l)),some (.int (((l.take (i+1)).filter fun c=>decide (c∈GS)).length:Nat)),some (.int (i:Nat)),some (.str ⟨#[c]⟩)]/\H3=H2,?_,?_⟩
   ·rintro σ2 H3 ⟨rfl,rfl⟩;refine⟨fun b H4=>b=false/\H4=H3,?_,?_⟩
    ·rintro b H4 ⟨rfl,rfl⟩;exact iteF ⟨_,_,rfl,sm2⟩
    ·refine⟨_,rfl,_,_,rfl,rfl,_,rfl,?_⟩;refine iteB (fun h=>?_) (fun h=>?_)
     ·exact absurd (of_decide_eq_true h) (by lia)
     ·refine⟨_,rfl,.inr (.inl ⟨_,_,rfl,rfl,by decide +kernel,.inl ⟨_,_,rfl,rfl,_,rfl,?_,rfl⟩⟩)⟩;rw[q3u,gn_in,decide_eq_true (hg.sg c hcl)];rfl
   ·refine⟨_,rfl,.inl ⟨_,_,rfl,rfl,_,rfl,?_⟩⟩;rw[q3u];refine ite2 (fun h=>?_) (fun h=>?_)
    ·have h':c∈GS:=of_decide_eq_true h;refine⟨_,rfl,_,_,rfl,rfl,?_,rfl⟩;rw[htake,if_pos h'];rfl
    ·have h':¬c∈GS:=fun z=>h (decide_eq_true z);refine⟨?_,rfl⟩;rw[htake,if_neg h'];rfl
  ·rintro σ' H' ⟨x2,x3,rfl,sm⟩;exact k _ sm
def spTextParts:Sp:=fun vs H Q _=>∃t,vs=[.str (mk t)]/\∀L H',H L=none->Same H H'->HL H' L (tp t)->Q (.ref L) H'
theorem z0j{t:List Nat}:decide (V.str (mk t)=V.str (Ab ""))=decide (t=[]):=by
 refine decide_eq_decide.mpr ⟨fun h=>?_,fun h=>by rw[h];rfl⟩;injection h with h;have:=congrArg tl h;rw[q0z] at this;rw[this];decide +kernel
abbrev q2y:Stmt:=top 15
theorem q8s:FnScope ["text"] ["text"] (defScope q2y):=by trivial
theorem q4w(D:Df K mg "text_parts" q2y ["text"])(T:Txt mg):Cal P w K mg base "text_parts" 1 ["text"] spTextParts:=by
 refine D.cal q8s (fun vs H Q E h=>?_) (fun f cdv A outer s H vs Q E hr h=>?_)
 ·obtain⟨t,rfl,_⟩:=h;rfl
 ·obtain⟨t,rfl,k⟩:=h;refine⟨_,(q0c (q0v (q0h (eq_k K rfl hr) (pv 0) q0g (nomark _)) (q0e (q0m (q1b q0b))) q0i) (q0e (q0m (q1b (q0a (q0o (q0a q0g (q0a (pv 0) q0b))) q0b))))),?_⟩;refine⟨_,rfl,.inl ⟨rfl,_,rfl,?_⟩⟩;rw[z0j];refine ite2 (fun h=>?_) (fun h=>?_)
  ·have h':=of_decide_eq_true h;refine⟨by show 0<=sizeLine;decide,fun L hL=>k L _ hL ((Same.refl H).new hL) ⟨[],q0d,?_⟩⟩;unfold tp;rw[if_pos h'];exact .nil
  ·have h':¬t=[]:=fun z=>h (decide_eq_true z);refine⟨_,rfl,by show 2<=sizeLine;decide,fun T1 h1=>⟨by show 1<=sizeLine;decide,fun L hL=>k L _ ?_ (((Same.refl H).new h1).new hL) ⟨[T1],q0d,?_⟩⟩⟩
   ·have s1:Same H (upd H T1 (.tup [.str (Ab "text"),.str (mk t)])):=(Same.refl H).new h1;exact s1.free hL
   ·unfold tp;rw[if_neg h'];refine .cons ?_ .nil;have:T1≠L:=q0w q0d hL;rw[q0l this];exact q0d
structure Calls1 (P:Program) (w:World) (K:Af) (mg:Str->Option Value) (base:Heap):Prop where
 ask_signs:Cal P w K mg base "ask_signs" 1 ["pattern"] spAsk
 text_parts:Cal P w K mg base "text_parts" 1 ["text"] spTextParts
def spPartsOf:Sp:=fun vs H Q _=>∃l,vs=[.str (mk l)]/\Good l/\∀L H',H L=none->Same H H'->HL H' L (parse [] l)->Q (.ref L) H'
theorem q4x{l:List Nat}{i j:Nat}(h1:i<=j)(h2:j<=l.length):Iz (mk l) (some (i:Int)) (some (j:Int))=mk ((l.drop i).take (j-i)):=by
 show Bs (mk l) (some (i:Int)) (some (j:Int))=_;rw[StrLaws.sliceText_plain ⟨by lia,by lia,by rw[show((mk l).cps.toList).length=l.length from congrArg List.length (q0z l)];lia⟩];have e1:((i:Nat):Int).toNat=i:=by lia
 have e2:(((j:Nat):Int)-((i:Nat):Int)).toNat=j-i:=by lia
 show mk (((mk l).cps.toList.drop ((i:Nat):Int).toNat).take (((j:Nat):Int)-((i:Nat):Int)).toNat)=_;rw[show(mk l).cps.toList=l from q0z l,e1,e2]
abbrev q2z:Stmt:=top 16
theorem sc_parts_of:FnScope ["pattern", "parts", "begin", "at", "sign"] ["pattern"] (defScope q2z):=by trivial
theorem z1u(D:Df K mg "parts_of" q2z ["pattern"])(T:Txt mg)(C:Calls1 P w K mg base):Cal P w K mg base "parts_of" 2 ["pattern"] spPartsOf:=by
 refine D.cal sc_parts_of (fun vs H Q E h=>?_) (fun f cdv A outer s H vs Q E hr h=>?_)
 ·obtain⟨l,rfl,_⟩:=h;rfl
 ·obtain⟨l,rfl,hg,k⟩:=h;obtain⟨_,g_NAME_SIGNS⟩:=T.NAME_SIGNS;obtain⟨_,g_GAP_SIGNS⟩:=T.GAP_SIGNS;refine⟨_,(q0c (q0v (q0h (eq_k K rfl hr) (pv 0) q0g (nomark _)) (q0e q2a) q0i) (q0c (q0y (pe_c C.ask_signs hr (q0a (pv 0) q0b))) (q0c (q0k (i:=1) sc_parts_of.nd rfl (by trivial) (q1b q0b)) (q0c (q0k (i:=2) sc_parts_of.nd rfl (by trivial) q0f) (q0c (q1y Ca rfl (@z2o _ _ _ _ _ _ _ _ K rfl rfl T.b_enumerate (q0a (pv 0) q0b) (by rfl)) (@q2f _ _ _ _ (2) _ K rfl rfl (q0u (q0s (i:=3) sc_parts_of.nd rfl (by trivial)) (q0u (q0s (i:=4) sc_parts_of.nd rfl (by trivial)) q1o)) (by rfl) (by rfl)) (q0e (q0v (q0h (in_k K rfl) (pv 4) (q0t (v:=.str (Ab "?*#@")) (by rfl) g_GAP_SIGNS ⟨_,rfl⟩) (by with_unfolding_all rfl)) (q0c (q0y (@bm_k _ _ _ _ _ _ _ _ _ _ _ _ K rfl Bc Fs Ft q4j (pv 1) (q0a (pe_c C.text_parts hr (q0a (q1n (sl_k K rfl) (pv 0) (q1f (pv 2)) (q1f (pv 3))) q0b)) q0b) (by rfl) (by rfl) (by rfl) (by rfl) (by rfl))) (q0c (q0y (@bm_k _ _ _ _ _ _ _ _ _ _ _ _ K rfl Bc Bv Bw q1j (pv 1) (q0a (q0o (q0a q0g (q0a (pv 4) q0b))) q0b) (by rfl) (by rfl) (by rfl) (by rfl) (by rfl))) (q0e (q0k (i:=2) sc_parts_of.nd rfl (by trivial) (q0p q0j (pv 3) q0f))))) q0i))) (q0c (q0y (@bm_k _ _ _ _ _ _ _ _ _ _ _ _ K rfl Bc Fs Ft q4j (pv 1) (q0a (pe_c C.text_parts hr (q0a (q1n (sl_k K rfl) (pv 0) (q1f (pv 2)) q6f) q0b)) q0b) (by rfl) (by rfl) (by rfl) (by rfl) (by rfl))) (q0e (q0m (pv 1))))))))),?_⟩;have hlen:(mk l).length=l.length:=by rw[len,q0z]
  have hl0:=hg.len;refine⟨_,rfl,.inl ⟨rfl,_,rfl,?_⟩⟩;rw[z0j,decide_eq_false hg.ne];refine iteF ?_;refine⟨_,rfl,l,rfl,hg,fun H1 sm1=>?_⟩;refine⟨by show 0<=sizeLine;decide,fun L hL=>?_⟩;have hL0:H L=none:=sm1.free hL;have ext:∀(H':Hp) (acc:List Pt) (t:List Nat) (M:Addr) (H2:Hp),HL H' L acc->acc.length<=5000->Same H H'->H' M=none->Same H' H2->HL H2 M (tp t) ->
    ∃xs zs,H2 L=some (.lst xs)/\H2 M=some (.lst zs)/\xs.length+zs.length<=sizeLine/\HL (upd H2 L (.lst (xs++zs))) L (acc++tp t)/\Same H (upd H2 L (.lst (xs++zs))):=by
   intro H' acc t M H2 hl ha sm hM sm2 hm;obtain⟨Ts,h1,h2⟩:=hl.ex;obtain⟨Us,h3,h4⟩:=hm.ex;have l1:=h2.len;have l2:=h4.len;have l3:(tp t).length<=1:=by unfold tp;split<;>simp
   have hL2:H2 L=some (.lst (Ts.map V.ref)):=sm2 _ _ h1;refine⟨_,_,hL2,h3,by rw[Ai,Ai];exact small (by lia),⟨Ts++Us,by rw[Bi];exact q0d,?_⟩,(sm.trans sm2).put hL0⟩;exact Tups.app ((h2.keep (Same.tk sm2)).keep ((TKeep.refl H2).lst hL2)) (h4.keep ((TKeep.refl H2).lst hL2))
  refine⟨_,rfl,.inl ⟨_,rfl,q4l (fun i σ' H'=>∃acc x3 x4 bg,σ'=[some (.str (mk l)),some (.ref L),some (.int (bg:Nat)),x3,x4]/\Same H H'/\HL H' L acc/\bg<=i/\i<=l.length/\acc.length<=2*i/\acc++parse ((l.drop bg).take (i-bg)) (l.drop i)=parse [] l) ⟨[],none,none,0,rfl,(sm1.new hL),⟨[],q0d,.nil⟩,Ah _,Bg _,Ah _,by simp⟩ ?_ ?_⟩⟩
  ·rintro i c T' σ' H' hc ⟨acc,x3,x4,bg,rfl,sm,hl,hbi,hil,hal,hp⟩ hT;have hci:l[i]?=some c:=by have:=get hc;rw[q0z] at this;exact this
   have hi:i<l.length:=(Ak.mp hci).1;have hdr:l.drop i=c::l.drop (i+1):=by
    have:=He hi;rw[this];congr 1;exact(Ak.mp hci).2
   refine⟨T',_,rfl,SqT.of q0d,rfl,_,_,rfl,_,_,rfl,rfl,?_⟩;generalize hH2:upd H' T' _=H2;have s12:Same H' H2:=by rw[<- hH2];exact(Same.refl H').new hT
   have sm2:Same H H2:=sm.trans s12;have hl2:HL H2 L acc:=hl.same s12;refine⟨_,rfl,.inl ⟨_,_,rfl,rfl,_,rfl,?_⟩⟩;rw[q3u];rw[hdr,parse] at hp;refine ite2 (fun h=>?_) (fun h=>?_)
   ·have h':c∈GS:=of_decide_eq_true h;rw[if_pos h'] at hp;refine⟨_,rfl,.inl ⟨rfl,hl2.sq⟩,_,rfl,_,rfl,_,rfl,_,rfl,_,rfl,.inl ⟨_,rfl,small (by lia),?_⟩⟩;rw[q4x hbi hil];refine⟨_,rfl,fun M H3 hM sm3 hm=>?_⟩;obtain⟨xs,zs,e1,e2,e3,e4,e5⟩:=ext H2 acc _ M H3 hl2 (by lia) sm2 hM sm3 hm;refine⟨L,M,xs,zs,rfl,rfl,e1,e2,e3,?_⟩;generalize hH4:upd H3 L _=H4;rw[hH4] at e4 e5;refine⟨_,rfl,.inl ⟨rfl,e4.sq⟩,_,rfl,by show 2<=sizeLine;decide,fun T2 hT2=>?_⟩;have e6:HL (upd H4 T2 (.tup (Pt.gp c).vs)) L _:=e4.new hT2;obtain⟨Ts,h1,h2⟩:=e6.ex;have htl:(tp ((l.drop bg).take (i-bg))).length<=1:=by unfold tp;split<;>simp
    have hTl:=h2.len;rw[Ae] at hTl;refine⟨L,_,_,rfl,rfl,h1,by rw[Ai];exact small' (by lia),?_⟩;refine⟨_,rfl,.inl ⟨_,_,rfl,rfl,?_⟩⟩;have hT2L:T2≠L:=fun z=>by subst z;rw[q0d] at h1;cases h1
    refine⟨acc++tp ((l.drop bg).take (i-bg))++[.gp c],some (.int (i:Nat)),some (.str ⟨#[c]⟩),i+1,rfl,(e5.new hT2).put hL0,⟨Ts++[T2],by rw[Bi];exact q0d,?_⟩,Ah _,hi,by rw[Ae,Ae,Aq];lia,?_⟩
    ·refine Tups.app (h2.keep ((TKeep.refl _).lst h1)) (.cons ?_ .nil);rw[q0l hT2L];exact q0d
    ·rw[<- hp];simp
   ·have h':¬c∈GS:=fun z=>h (decide_eq_true z);rw[if_neg h'] at hp;refine⟨acc,_,_,bg,rfl,sm2,hl2,by lia,hi,by lia,?_⟩;rw[<- hp];congr 2;have e1:i+1-bg=(i-bg)+1:=by lia
    rw[e1];refine q1e ?_;rw[Ge];have e2:bg+(i-bg)=i:=by lia
    rw[e2];exact hci
  ·rintro σ' H' ⟨acc,x3,x4,bg,rfl,sm,hl,hbi,hil,hal,hp⟩;refine⟨_,rfl,.inl ⟨rfl,hl.sq⟩,_,rfl,_,rfl,_,rfl,.inl ⟨_,rfl,small (by lia),?_⟩⟩;have hbl:bg<=l.length:=by lia
   rw[q3q (by lia) (by rw[q0z];lia),q0z];refine⟨_,rfl,fun M H3 hM sm3 hm=>?_⟩;obtain⟨xs,zs,e1,e2,e3,e4,e5⟩:=ext H' acc _ M H3 hl (by lia) sm hM sm3 hm;refine⟨L,M,xs,zs,rfl,rfl,e1,e2,e3,_,rfl,?_⟩;refine k L _ hL0 e5 ?_;rw[hlen] at hp;have e6:(l.drop bg).take (l.length-bg)=l.drop bg:=Cs (by rw[Bx];exact Ah _);rw[Gw,parse,e6] at hp;have e7:((bg:Nat):Int).toNat=bg:=by lia
   rw[e7] at e4;rw[<- hp];exact e4
def spAllOf:Sp:=fun vs H Q _=>∃t g,vs=[.str (mk t),.str g]/\t.length<=1000/\∀H',Same H H'->Q (.bl (allOf t (tl g))) H'
abbrev q6s:Stmt:=top 10
theorem z6h:FnScope ["text", "signs"] ["text", "signs"] (defScope q6s):=by trivial
theorem z6i(D:Df K mg "all_of" q6s ["text", "signs"])(T:Txt mg):Cal P w K mg base "all_of" 1 ["text", "signs"] spAllOf:=by
 refine D.cal z6h (fun vs H Q E h=>?_) (fun f cdv A outer s H vs Q E hr h=>?_)
 ·obtain⟨t,g,rfl,_⟩:=h;rfl
 ·obtain⟨t,g,rfl,hl,k⟩:=h;refine⟨_,(q0e (q0m (pe_j (z2g (q5b (ne_k K rfl hr) (pv 0) q0g (nomark _)) (z2f (q0n (all_k K rfl rfl) (by rfl) T.b_all (by decide +kernel) (q0a (q8f ["sign"] [("signs",1)] rfl (@q6n _ _ _ _ K rfl (pv 0)) (fun _ _ _ _ _=>(q0s (i:=0) (show(["sign", "signs"]:List Str).Nodup by decide +kernel) rfl (by trivial))) (fun _ _ _ _ _=>z1d) (fun _ _ _ _ _=>(q5b (in_k K rfl) (pv 0) (pv 1) (by with_unfolding_all rfl)))) q0b))))))),?_⟩;refine⟨fun v H'=>v=.bl (allOf t (tl g))/\Same H H',?_,?_⟩
  ·rintro v H' ⟨rfl,sm⟩;exact k H' sm
  refine⟨_,rfl,.inl ⟨rfl,_,rfl,?_⟩⟩;rw[z0j];refine iteB (fun h=>?_) (fun h=>?_)
  ·have hne:¬t=[]:=fun z=>by rw[decide_eq_true z] at h;cases h
   refine⟨_,rfl,.inr (.inr ⟨mk t,rfl,fun D hD=>?_⟩)⟩;refine z5m (fun i ys H'=>ys=(t.take i).map (fun c=>V.bl (decide (c∈tl g)))/\Same H H'/\H' D=some (.lst ys)/\ys.length<=i/\i<=t.length) ⟨rfl,(Same.refl H).new hD,q0d,Ah _,Bg _⟩ (fun i ys H' h=>h.2.2.1) ?_ ?_
   ·rintro i ys H' c hc ⟨rfl,sm,hHD,hle,_⟩;have hci:t[i]?=some c:=by have:=get hc;rw[q0z] at this;exact this
    have hi:i<t.length:=(Ak.mp hci).1;refine⟨_,rfl,_,rfl,.inl ⟨_,_,rfl,rfl,hHD,small' (by lia),?_,sm.put hD,q0d,?_,hi⟩⟩
    ·rw[q1e hci,Bi,q3u];rfl
    ·rw[Ae,Aq];lia
   ·rintro ys H' ⟨rfl,sm,hHD,_,_⟩;have e3:t.take (mk t).length=t:=by rw[q0r];exact Cs (Ah _)
    rw[e3] at hHD;refine⟨D,t.map fun c=>decide (c∈tl g),rfl,SqL.of (by rw[Hj];exact hHD),?_,sm⟩;unfold allOf;rw[decide_eq_true hne,Bool.true_and,List.all_map];rfl
  ·have he:t=[]:=Cv fun z=>by rw[decide_eq_false z] at h;cases h
   refine⟨?_,Same.refl H⟩;subst he;rfl
def spGapTakes:Sp:=fun vs H Q _=>∃c t,vs=[.str (mk [c]),.str (mk t)]/\t.length<=1000/\∀H',Same H H'->Q (.bl (gapTakes c t)) H'
structure CallsA (P:Program) (w:World) (K:Af) (mg:Str->Option Value) (base:Heap):Prop where
 all_of:Cal P w K mg base "all_of" 1 ["text", "signs"] spAllOf
theorem lit1(c d:Nat)(s:String)(h:Ab s=mk [d]):decide (V.str (mk [c])=V.str (Ab s))=decide (c=d):=by
 rw[h,dec_str];exact decide_eq_decide.mpr ⟨fun z=>by injection z,fun z=>by rw[z]⟩
theorem x0w(t:List Nat):decide (V.int (((mk t).length:Nat):Int)=V.int 1)=decide (t.length=1):=by
 rw[q0r];exact decide_eq_decide.mpr ⟨fun z=>by injection z with z;lia,fun z=>by rw[z];rfl⟩
abbrev q3k:Stmt:=top 41
theorem z0k:FnScope ["gap_sign", "text"] ["gap_sign", "text"] (defScope q3k):=by trivial
theorem z0l(D:Df K mg "gap_takes" q3k ["gap_sign", "text"])(T:Txt mg)(C:CallsA P w K mg base):Cal P w K mg base "gap_takes" 2 ["gap_sign", "text"] spGapTakes:=by
 refine D.cal z0k (fun vs H Q E h=>?_) (fun f cdv A outer s H vs Q E hr h=>?_)
 ·obtain⟨c,t,rfl,_⟩:=h;rfl
 ·obtain⟨c,t,rfl,hl,k⟩:=h;obtain⟨_,g_FIGURES⟩:=T.FIGURES;obtain⟨_,g_LETTERS⟩:=T.LETTERS;refine⟨_,(q0c (q0v (q0h (eq_k K rfl hr) (pv 0) q0g (nomark _)) (q0e (q0m (q5b (eq_k K rfl hr) (q0n (q1q K rfl) (by rfl) T.b_len Ax (q0a (pv 1) q0b)) q0f (nomark _)))) q0i) (q0c (q0v (q0h (eq_k K rfl hr) (pv 0) q0g (nomark _)) (q0e (q0m (pe_c C.all_of hr (q0a (pv 1) (q0a (q0t (v:=.str (Ab "0123456789")) (by rfl) g_FIGURES ⟨_,rfl⟩) q0b))))) q0i) (q0c (q0v (q0h (eq_k K rfl hr) (pv 0) q0g (nomark _)) (q0e (q0m (pe_c C.all_of hr (q0a (pv 1) (q0a (q0t (v:=.str (Ab "abcdefghijklmnopqrstuvwxyzABCDEFGHIJKLMNOPQRSTUVWXYZ")) (by rfl) g_LETTERS ⟨_,rfl⟩) q0b))))) q0i) (q0e (q0m q2s))))),?_⟩;have hlen:=q0r t;refine⟨_,rfl,.inl ⟨rfl,_,rfl,?_⟩⟩;rw[lit1 c 63 "?" (by decide +kernel)];refine ite2 (fun h=>?_) (fun h=>?_)
  ·have h':c=63:=of_decide_eq_true h;refine⟨_,rfl,_,_,rfl,⟨small (by lia),rfl⟩,.inl ⟨rfl,?_⟩⟩;rw[x0w];have:=k H (Same.refl H);unfold gapTakes at this;rw[if_pos h'] at this;exact this
  have n1:¬c=63:=fun z=>h (decide_eq_true z);refine⟨_,rfl,.inl ⟨rfl,_,rfl,?_⟩⟩;rw[lit1 c 35 "#" (by decide +kernel)];refine ite2 (fun h=>?_) (fun h=>?_)
  ·have h':c=35:=of_decide_eq_true h;refine⟨_,rfl,t,_,rfl,hl,fun H' sm=>?_⟩;have:=k H' sm;unfold gapTakes at this;rw[if_neg n1,if_pos h'] at this;exact this
  have n2:¬c=35:=fun z=>h (decide_eq_true z);refine⟨_,rfl,.inl ⟨rfl,_,rfl,?_⟩⟩;rw[lit1 c 64 "\x40" (by decide +kernel)];refine ite2 (fun h=>?_) (fun h=>?_)
  ·have h':c=64:=of_decide_eq_true h;refine⟨_,rfl,t,_,rfl,hl,fun H' sm=>?_⟩;have:=k H' sm;unfold gapTakes at this;rw[if_neg n1,if_neg n2,if_pos h'] at this;exact this
  have n3:¬c=64:=fun z=>h (decide_eq_true z);have:=k H (Same.refl H);unfold gapTakes at this;rw[if_neg n1,if_neg n2,if_neg n3] at this;exact this
structure CallsB (P:Program) (w:World) (K:Af) (mg:Str->Option Value) (base:Heap):Prop where
 gap_takes:Cal P w K mg base "gap_takes" 2 ["gap_sign", "text"] spGapTakes
def spTakes:Sp:=fun vs H Q _=>∃(a:Addr) (p:Pt) (t:List Nat),vs=[.ref a,.str (mk t)]/\H a=some (.tup p.vs)/\p.ok/\t.length<=1000/\∀H',Same H H'->Q (.bl (p.takes t)) H'
theorem wtext:decide (V.str (Ab "text")=V.str (Ab "text"))=true:=decide_eq_true rfl
theorem wgap:decide (V.str (Ab "gap")=V.str (Ab "text"))=false:=by decide +kernel
abbrev q8t:Stmt:=top 42
theorem sc_takes:FnScope ["part", "text", "sort", "what"] ["part", "text"] (defScope q8t):=by trivial
theorem z8d(D:Df K mg "takes" q8t ["part", "text"])(T:Txt mg)(C:CallsB P w K mg base):Cal P w K mg base "takes" 3 ["part", "text"] spTakes:=by
 refine D.cal sc_takes (fun vs H Q E h=>?_) (fun f cdv A outer s H vs Q E hr h=>?_)
 ·obtain⟨a,p,t,rfl,_⟩:=h;rfl
 ·obtain⟨a,p,t,rfl,ha,hok,hl,k⟩:=h;refine⟨_,(q0c (q4e (pv 0) (@q2f _ _ _ _ (2) _ K rfl rfl (q0u (q0s (i:=2) sc_takes.nd rfl (by trivial)) (q0u (q0s (i:=3) sc_takes.nd rfl (by trivial)) q1o)) (by rfl) (by rfl))) (q0c (q0v (q0h (eq_k K rfl hr) (pv 2) q0g (nomark _)) (q0e (q0m (q5b (eq_k K rfl hr) (pv 1) (pv 3) (nomark _)))) q0i) (q0e (q0m (pe_c C.gap_takes hr (q0a (pv 3) (q0a (pv 1) q0b))))))),?_⟩;refine⟨_,rfl,a,_,rfl,SqT.of ha,rfl,_,_,rfl,_,_,rfl,rfl,?_⟩;cases p with
  |tx l =>
   refine⟨_,rfl,.inl ⟨rfl,_,rfl,?_⟩⟩;refine Eq.mpr (congrArg (fun b=>if b=true then _ else _) wtext) ?_;refine iteT ?_;refine⟨_,rfl,_,rfl,.inl ⟨rfl,?_⟩⟩;have:=k H (Same.refl H);rw[show(Pt.tx l).takes t=decide (V.str (mk t)=V.str (mk l)) from(dec_str t l).symm] at this;exact this
  |gp c =>
   refine⟨_,rfl,.inl ⟨rfl,_,rfl,?_⟩⟩;refine Eq.mpr (congrArg (fun b=>if b=true then _ else _) wgap) ?_;refine iteF ?_;exact⟨_,rfl,_,rfl,c,t,rfl,hl,fun H' sm=>k H' sm⟩
structure CallsC (P:Program) (w:World) (K:Af) (mg:Str->Option Value) (base:Heap):Prop where
 takes:Cal P w K mg base "takes" 3 ["part", "text"] spTakes
def spFurthest:Sp:=fun vs H Q _=>∃a p n d g,vs=[.ref a,.str (mk n),.ref d]/\H a=some (.tup p.vs)/\p.ok/\n.length<=60/\DF H d g/\∀e H',H e=none->Same H H'->DF H' e (far p n fun x=>(g x).isSome)->Q (.ref e) H'
abbrev q2d:Stmt:=top 43
theorem sc_furthest_ends:FnScope ["part", "name", "later", "ends", "begin", "end"] ["part", "name", "later"] (defScope q2d):=by trivial
theorem q5p(D:Df K mg "furthest_ends" q2d ["part", "name", "later"])(T:Txt mg)(C:CallsC P w K mg base):Cal P w K mg base "furthest_ends" 4 ["part", "name", "later"] spFurthest:=by
 refine D.cal sc_furthest_ends (fun vs H Q E h=>?_) (fun f cdv A outer s H vs Q E hr h=>?_)
 ·obtain⟨a,p,n,d,g,rfl,_⟩:=h;rfl
 ·obtain⟨a,p,n,d,g,rfl,ha,hok,hn,hd,k⟩:=h;refine⟨_,(q0c (q0k (i:=3) sc_furthest_ends.nd rfl (by trivial) z7u) (q0c (q1y Ca rfl (q3h rfl T.b_range (q0a (q0p q0j (q0n (q1q K rfl) (by rfl) T.b_len Ax (q0a (pv 1) q0b)) q0f) q0b)) (q0s (i:=4) sc_furthest_ends.nd rfl (by trivial)) (q0e (q1y Ca rfl (q9o rfl T.b_range (q0a (pv 4) (q0a (q0p q0j (q0n (q1q K rfl) (by rfl) T.b_len Ax (q0a (pv 1) q0b)) q0f) q0b))) (q0s (i:=5) sc_furthest_ends.nd rfl (by trivial)) (q0e (q0v (pt_j (@PW.pt _ _ _ (q1p (q9m (pc_din (z7g hr) (pv 5) (pv 2))) (q1l (@z7o _ _ _ K rfl (pe_c C.takes hr (q0a (pv 0) (q0a (q1n (sl_k K rfl) (pv 1) (q1f (pv 4)) (q1f (pv 5))) q0b))) (fun _=>rfl)))))) (q0e (x0k (z7g hr) (pv 3) (pv 4) (pv 5) rfl)) q0i))))) (q0e (q0m (pv 3))))),?_⟩;have hlen:=q0r n;intro e he;generalize hL:(fun x=>(g x).isSome)=L at k;refine⟨_,rfl,_,_,rfl,⟨small (by lia),rfl⟩,.inl ⟨_,_,rfl,rfl,?_⟩⟩;refine⟨_,rfl,by lia,by lia,q3i (fun i σ' H'=>∃x4 x5 kvs,σ'=[some (.ref a),some (.str (mk n)),some (.ref d),some (.ref e),x4,x5]/\Same H H'/\H' e=some (.dK kvs)/\kvs.length<=i*61/\∀b:Nat,valV kvs (Sum.inl (b:Int))=(if b<i then far p n L b else none).map fun e=>V.int (e:Nat))
   ⟨none,none,[],rfl,(Same.refl H).new he,q0d,Bg _,fun b=>by rw[if_neg (Ll b)];rfl⟩ ?_ ?_⟩
  ·rintro i σ' H' hi ⟨x4,x5,kvs,rfl,sm,hHe,hkl,hkv⟩;have hi':i<=n.length:=by lia
   rw[show(0:Int)+(i:Int)=((i:Nat):Int) from by lia];refine⟨_,rfl,_,rfl,_,_,rfl,⟨small (by lia),rfl⟩,.inl ⟨_,_,rfl,rfl,?_⟩⟩;have ek:((((mk n).length:Nat):Int)+1-((i:Nat):Int)).toNat=n.length+1-i:=by lia
   refine⟨_,_,rfl,⟨by lia,by lia,by lia,by lia⟩,?_⟩;rw[ek];refine q3i (fun j σ2 H2=>∃x5 kvs,σ2=[some (.ref a),some (.str (mk n)),some (.ref d),some (.ref e),some (.int (i:Nat)),x5]/\Same H H2/\H2 e=some (.dK kvs)/\kvs.length<=i*61+j/\∀b:Nat,valV kvs (Sum.inl (b:Int))=(if b<i then far p n L b else if b=i then farTo p n L i j else none).map fun e=>V.int (e:Nat))
    ⟨x5,kvs,rfl,sm,hHe,hkl,fun b=>?_⟩ ?_ ?_
   ·rw[hkv b];by_cases z:b<i
    ·rw[if_pos z,if_pos z]
    ·rw[if_neg z,if_neg z];split<;>rfl
   ·rintro j σ2 H2 hj ⟨x5,kvs,rfl,sm2,hHe2,hkl2,hkv2⟩;rw[show((i:Nat):Int)+(j:Int)=((i+j:Nat):Int) from by lia];have hfs:=q7o p n L i j;refine⟨fun bb H3=>bb=(L (i+j)&&p.takes (cut n i (i+j)))/\Same H2 H3,?_,?_⟩
    ·rintro bb H3 ⟨rfl,sm3⟩;refine ite2 (fun h=>?_) (fun h=>?_)
     ·refine⟨_,rfl,_,rfl,_,rfl,e,_,rfl,DPut.k (k:=Sum.inl ((i:Nat):Int)) (sm3 _ _ hHe2) (small' (by lia)),?_⟩;refine⟨_,_,rfl,(sm2.trans sm3).put he,q0d,Aw (q2w _ _ _) (by lia),fun b=>?_⟩;have:=z9d (b:=i) (e:=i+j) hkv2 b;refine this.trans (congrArg (Option.map _) ?_);show(if b=i then some (i+j) else _)=_;rw[hfs,if_pos h];by_cases z:b=i
      ·subst z;rw[if_pos rfl,if_neg (Fb _),if_pos rfl]
      ·rw[if_neg z,if_neg z,if_neg z]
     ·refine⟨_,_,rfl,sm2.trans sm3,sm3 _ _ hHe2,by lia,fun b=>?_⟩;rw[hkv2 b,hfs,if_neg h]
    ·refine⟨_,rfl,_,rfl,d,_,rfl,(hd.same sm2).get (i+j),_,rfl,?_⟩;have eL:((g (i+j)).map fun e=>V.int (e:Nat)).isSome=L (i+j):=by rw[<- hL];show _=(g (i+j)).isSome;cases g (i+j)<;>rfl
     rw[eL];refine iteB (fun h=>?_) (fun h=>?_)
     ·refine⟨_,rfl,_,rfl,_,rfl,_,rfl,_,rfl,_,rfl,.inl ⟨_,rfl,small (by lia),?_⟩⟩;rw[q4x (by lia) (by lia)];refine⟨a,p,cut n i (i+j),rfl,sm2 _ _ ha,hok,?_,fun H3 sm3=>⟨_,rfl,?_,sm3⟩⟩
      ·unfold cut;rw[Bk,Bx];lia
      ·rw[h,Bool.true_and]
     ·refine⟨?_,Same.refl H2⟩;rw[h,Bool.false_and]
   ·rintro σ2 H2 ⟨x5,kvs,rfl,sm2,hHe2,hkl2,hkv2⟩;refine⟨_,_,kvs,rfl,sm2,hHe2,by lia,fun b=>?_⟩;rw[hkv2 b];by_cases z:b<i
    ·rw[if_pos z,if_pos (by lia)]
    ·rw[if_neg z];by_cases z2:b=i
     ·subst z2;rw[if_pos rfl,if_pos (by lia)];unfold far;rw[if_pos hi']
     ·rw[if_neg z2,if_neg (by lia)]
  ·rintro σ' H' ⟨x4,x5,kvs,rfl,sm,hHe,hkl,hkv⟩;have et:((((mk n).length:Nat):Int)+1).toNat=n.length+1:=by lia
   rw[et] at hkl hkv;refine⟨_,rfl,k e H' he sm ⟨kvs,hHe,?_,fun b=>?_⟩⟩
   ·have:(n.length+1)*61<=61*61:=Mu _ (by lia);lia
   ·rw[hkv b];by_cases z:b<n.length+1
    ·rw[if_pos z]
    ·rw[if_neg z];unfold far;rw[if_neg (by lia)]
structure CallsD (P:Program) (w:World) (K:Af) (mg:Str->Option Value) (base:Heap):Prop where
 furthest_ends:Cal P w K mg base "furthest_ends" 4 ["part", "name", "later"] spFurthest
def spEnds:Sp:=fun vs H Q _=>∃L n ps,vs=[.ref L,.str (mk n)]/\HL H L ps/\(∀p∈ps,p.ok)/\ps.length<=3000/\n.length<=60/\∀E H' ds,H E=none->Same H H'->H' E=some (.lst (ds.map V.ref))->DS H' n ds ps->Q (.ref E) H'
theorem x0x{α:Type}{l:List α}{i:Nat}{x:α}(h:l.reverse[i]?=some x):i<l.length/\l[l.length-1-i]?=some x:=by
 have hi:i<l.length:=by
  have:=(Ak.mp h).1;simpa using this
 exact⟨hi,by rwa [List.getElem?_reverse hi] at h⟩
abbrev q2e:Stmt:=top 44
theorem sc_ends_of_parts:FnScope ["parts", "name", "later", "ends", "part"] ["parts", "name"] (defScope q2e):=by trivial
theorem q5q(D:Df K mg "ends_of_parts" q2e ["parts", "name"])(T:Txt mg)(C:CallsD P w K mg base):Cal P w K mg base "ends_of_parts" 5 ["parts", "name"] spEnds:=by
 refine D.cal sc_ends_of_parts (fun vs H Q E h=>?_) (fun f cdv A outer s H vs Q E hr h=>?_)
 ·obtain⟨L,n,ps,rfl,_⟩:=h;rfl
 ·obtain⟨L,n,ps,rfl,hL,hok,hpl,hn,k⟩:=h;refine⟨_,(q0c (q0k (i:=2) sc_ends_of_parts.nd rfl (by trivial) (x0m (z7v (q0n (q1q K rfl) (by rfl) T.b_len Ax (q0a (pv 1) q0b)) (q0n (q1q K rfl) (by rfl) T.b_len Ax (q0a (pv 1) q0b)) x0l) rfl rfl (by simp) (by decide))) (q0c (q0k (i:=3) sc_ends_of_parts.nd rfl (by trivial) (q1b q0b)) (q0c (q1y Ca rfl (@rev_k _ _ _ _ _ _ K rfl rfl T.b_reversed (q0a (pv 0) q0b) (by rfl)) (q0s (i:=4) sc_ends_of_parts.nd rfl (by trivial)) (q0c (q0k (i:=2) sc_ends_of_parts.nd rfl (by trivial) (pe_c C.furthest_ends hr (q0a (pv 4) (q0a (pv 1) (q0a (pv 2) q0b))))) (q0e (q0y (@bm_k _ _ _ _ _ _ _ _ _ _ _ _ K rfl Bc Bv Bw q1j (pv 3) (q0a (pv 2) q0b) (by rfl) (by rfl) (by rfl) (by rfl) (by rfl)))))) (q0c (q0y (@z5l _ _ _ _ _ _ _ _ _ K rfl Bc PySem.F.slot_list_reverse PySem.F.type_list_reverse z3r (pv 3) (by rfl) (by rfl))) (q0e (q0m (pv 3))))))),?_⟩;have hlen:=q0r n;obtain⟨Ts,h1,h2⟩:=hL.ex;have hTl:=h2.len;intro d0 hd0;refine⟨_,rfl,_,_,rfl,⟨small (by lia),rfl⟩,_,rfl,_,_,rfl,⟨small (by lia),rfl⟩,q0d,[(Sum.inl ((n.length:Nat):Int),.int ((n.length:Nat):Int))],?_,Mk rfl,?_⟩
  ·rw[hlen];rfl
  have sm0:Same H (upd (upd H d0 (.dK [])) d0 (.dK (mergeK [] [(Sum.inl ((n.length:Nat):Int),.int ((n.length:Nat):Int))]))):=((Same.refl H).new hd0).put hd0;have df0:DF (upd (upd H d0 (.dK [])) d0 (.dK (mergeK [] [(Sum.inl ((n.length:Nat):Int),.int ((n.length:Nat):Int))]))) d0 (fun b=>if b=n.length then some n.length else none):=by
   refine⟨_,q0d,Mk rfl,fun b=>?_⟩;have:=z9d (kvs:=[]) (b:=n.length) (e:=n.length) (f:=fun _=>none) (fun c=>rfl) b;exact this
  generalize hH1:upd (upd H d0 (.dK [])) d0 _=H1 at sm0 df0;refine⟨by show 0<=sizeLine;decide,fun E hE=>?_⟩;have hE0:H E=none:=sm0.free hE;have sm1:Same H (upd H1 E (.lst [])):=sm0.new hE;have hEL:E≠L:=fun z=>by subst z;rw[hE0] at h1;cases h1
  refine⟨_,rfl,L,_,rfl,sm1 _ _ h1,?_⟩;refine x0n (xs:=Ts.map V.ref) (fun i σ' H'=>∃d g x4 ds,σ'=[some (.ref L),some (.str (mk n)),some (.ref d),some (.ref E),x4]/\Same H H'/\DF H' d g/\(∀b,(g b).isSome=fits n (ps.drop (ps.length-i)) b)/\H' E=some (.lst (ds.map V.ref))/\DS H' n ds.reverse (ps.drop (ps.length-i))/\i<=ps.length)
   ⟨d0,_,none,[],rfl,sm1,df0.new hE,fun b=>?_,q0d,?_,Bg _⟩ (fun i σ' H' ⟨_,_,_,_,_,sm,_⟩=>SqL.of (sm _ _ h1)) ?_ ?_
  ·rw[show ps.length-0=ps.length from rfl,Gw];show(if b=n.length then some n.length else none).isSome=decide (b=n.length);by_cases z:b=n.length
   ·rw[if_pos z,decide_eq_true z];rfl
   ·rw[if_neg z,decide_eq_false z];rfl
  ·rw[show ps.length-0=ps.length from rfl,Gw];exact .nil
  ·rintro i x σ' H' hx ⟨d,g,x4,ds,rfl,sm,hd,hg,hHE,hds,hil⟩;obtain⟨hi,hx'⟩:=x0x hx;rw[Ai] at hi hx';obtain⟨T1,p,rfl,hp,hT1⟩:=h2.get hx';rw[hTl] at hp hi;have hpm:p∈ps:=Am hp;have edr:ps.drop (ps.length-(i+1))=p::ps.drop (ps.length-i):=by
    have:=q4p hp;rw[show ps.length-1-i=ps.length-(i+1) from by lia,show ps.length-(i+1)+1=ps.length-i from by lia] at this;exact this
   refine⟨_,rfl,_,rfl,_,rfl,T1,p,n,d,g,rfl,sm _ _ hT1,hok p hpm,hn,hd,fun e H2 he sm2 hde=>?_⟩;have eg:(fun x=>(g x).isSome)=fits n (ps.drop (ps.length-i)):=funext hg;rw[eg] at hde;have hdl:=hds.len;rw[Nc,Bx] at hdl;have hE2:H2 E=some (.lst (ds.map V.ref)):=sm2 _ _ hHE;refine⟨_,rfl,.inl ⟨rfl,_,SqL.of hE2⟩,_,rfl,E,_,_,rfl,rfl,hE2,by rw[Ai];exact small' (by lia),?_⟩;have eE:E≠e:=fun z=>by subst z;rw[he] at hHE;cases hHE
   have hde2:DF (upd H2 E (.lst (ds.map V.ref++[.ref e]))) e (far p n (fits n (ps.drop (ps.length-i)))):=by
    obtain⟨kvs,a1,a2,a3⟩:=hde.ex;exact⟨kvs,by rw[q0l (Cu eE)];exact a1,a2,a3⟩
   refine⟨e,_,_,ds++[e],rfl,(sm.trans sm2).put hE0,hde2,fun b=>?_,by rw[Bi];exact q0d,?_,by lia⟩
   ·rw[edr];rfl
   ·rw[edr,List.reverse_append];refine .cons hde2 ?_;refine(hds.same sm2).keepL ?_;exact fun b kvs z=>by rw[q0l (fun y=>by subst y;rw[hE2] at z;cases z)];exact z
  ·rintro σ' H' ⟨d,g,x4,ds,rfl,sm,hd,hg,hHE,hds,hil⟩;rw[Ai,hTl,Du,List.drop_zero] at hds;refine⟨_,rfl,.inl ⟨rfl,_,SqL.of hHE⟩,E,_,rfl,rfl,hHE,?_⟩;refine⟨_,rfl,k E _ ds.reverse hE0 (sm.put hE0) (by rw[<- List.map_reverse];exact q0d) (hds.keepL ?_)⟩;exact fun b kvs z=>by rw[q0l (fun y=>by subst y;rw[hHE] at z;cases z)];exact z
structure CallsE (P:Program) (w:World) (K:Af) (mg:Str->Option Value) (base:Heap):Prop where
 parts_of:Cal P w K mg base "parts_of" 2 ["pattern"] spPartsOf
 ends_of_parts:Cal P w K mg base "ends_of_parts" 5 ["parts", "name"] spEnds
def spReading:Sp:=fun vs H Q _=>∃l n,vs=[.str (mk l),.str (mk n)]/\Good l/\n.length<=60/\(fits n (parse [] l) 0=false->∀H',Same H H'->Q .non H') /\
 (fits n (parse [] l) 0=true->∀L H',H L=none->Same H H'->H' L=some (.lst (vN (rd n (parse [] l) 0)))->Q (.ref L) H')
theorem wgg(p:Pt):decide (V.str p.word=V.str (Ab "gap"))=p.isG:=by
 cases p with
 |tx l=>show decide (V.str (Ab "text")=V.str (Ab "gap"))=false;decide +kernel
 |gp c=>exact decide_eq_true rfl
abbrev q5g:Stmt:=top 45
theorem sc_reading:FnScope ["pattern", "name", "parts", "ends", "texts", "begin", "part", "part_ends", "end"] ["pattern", "name"] (defScope q5g):=by trivial
theorem z4a(D:Df K mg "reading" q5g ["pattern", "name"])(T:Txt mg)(C:CallsE P w K mg base):Cal P w K mg base "reading" 6 ["pattern", "name"] spReading:=by
 refine D.cal sc_reading (fun vs H Q E h=>?_) (fun f cdv A outer s H vs Q E hr h=>?_)
 ·obtain⟨l,n,rfl,_⟩:=h;rfl
 ·obtain⟨l,n,rfl,hg,hn,kN,kS⟩:=h;refine⟨_,(q0c (q0k (i:=2) sc_reading.nd rfl (by trivial) (pe_c C.parts_of hr (q0a (pv 0) q0b))) (q0c (q0k (i:=3) sc_reading.nd rfl (by trivial) (pe_c C.ends_of_parts hr (q0a (pv 2) (q0a (pv 1) q0b)))) (q0c (q0v (q9m (z5w (z7g hr) q0f (q0x (ix_k K rfl) (pv 3) q0f (fun _ _=>rfl)))) (q0e (q0m z4n)) q0i) (q0c (q0k (i:=4) sc_reading.nd rfl (by trivial) (q1b q0b)) (q0c (q0k (i:=5) sc_reading.nd rfl (by trivial) q0f) (q0c (q1y Ca rfl (@zip_k _ _ _ _ _ _ _ _ _ K rfl rfl T.b_zip (q0a (pv 2) (q0a (pv 3) q0b)) (by rfl) (by rfl)) (@q2f _ _ _ _ (2) _ K rfl rfl (q0u (q0s (i:=6) sc_reading.nd rfl (by trivial)) (q0u (q0s (i:=7) sc_reading.nd rfl (by trivial)) q1o)) (by rfl) (by rfl)) (q0c (q0k (i:=8) sc_reading.nd rfl (by trivial) (x0j (z7g hr) (pv 7) (pv 5) (fun _ _=>rfl))) (q1g (q0v (q0h (eq_k K rfl hr) (q0x (ix_k K rfl) (pv 6) q0f (fun _ _=>rfl)) q0g (nomark _)) (q0e (q0y (@bm_k _ _ _ _ _ _ _ _ _ _ _ _ K rfl Bc Bv Bw q1j (pv 4) (q0a (q1n (sl_k K rfl) (pv 1) (q1f (pv 5)) (q1f (pv 8))) q0b) (by rfl) (by rfl) (by rfl) (by rfl) (by rfl)))) q0i) (q0e (q0k (i:=5) sc_reading.nd rfl (by trivial) (pv 8)))))) (q0e (q0m (pv 4))))))))),?_⟩;have hlen:=q0r n;have hll:=hg.len;refine⟨_,rfl,l,rfl,hg,fun L H1 hL sm1 hlL=>?_⟩;have hok:=q8i l [] (fun _ h=>nomatch h) hg.sg;have hne:=z9c l [] (.inr hg.ne);have hpl:=q6p l [];generalize hps:parse [] l=ps at hlL hok hne hpl kN kS;refine⟨_,rfl,_,rfl,L,n,ps,rfl,hlL,hok,by lia,hn,fun E H2 ds hE sm2 hHE hds=>?_⟩;have sm12:=sm1.trans sm2;have hdl:=hds.len;obtain⟨p0,ps0,rfl⟩:∃p0 ps0,ps=p0::ps0:=by cases ps with|nil=>exact absurd rfl hne|cons a b=>exact⟨a,b,rfl⟩
  obtain⟨d0,ds0,rfl⟩:∃d0 ds0,ds=d0::ds0:=by cases ds with|nil=>simp at hdl|cons a b=>exact⟨a,b,rfl⟩
  have hf0:fits n (p0::ps0) 0=(far p0 n (fits n ps0) 0).isSome:=rfl;obtain⟨q0,hq0,hdf0⟩:=hds.get (i:=0) rfl;cases hq0;refine⟨_,rfl,.inl ⟨E,_,0,.ref d0,rfl,rfl,SqL.of hHE,q1t (j:=0) rfl,d0,_,rfl,hdf0.get 0,_,rfl,?_⟩⟩;have eS:((far p0 n (fits n ((p0::ps0).drop (0+1))) 0).map fun e=>V.int (e:Nat)).isSome=fits n (p0::ps0) 0:=by
   rw[hf0];show(Option.map _ (far p0 n (fits n ps0) 0)).isSome=_;cases far p0 n (fits n ps0) 0<;>rfl
  rw[eS];refine iteB (fun h=>?_) (fun h=>?_)
  ·refine kN ?_ H2 sm12;cases hz:fits n (p0::ps0) 0 with
   |false=>rfl
   |true=>rw[hz] at h;cases h
  have hfit:fits n (p0::ps0) 0=true:=by
   cases hz:fits n (p0::ps0) 0 with
   |true=>rfl
   |false=>rw[hz] at h;cases h
  replace kS:=kS hfit;generalize hps:p0::ps0=ps at hlL hok hdl hds hfit kS hpl;generalize hdd:d0::ds0=ds at hdl hds hHE;refine⟨by show 0<=sizeLine;decide,fun X hX=>?_⟩;have hX0:H X=none:=sm12.free hX;have sm3:Same H2 (upd H2 X (.lst [])):=(Same.refl H2).new hX;have hlL2:HL H2 L ps:=hlL.same sm2;obtain⟨Ts,h1,h2⟩:=hlL2.ex;have hTl:=h2.len;refine .inr ⟨_,rfl,_,rfl,L,E,_,_,rfl,SqL.of (sm3 _ _ h1),SqL.of (sm3 _ _ hHE),z7n (xs:=Ts.map V.ref) (ys:=ds.map V.ref) (fun i σ' H'=>∃b ts x6 x7 x8,σ'=[some (.str (mk l)),some (.str (mk n)),some (.ref L),some (.ref E),some (.ref X),some (.int (b:Nat)),x6,x7,x8]/\Same H2 H'/\H' X=some (.lst (vN ts))/\fits n (ps.drop i) b=true/\ts++rd n (ps.drop i) b=rd n ps 0/\ts.length<=i/\i<=ps.length) ⟨0,[],none,none,none,rfl,sm3,q0d,hfit,rfl,Ah _,Bg _⟩ (fun i σ' H' ⟨_,_,_,_,_,_,sm,_⟩=>⟨SqL.of (sm _ _ h1),SqL.of (sm _ _ hHE)⟩) ?_ ?_⟩
  ·rintro i x y T' σ' H' hx hy ⟨b,ts,x6,x7,x8,rfl,sm,hHX,hft,hrd,htl,hil⟩ hT';obtain⟨T1,p,rfl,hp,hT1⟩:=h2.get hx;obtain⟨d,hd,rfl⟩:∃d,ds[i]?=some d/\y=V.ref d:=by
    rw[Cy] at hy;cases hz:ds[i]? with
    |none=>rw[hz] at hy;cases hy
    |some d=>rw[hz] at hy;cases hy;exact⟨d,rfl,rfl⟩
   obtain⟨p',hp',hdf⟩:=hds.get hd;rw[hp] at hp';cases hp';have edr:=q4p hp;rw[edr] at hft hrd;have hf:(far p n (fits n (ps.drop (i+1))) b).isSome=true:=hft;obtain⟨e,he⟩:∃e,far p n (fits n (ps.drop (i+1))) b=some e:=by
    cases hz:far p n (fits n (ps.drop (i+1))) b with
    |none=>rw[hz] at hf;cases hf
    |some e=>exact⟨e,rfl⟩
   obtain⟨a1,a2,a3,a4,_⟩:=z2w he;have hi:i<ps.length:=(Ak.mp hp).1;refine⟨T',_,rfl,SqT.of q0d,rfl,_,_,rfl,_,_,rfl,rfl,?_⟩;generalize hH3:upd H' T' _=H3;have sm4:Same H' H3:=by rw[<- hH3];exact(Same.refl H').new hT'
   have sm5:Same H2 H3:=sm.trans sm4;have hg3:=(hdf.same sm5).get b;rw[he] at hg3;refine⟨_,rfl,_,rfl,d,_,rfl,hg3,?_⟩;have hHX3:H3 X=some (.lst (vN ts)):=sm4 _ _ hHX;have hT13:H3 T1=some (.tup p.vs):=sm5 _ _ hT1;refine⟨fun σ2 H4=>∃ts',σ2=[some (.str (mk l)),some (.str (mk n)),some (.ref L),some (.ref E),some (.ref X),some (.int (b:Nat)),some (.ref T1),some (.ref d),some (.int (e:Nat))]/\Same H2 H4/\H4 X=some (.lst (vN ts'))/\ts'=(if p.isG then ts++[cut n b e] else ts),?_,?_⟩
   ·rintro σ2 H4 ⟨ts',rfl,sm6,hHX4,ets⟩;refine⟨_,rfl,e,ts',_,_,_,rfl,sm6,hHX4,a3,?_,?_,hi⟩
    ·rw[<- hrd,ets];show _=ts++rd n (p::ps.drop (i+1)) b;cases hG:p.isG with
     |true=>simp[rd,hG,he]
     |false=>simp[rd,hG,he]
    ·rw[ets];split
     ·rw[Ae,Aq];lia
     ·lia
   ·refine⟨_,rfl,.inr (.inl ⟨T1,_,0,_,rfl,rfl,SqT.of hT13,rfl,.inl ⟨rfl,_,rfl,?_⟩⟩)⟩;rw[wgg];refine ite2 (fun h=>?_) (fun h=>?_)
    ·refine⟨_,rfl,.inl ⟨rfl,_,SqL.of hHX3⟩,_,rfl,_,rfl,_,rfl,_,rfl,_,rfl,.inl ⟨_,rfl,small (by lia),?_⟩⟩;rw[q4x a1 a2];refine⟨X,_,_,rfl,rfl,hHX3,by rw[Ai];exact small' (by lia),?_⟩;exact⟨ts++[cut n b e],rfl,sm5.put hX,by rw[show vN (ts++[cut n b e])=vN ts++[V.str (mk (cut n b e))] from Bi];exact q0d,by rw[if_pos h]⟩
    ·exact⟨ts,rfl,sm5,hHX3,by rw[if_neg h]⟩
  ·rintro σ' H' ⟨b,ts,x6,x7,x8,rfl,sm,hHX,hft,hrd,htl,hil⟩;have emin:min (Ts.map V.ref).length (ds.map V.ref).length=ps.length:=by rw[Ai,Ai,hTl,hdl,Nat.min_self]
   rw[emin,Gw] at hrd;rw[show rd n [] b=[] from rfl,Dd] at hrd;refine⟨_,rfl,kS X H' hX0 (sm12.trans sm) ?_⟩;rw[<- hrd];exact hHX
end
end K
set_option maxHeartbeats 4000000
namespace K
open PySem L2 TX
section
variable{P:Program}{w:World}{K:Af}{mg:Str->Option Value}{base:Heap}
def spAsked:Sp:=fun vs H Q _=>∃(l:List Nat) (at_ c:Nat) (g:Str),vs=[.str (mk l),.int (at_:Int),.str g]/\l[at_]?=some c/\c∈tl g/\l.length<=1000/\Q (.str (mk [c])) H
abbrev q5x:Stmt:=top 22
theorem z3c:FnScope ["template", "at", "signs"] ["template", "at", "signs"] (defScope q5x):=by trivial
theorem z8e(D:Df K mg "asked" q5x ["template", "at", "signs"])(T:Txt mg):Cal P w K mg base "asked" 1 ["template", "at", "signs"] spAsked:=by
 refine D.cal z3c (fun vs H Q E h=>?_) (fun f cdv A outer s H vs Q E hr h=>?_)
 ·obtain⟨l,at_,c,g,rfl,_⟩:=h;rfl
 ·obtain⟨l,at_,c,g,rfl,hc,hg,hl,k⟩:=h;refine⟨_,(q0c (q0v (pt_j (@PW.pt _ _ _ (q4d (q0h op_ge (pv 1) (q0n (q1q K rfl) (by rfl) T.b_len Ax (q0a (pv 0) q0b)) (nomark _)) (q3e (q0h (z1h K rfl) (q0x (ix_k K rfl) (pv 0) (pv 1) (fun _ _=>rfl)) (pv 2) (by with_unfolding_all rfl)))))) (q0e q2a) q0i) (q0e (q0m (q0x (ix_k K rfl) (pv 0) (pv 1) (fun _ _=>rfl))))),?_⟩;have hlen:=q0r l;have hlt:=(Ak.mp hc).1;have hat:atI (tl (mk l)) ((at_:Nat):Int)=some c:=q1t (by rw[q0z];exact hc);refine⟨fun b H'=>b=false/\H'=H,?_,?_⟩;rotate_left
  ·refine⟨_,rfl,_,rfl,_,_,rfl,⟨small (by lia),rfl⟩,_,_,rfl,rfl,_,rfl,?_⟩;refine iteB (fun h=>absurd (of_decide_eq_true h) (by lia)) (fun h=>?_);refine⟨_,rfl,_,rfl,.inr (.inr ⟨mk l,_,c,rfl,rfl,small (by lia),hat,_,rfl,.inl ⟨_,_,rfl,rfl,_,rfl,?_,rfl⟩⟩)⟩;rw[q3u,decide_eq_true hg];rfl
  rintro b H' ⟨rfl,rfl⟩;exact iteF ⟨_,rfl,_,rfl,.inr (.inr ⟨mk l,_,c,rfl,rfl,small (by lia),hat,k⟩)⟩
def spEndOf:Sp:=fun vs H Q _=>∃(l:List Nat) (at_ most k:Nat) (g:Str),vs=[.str (mk l),.int (at_:Int),.str g,.int (most:Int)]/\l.length<=1000/\at_+k<=l.length/\k<=most/\(∀j,j<k->∃c,l[at_+j]?=some c/\c∈tl g)/\(k=most\/at_+k=l.length\/∃c,l[at_+k]?=some c/\¬c∈tl g)/\Q (.int ((at_+k:Nat):Int)) H
def enMeas(n:Nat)(σ:St):Nat:=match σ[4]? with|some (some (V.int e))=>n-e.toNat|_=>0
abbrev q6t:Stmt:=top 23
theorem sc_end_of:FnScope ["template", "at", "signs", "most", "end"] ["template", "at", "signs", "most"] (defScope q6t):=by trivial
theorem z0m(D:Df K mg "end_of" q6t ["template", "at", "signs", "most"])(T:Txt mg):Cal P w K mg base "end_of" 1 ["template", "at", "signs", "most"] spEndOf:=by
 refine D.cal sc_end_of (fun vs H Q E h=>?_) (fun f cdv A outer s H vs Q E hr h=>?_)
 ·obtain⟨l,at_,most,n,g,rfl,_⟩:=h;rfl
 ·obtain⟨l,at_,most,n,g,rfl,hl,hle,hm,hin,hst,k⟩:=h;refine⟨_,(q0c (q0k (i:=4) sc_end_of.nd rfl (by trivial) (pv 1)) (q0c (q7x Ca (pt_j (@PW.pt _ _ _ (q1p (q0h q6c (pv 4) (q0n (q9p rfl) (by rfl) T.b_min (by decide +kernel) (q0a (q0n (q1q K rfl) (by rfl) T.b_len Ax (q0a (pv 0) q0b)) (q0a (q0p q0j (pv 1) (pv 3)) q0b))) (nomark _)) (q1l (q0h (in_k K rfl) (q0x (ix_k K rfl) (pv 0) (pv 4) (fun _ _=>rfl)) (pv 2) (by with_unfolding_all rfl)))))) (q0e (z4p (i:=4) sc_end_of.nd rfl (by trivial) q0f z1c))) (q0e (q0m (pv 4))))),?_⟩;have hlen:=q0r l;refine⟨_,rfl,?_⟩;refine q7y (fun σ3 H3=>∃j:Nat,σ3=[some (.str (mk l)),some (.int (at_:Int)),some (.str g),some (.int (most:Int)),some (.int ((at_+j:Nat):Int))]/\H3=H/\j<=n) (fun σ3 _=>enMeas (at_+n+1) σ3) ⟨0,rfl,rfl,Bg _⟩ ?_ ?_
  ·rintro σ3 H3 ⟨j,rfl,rfl,hj⟩;refine⟨fun b H4=>H4=H3/\b=decide (j<n),?_,?_⟩;rotate_left
   ·refine⟨_,rfl,_,rfl,_,_,rfl,⟨small (by lia),rfl⟩,_,rfl,_,rfl,.inl ⟨_,_,rfl,rfl,_,_,rfl,?_⟩⟩;refine⟨_,_,rfl,rfl,_,rfl,?_⟩;refine iteB (fun h=>?_) (fun h=>?_)
    ·have h1:=of_decide_eq_true h;have hlt:at_+j<l.length/\j<most:=by
      split at h1<;>lia
     have hd:l[at_+j]?=some l[at_+j]:=Ap hlt.1;refine⟨_,rfl,_,rfl,.inr (.inr ⟨mk l,_,l[at_+j],rfl,rfl,small (by lia),q1t (show(tl (mk l))[at_+j]?=_ by rw[q0z];exact hd),_,rfl,.inl ⟨_,_,rfl,rfl,_,rfl,rfl,?_⟩⟩)⟩;rw[q3u];by_cases hz:j<n
     ·obtain⟨c,hc1,hc2⟩:=hin j hz;rw[hd] at hc1;cases hc1;rw[decide_eq_true hc2,decide_eq_true hz]
     ·have ej:j=n:=by lia
      subst ej;rcases hst with z|z|⟨c,hc1,hc2⟩
      ·lia
      ·lia
      ·rw[hd] at hc1;cases hc1;rw[decide_eq_false hc2,decide_eq_false hz]
    ·have h1:=of_decide_eq_false h;refine⟨rfl,?_⟩;have:¬j<n:=by
      intro z;refine h1 ?_;split<;>lia
     rw[decide_eq_false this]
   rintro b H4 ⟨rfl,rfl⟩;refine ite2 (fun h=>?_) (fun h=>?_)
   ·have hz:=of_decide_eq_true h;refine⟨_,rfl,_,_,rfl,rfl,⟨j+1,rfl,rfl,by lia⟩,?_⟩;show at_+n+1-(((at_+j:Nat):Int)+1).toNat<at_+n+1-((at_+j:Nat):Int).toNat;lia
   ·have hz:¬j<n:=fun z=>h (decide_eq_true z);have ej:j=n:=by lia
    subst ej;exact⟨_,rfl,k⟩
  ·rintro σ H Q Q' hq ⟨J,hJ,hw⟩;exact⟨J,fun b H1 z=>hq b H1 (hJ b H1 z),hw⟩
inductive Pc where
 |tx (l:List Nat)
 |gap (k:Nat)
 |great (k:Nat)
 |small (k:Nat)
 |nou (k w:Nat)
 |more (k m:Nat)
 |cnt (v:Nat)
 |into
def Pc.vs:Pc->List V
 |.tx l=>[.str (Ab "text"),.str (mk l)]
 |.gap k=>[.str (Ab "gap"),.int (k:Int)]
 |.great k=>[.str (Ab "great"),.int (k:Int)]
 |.small k=>[.str (Ab "small"),.int (k:Int)]
 |.nou k w=>[.str (Ab "noughts"),.int (k:Int),.int (w:Int)]
 |.more k m=>[.str (Ab "more"),.int (k:Int),.int (m:Int)]
 |.cnt v=>[.str (Ab "count"),.int (v:Int)]
 |.into=>[.str (Ab "into")]
def cntW(v:Nat):List Nat:=if v=1 then[125] else[48+v,125]
def Pc.wr:Pc->List Nat
 |.tx l=>l
 |.gap k=>123::(48+k)::[125]
 |.great k=>123::(48+k)::[117,125]
 |.small k=>123::(48+k)::[108,125]
 |.nou k w=>123::(48+k)::122::[48+w,125]
 |.more k m=>123::(48+k)::43::(dg m++[125])
 |.cnt v=>123::110::cntW v
 |.into=>[47]
def Pc.ok:Pc->Prop
 |.tx l=>l≠[]/\∀c∈l,c∈NS
 |.gap k=>1<=k/\k<=9
 |.great k=>1<=k/\k<=9
 |.small k=>1<=k/\k<=9
 |.nou k w=>(1<=k/\k<=9)/\1<=w/\w<=9
 |.more k m=>(1<=k/\k<=9)/\m<10^9
 |.cnt v=>1<=v/\v<=9
 |.into=>True
def RT(H:Hp)(Q:VK)(p:Pc)(e:Nat):Prop:=∀T1 T2 H',H T1=none->H T2=none->Same H H'->H' T1=some (.tup p.vs)->H' T2=some (.tup [.ref T1,.int ((e:Nat):Int)])->Q (.ref T2) H'
theorem RT.go{H:Hp}{Q:VK}{p:Pc}{e:Nat}{i:Int}(h:RT H Q p e)(hi:i=((e:Nat):Int)){T1 T2:Addr}(h1:H T1=none)(h2:upd H T1 (.tup p.vs) T2=none):Q (.ref T2) (upd (upd H T1 (.tup p.vs)) T2 (.tup [.ref T1,.int i])):=by
 subst hi;have hne:T1≠T2:=q0w q0d h2;refine h T1 T2 _ h1 (by rw[q0l (Cu hne)] at h2;exact h2) (((Same.refl H).new h1).new h2) ?_ q0d;rw[q0l hne];exact q0d
theorem RT.same{H H1:Hp}{Q:VK}{p:Pc}{e:Nat}(h:RT H Q p e)(sm:Same H H1):RT H1 Q p e:=fun T1 T2 H' a b c d f=>h T1 T2 H' (sm.free a) (sm.free b) (sm.trans c) d f
theorem q1h{l r:List Nat}{i c:Nat}(h:l.drop i=c::r):l[i]?=some c/\l.drop (i+1)=r:=by
 have h1:=congrArg (fun x=>x[0]?) h;have h2:=congrArg (fun x=>x.drop 1) h;refine⟨by simpa[Ge] using h1,?_⟩;rw[<- List.drop_drop,h];rfl
theorem q7t{v:Nat}(h:v<10):Ho (mk [48+v])=some (v:Int):=by rw[<- q2g h];exact z1q (by lia)
structure CallsT (P:Program) (w:World) (K:Af) (mg:Str->Option Value) (base:Heap):Prop where
 asked:Cal P w K mg base "asked" 1 ["template", "at", "signs"] spAsked
 end_of:Cal P w K mg base "end_of" 1 ["template", "at", "signs", "most"] spEndOf
def spCount:Sp:=fun vs H Q _=>∃(l r:List Nat) (a v:Nat),vs=[.str (mk l),.int (a:Int)]/\l.length<=1000/\1<=v/\v<=9/\l.drop a=cntW v++r/\RT H Q (.cnt v) (a+(cntW v).length)
theorem in_two:∀v,v<10->2<=v->48+v∈tl (Ab "}" ++ Ab "23456789"):=by decide +kernel
theorem x0y:∀v,v<10->1<=v->48+v∈tl (Ab "123456789"):=by decide +kernel
theorem in_fig:∀v,v<10->48+v∈tl (Ab "0123456789"):=by decide +kernel
abbrev q2h:Stmt:=top 24
theorem sc_read_count:FnScope ["template", "at", "sign"] ["template", "at"] (defScope q2h):=by trivial
theorem q8u(D:Df K mg "read_count" q2h ["template", "at"])(T:Txt mg)(C:CallsT P w K mg base):Cal P w K mg base "read_count" 2 ["template", "at"] spCount:=by
 refine D.cal sc_read_count (fun vs H Q E h=>?_) (fun f cdv A outer s H vs Q E hr h=>?_)
 ·obtain⟨l,r,a,v,rfl,_⟩:=h;rfl
 ·obtain⟨l,r,a,v,rfl,hl,hv1,hv9,hd,k⟩:=h;obtain⟨_,g_FROM_TWO⟩:=T.FROM_TWO;refine⟨_,(q0c (q0k (i:=2) sc_read_count.nd rfl (by trivial) (pe_c C.asked hr (q0a (pv 0) (q0a (pv 1) (q0a (q0p q0j q0g (q0t (v:=.str (Ab "23456789")) (by rfl) g_FROM_TWO ⟨_,rfl⟩)) q0b))))) (q0c (q0v (q0h (eq_k K rfl hr) (pv 2) q0g (nomark _)) (q0e (q0m (q0o (q0a (q0o (q0a q0g (q0a q0f q0b))) (q0a (q0p q0j (pv 1) q0f) q0b))))) q0i) (q0c (q0y (pe_c C.asked hr (q0a (pv 0) (q0a (q0p q0j (pv 1) q0f) (q0a q0g q0b))))) (q0e (q0m (q0o (q0a (q0o (q0a q0g (q0a (q1a q1r (by rfl) T.b_int (by decide +kernel) (q0a (pv 2) q0b)) q0b))) (q0a (q0p q0j (pv 1) q0f) q0b)))))))),?_⟩;have e9:(Ab "}").length+(Ab "23456789").length<=1000:=by decide +kernel
  by_cases hv:v=1
  ·subst hv;have hd':l.drop a=125::r:=hd;obtain⟨hc,_⟩:=q1h hd';refine⟨_,rfl,_,rfl,.inr (.inl ⟨_,_,rfl,rfl,small (by lia),l,a,125,_,rfl,hc,by decide +kernel,hl,?_⟩)⟩;refine⟨_,rfl,.inl ⟨rfl,_,rfl,?_⟩⟩;rw[lit1 125 125 "}" (by decide +kernel),decide_eq_true rfl];refine iteT ⟨by show 2<=sizeLine;decide,fun T1 hT1=>⟨_,rfl,.inl ⟨_,_,rfl,rfl,by show 2<=sizeLine;decide,fun T2 hT2=>?_⟩⟩⟩;exact k.go (by show(a:Int)+1=((a+1:Nat):Int);lia) hT1 hT2
  ·have ew:cntW v=[48+v,125]:=by unfold cntW;rw[if_neg hv]
   rw[ew] at hd k;obtain⟨hc,hd2⟩:=q1h (show l.drop a=(48+v)::(125::r) from hd);obtain⟨hc2,_⟩:=q1h hd2;refine⟨_,rfl,_,rfl,.inr (.inl ⟨_,_,rfl,rfl,small (by lia),l,a,48+v,_,rfl,hc,in_two v (by lia) (by lia),hl,?_⟩)⟩;refine⟨_,rfl,.inl ⟨rfl,_,rfl,?_⟩⟩;rw[lit1 (48+v) 125 "}" (by decide +kernel),decide_eq_false (by lia)];refine iteF ⟨_,rfl,_,rfl,.inl ⟨_,_,rfl,rfl,l,a+1,125,_,by rfl,hc2,by decide +kernel,hl,?_⟩⟩;refine⟨_,rfl,.inr ⟨_,_,rfl,q7t (by lia),by rw[q0r];show 1<=640;decide,by show 2<=sizeLine;decide,fun T1 hT1=>⟨_,rfl,.inl ⟨_,_,rfl,rfl,by show 2<=sizeLine;decide,fun T2 hT2=>?_⟩⟩⟩⟩;exact k.go (by show(a:Int)+2=((a+2:Nat):Int);lia) hT1 hT2
def spNoughts:Sp:=fun vs H Q _=>∃(l r:List Nat) (a g v:Nat),vs=[.str (mk l),.int (a:Int),.int (g:Int)]/\l.length<=1000/\1<=v/\v<=9/\l.drop a=(48+v)::125::r/\RT H Q (.nou g v) (a+2)
abbrev q1x:Stmt:=top 25
theorem sc_read_noughts:FnScope ["template", "at", "gap", "width"] ["template", "at", "gap"] (defScope q1x):=by trivial
theorem q6u(D:Df K mg "read_noughts" q1x ["template", "at", "gap"])(T:Txt mg)(C:CallsT P w K mg base):Cal P w K mg base "read_noughts" 2 ["template", "at", "gap"] spNoughts:=by
 refine D.cal sc_read_noughts (fun vs H Q E h=>?_) (fun f cdv A outer s H vs Q E hr h=>?_)
 ·obtain⟨l,r,a,g,v,rfl,_⟩:=h;rfl
 ·obtain⟨l,r,a,g,v,rfl,hl,hv1,hv9,hd,k⟩:=h;obtain⟨_,g_FROM_ONE⟩:=T.FROM_ONE;refine⟨_,(q0c (q0k (i:=3) sc_read_noughts.nd rfl (by trivial) (pe_c C.asked hr (q0a (pv 0) (q0a (pv 1) (q0a (q0t (v:=.str (Ab "123456789")) (by rfl) g_FROM_ONE ⟨_,rfl⟩) q0b))))) (q0c (q0y (pe_c C.asked hr (q0a (pv 0) (q0a (q0p q0j (pv 1) q0f) (q0a q0g q0b))))) (q0e (q0m (q0o (q0a (q0o (q0a q0g (q0a (pv 2) (q0a (q1a q1r (by rfl) T.b_int (by decide +kernel) (q0a (pv 3) q0b)) q0b)))) (q0a (q0p q0j (pv 1) q0f) q0b))))))),?_⟩;obtain⟨hc,hd2⟩:=q1h hd;obtain⟨hc2,_⟩:=q1h hd2;refine⟨_,rfl,_,rfl,l,a,48+v,_,rfl,hc,x0y v (by lia) (by lia),hl,?_⟩;refine⟨_,rfl,_,rfl,.inl ⟨_,_,rfl,rfl,l,a+1,125,_,by rfl,hc2,by decide +kernel,hl,?_⟩⟩;refine⟨_,rfl,_,rfl,.inr ⟨_,_,rfl,q7t (by lia),by rw[q0r];show 1<=640;decide,by show 3<=sizeLine;decide,fun T1 hT1=>⟨_,rfl,.inl ⟨_,_,rfl,rfl,by show 2<=sizeLine;decide,fun T2 hT2=>?_⟩⟩⟩⟩;exact k.go (by show(a:Int)+2=((a+2:Nat):Int);lia) hT1 hT2
def spMore:Sp:=fun vs H Q _=>∃(l r:List Nat) (a g m:Nat),vs=[.str (mk l),.int (a:Int),.int (g:Int)]/\l.length<=1000/\m<10^9/\l.drop a=dg m++125::r/\RT H Q (.more g m) (a+(dg m).length+1)
theorem q8v{l x y:List Nat}{a j:Nat}(h:l.drop a=x++y)(hj:j<x.length):∃c,l[a+j]?=some c/\x[j]?=some c:=by
 refine⟨x[j],?_,Ap hj⟩;rw[<- Ge,h,Ba hj];exact Ap hj
theorem drop_app{l x y:List Nat}{a:Nat}(h:l.drop a=x++y):l.drop (a+x.length)=y:=by
 rw[<- List.drop_drop,h,List.drop_left]
theorem z3d{l x y:List Nat}{a:Nat}(h:l.drop a=x++y)(hx:x≠[]):a+x.length<=l.length:=by
 have h1:=congrArg List.length h;rw[Bx,Ae] at h1;have:0<x.length:=Cw.mpr hx;lia
abbrev q2m:Stmt:=top 26
theorem sc_read_more:FnScope ["template", "at", "gap", "first", "end"] ["template", "at", "gap"] (defScope q2m):=by trivial
theorem z0n(D:Df K mg "read_more" q2m ["template", "at", "gap"])(T:Txt mg)(C:CallsT P w K mg base):Cal P w K mg base "read_more" 2 ["template", "at", "gap"] spMore:=by
 refine D.cal sc_read_more (fun vs H Q E h=>?_) (fun f cdv A outer s H vs Q E hr h=>?_)
 ·obtain⟨l,r,a,g,m,rfl,_⟩:=h;rfl
 ·obtain⟨l,r,a,g,m,rfl,hl,hm,hd,k⟩:=h;obtain⟨_,g_FIGURES⟩:=T.FIGURES;obtain⟨_,g_MOST_FIGURES⟩:=T.MOST_FIGURES;refine⟨_,(q0c (q0k (i:=3) sc_read_more.nd rfl (by trivial) (pe_c C.asked hr (q0a (pv 0) (q0a (pv 1) (q0a (q0t (v:=.str (Ab "0123456789")) (by rfl) g_FIGURES ⟨_,rfl⟩) q0b))))) (q0c (q0k (i:=4) sc_read_more.nd rfl (by trivial) (pe_c C.end_of hr (q0a (pv 0) (q0a (pv 1) (q0a (q0t (v:=.str (Ab "0123456789")) (by rfl) g_FIGURES ⟨_,rfl⟩) (q0a (pe_j (z2h (q0h (eq_k K rfl hr) (pv 3) q0g (nomark _)) q0f (q0t (v:=.int 9) (by rfl) g_MOST_FIGURES ⟨_,rfl⟩))) q0b)))))) (q0c (q0y (pe_c C.asked hr (q0a (pv 0) (q0a (pv 4) (q0a q0g q0b))))) (q0e (q0m (q0o (q0a (q0o (q0a q0g (q0a (pv 2) (q0a (q1a q1r (by rfl) T.b_int (by decide +kernel) (q0a (q1n (sl_k K rfl) (pv 0) (q1f (pv 1)) (q1f (pv 4))) q0b)) q0b)))) (q0a (q0p q0j (pv 4) q0f) q0b)))))))),?_⟩;have hlen:=q0r l;obtain⟨d0,r0,hd0,hd10,hd00⟩:=z1p m;have hdl:=q4t 8 m (by lia);have hdp:=dg_pos m;have hne:dg m≠[]:=by rw[hd0];simp
  have hle:=z3d hd hne;have hfig:=z9e m;obtain⟨hc0,_⟩:=q1h (show l.drop a=(48+d0)::(r0++125::r) by rw[hd,hd0];rfl);obtain⟨hce,_⟩:=q1h (drop_app hd);refine⟨_,rfl,_,rfl,l,a,48+d0,_,rfl,hc0,in_fig d0 hd10,hl,?_⟩;refine⟨_,rfl,_,rfl,?_⟩;refine⟨fun v H'=>H'=H/\∃most:Nat,v=.int (most:Int)/\(dg m).length<=most,?_,?_⟩;rotate_left
  ·refine⟨_,rfl,.inl ⟨rfl,_,rfl,?_⟩⟩;rw[lit1 (48+d0) 48 "0" (by decide +kernel)];refine ite2 (fun h=>?_) (fun h=>?_)
   ·have hz:d0=0:=by have:=of_decide_eq_true h;lia
    have hr:=(hd00 hz).2;exact⟨rfl,1,rfl,by rw[hd0,hr];simp⟩
   ·exact⟨rfl,9,rfl,hdl⟩
  rintro v H' ⟨rfl,most,rfl,hmost⟩;refine⟨l,a,most,(dg m).length,_,rfl,hl,hle,hmost,fun j hj=>?_,.inr (.inr ⟨125,hce,by decide +kernel⟩),?_⟩
  ·obtain⟨c,h1,h2⟩:=q8v hd hj;exact⟨c,h1,hfig c (Am h2)⟩
  refine⟨_,rfl,_,rfl,l,a+(dg m).length,125,_,rfl,hce,by decide +kernel,hl,?_⟩;refine⟨_,rfl,_,rfl,_,rfl,_,rfl,_,rfl,_,rfl,.inl ⟨_,rfl,small (by lia),?_⟩⟩;rw[q4s (by lia) (by lia),show a+(dg m).length-a=(dg m).length from by lia,hd,List.take_left];refine .inr ⟨_,_,rfl,z1q (by lia),by rw[q0r];lia,by show 3<=sizeLine;decide,fun T1 hT1=>⟨_,rfl,.inl ⟨_,_,rfl,rfl,by show 2<=sizeLine;decide,fun T2 hT2=>?_⟩⟩⟩;exact k.go (by show((a+(dg m).length:Nat):Int)+1=((a+(dg m).length+1:Nat):Int);lia) hT1 hT2
def spRText:Sp:=fun vs H Q _=>∃(l t r:List Nat) (a:Nat),vs=[.str (mk l),.int (a:Int)]/\l.length<=1000/\l.drop a=t++r/\t≠[]/\(∀c∈t,c∈NS)/\(∀c r',r=c::r'->¬c∈NS)/\RT H Q (.tx t) (a+t.length)
abbrev q2n:Stmt:=top 30
theorem sc_read_text:FnScope ["template", "at", "end"] ["template", "at"] (defScope q2n):=by trivial
theorem z0o(D:Df K mg "read_text" q2n ["template", "at"])(T:Txt mg)(C:CallsT P w K mg base):Cal P w K mg base "read_text" 2 ["template", "at"] spRText:=by
 refine D.cal sc_read_text (fun vs H Q E h=>?_) (fun f cdv A outer s H vs Q E hr h=>?_)
 ·obtain⟨l,t,r,a,rfl,_⟩:=h;rfl
 ·obtain⟨l,t,r,a,rfl,hl,hd,hne,hns,hst,k⟩:=h;obtain⟨_,g_NAME_SIGNS⟩:=T.NAME_SIGNS;refine⟨_,(q0c (q0y (pe_c C.asked hr (q0a (pv 0) (q0a (pv 1) (q0a (q0t (v:=.str (Ab "abcdefghijklmnopqrstuvwxyzABCDEFGHIJKLMNOPQRSTUVWXYZ0123456789-_.")) (by rfl) g_NAME_SIGNS ⟨_,rfl⟩) q0b))))) (q0c (q0k (i:=2) sc_read_text.nd rfl (by trivial) (pe_c C.end_of hr (q0a (pv 0) (q0a (pv 1) (q0a (q0t (v:=.str (Ab "abcdefghijklmnopqrstuvwxyzABCDEFGHIJKLMNOPQRSTUVWXYZ0123456789-_.")) (by rfl) g_NAME_SIGNS ⟨_,rfl⟩) (q0a (q0n (q1q K rfl) (by rfl) T.b_len Ax (q0a (pv 0) q0b)) q0b)))))) (q0e (q0m (q0o (q0a (q0o (q0a q0g (q0a (q1n (sl_k K rfl) (pv 0) (q1f (pv 1)) (q1f (pv 2))) q0b))) (q0a (pv 2) q0b))))))),?_⟩;have hlen:=q0r l;have hle:=z3d hd hne;have hp:0<t.length:=Cw.mpr hne;obtain⟨c0,h01,h02⟩:=q8v hd hp;refine⟨_,rfl,_,rfl,l,a,c0,_,rfl,h01,hns c0 (Am h02),hl,?_⟩;refine⟨_,rfl,_,rfl,_,rfl,_,_,rfl,⟨small (by lia),rfl⟩,?_⟩;refine⟨l,a,l.length,t.length,_,by rw[hlen];rfl,hl,hle,by lia,fun j hj=>?_,?_,?_⟩
  ·obtain⟨c,h1,h2⟩:=q8v hd hj;exact⟨c,h1,hns c (Am h2)⟩
  ·cases r with
   |nil =>
    have h1:=congrArg List.length hd;rw[Bx,Dd] at h1;exact .inr (.inl (by lia))
   |cons c r'=>exact .inr (.inr ⟨c,(q1h (drop_app hd)).1,hst c r' rfl⟩)
  refine⟨_,rfl,_,rfl,_,rfl,_,rfl,_,rfl,.inl ⟨_,rfl,small (by lia),?_⟩⟩;rw[q4s (by lia) (by lia),show a+t.length-a=t.length from by lia,hd,List.take_left];refine⟨by show 2<=sizeLine;decide,fun T1 hT1=>⟨_,rfl,by show 2<=sizeLine;decide,fun T2 hT2=>?_⟩⟩;exact k.go rfl hT1 hT2
def spInto:Sp:=fun vs H Q _=>∃(l:List Nat) (a c:Nat),vs=[.str (mk l),.int (a:Int)]/\l.length<=1000/\1<=a/\l[a-1]?=some c/\c≠47/\RT H Q .into (a+1)
abbrev q2o:Stmt:=top 29
theorem q5l:FnScope ["template", "at"] ["template", "at"] (defScope q2o):=by trivial
theorem z0p(D:Df K mg "read_into" q2o ["template", "at"])(T:Txt mg):Cal P w K mg base "read_into" 1 ["template", "at"] spInto:=by
 refine D.cal q5l (fun vs H Q E h=>?_) (fun f cdv A outer s H vs Q E hr h=>?_)
 ·obtain⟨l,a,c,rfl,_⟩:=h;rfl
 ·obtain⟨l,a,c,rfl,hl,ha,hc,hn,k⟩:=h;refine⟨_,(q0c (q0v (pt_j (@PW.pt _ _ _ (q4d (q0h (eq_k K rfl hr) (pv 1) q0f (nomark _)) (q3e (q0h (eq_k K rfl hr) (q0x (ix_k K rfl) (pv 0) (q0p q3t (pv 1) q0f) (fun _ _=>rfl)) q0g (nomark _)))))) (q0e q2a) q0i) (q0e (q0m (q0o (q0a (q0o (q0a q0g q0b)) (q0a (q0p q0j (pv 1) q0f) q0b)))))),?_⟩;have hlen:=q0r l;refine⟨fun b H'=>b=false/\H'=H,?_,?_⟩;rotate_left
  ·refine⟨_,rfl,.inl ⟨rfl,_,rfl,?_⟩⟩;refine iteB (fun h=>?_) (fun h=>?_)
   ·have:=of_decide_eq_true h;injection this with this;lia
   refine⟨_,rfl,_,rfl,_,_,rfl,rfl,.inr (.inr ⟨mk l,_,c,rfl,rfl,small (by lia),?_,.inl ⟨rfl,_,rfl,?_,rfl⟩⟩)⟩
   ·rw[show((a:Nat):Int)-1=((a-1:Nat):Int) from by lia];exact q1t (show(tl (mk l))[a-1]?=_ by rw[q0z];exact hc)
   ·show decide (V.str (mk [c])=V.str (Ab "/"))=false;rw[lit1 c 47 "/" (by decide +kernel),decide_eq_false hn]
  rintro b H' ⟨rfl,rfl⟩;refine iteF ⟨by show 1<=sizeLine;decide,fun T1 hT1=>⟨_,rfl,.inl ⟨_,_,rfl,rfl,by show 2<=sizeLine;decide,fun T2 hT2=>?_⟩⟩⟩;exact k.go (by show(a:Int)+1=((a+1:Nat):Int);lia) hT1 hT2
def casesKV:List (Key×V):=[(Sum.inr (Ab "u"),.str (Ab "great")),(Sum.inr (Ab "l"),.str (Ab "small"))]
structure CallsU (P:Program) (w:World) (K:Af) (mg:Str->Option Value) (base:Heap):Prop where
 asked:Cal P w K mg base "asked" 1 ["template", "at", "signs"] spAsked
 read_noughts:Cal P w K mg base "read_noughts" 2 ["template", "at", "gap"] spNoughts
 read_more:Cal P w K mg base "read_more" 2 ["template", "at", "gap"] spMore
 cases_:∃d,mg "CASES" = some (.ref d)/\KDict P w K d casesKV
def Pc.gt:Pc->Option (Nat×List Nat)
 |.gap k=>some (k,[125])
 |.great k=>some (k,[117,125])
 |.small k=>some (k,[108,125])
 |.nou k w=>some (k,[122,48+w,125])
 |.more k m=>some (k,43::(dg m++[125]))
 |_=>none
def spGap:Sp:=fun vs H Q _=>∃(l r t:List Nat) (a g:Nat) (p:Pc),vs=[.str (mk l),.int (a:Int),.int (g:Int)]/\l.length<=1000/\p.ok/\p.gt=some (g,t)/\l.drop a=t++r/\RT H Q p (a+t.length)
abbrev q3a:Stmt:=top 27
theorem sc_read_gap:FnScope ["template", "at", "gap", "sign"] ["template", "at", "gap"] (defScope q3a):=by trivial
theorem z1v(D:Df K mg "read_gap" q3a ["template", "at", "gap"])(T:Txt mg)(C:CallsU P w K mg base):Cal P w K mg base "read_gap" 3 ["template", "at", "gap"] spGap:=by
 refine D.cal sc_read_gap (fun vs H Q E h=>?_) (fun f cdv A outer s H vs Q E hr h=>?_)
 ·obtain⟨l,r,t,a,g,p,rfl,_⟩:=h;rfl
 ·obtain⟨l,r,t,a,g,p,rfl,hl,hok,hgt,hd,k⟩:=h;obtain⟨dC,g_CASES,k_CASES⟩:=C.cases_;refine⟨_,(q0c (q0k (i:=3) sc_read_gap.nd rfl (by trivial) (pe_c C.asked hr (q0a (pv 0) (q0a (pv 1) (q0a q0g q0b))))) (q0c (q0v (q0h (eq_k K rfl hr) (pv 3) q0g (nomark _)) (q0e (q0m (q0o (q0a (q0o (q0a q0g (q0a (pv 2) q0b))) (q0a (q0p q0j (pv 1) q0f) q0b))))) q0i) (q0c (q0v (q0h (eq_k K rfl hr) (pv 3) q0g (nomark _)) (q0e (q0m (pe_c C.read_noughts hr (q0a (pv 0) (q0a (q0p q0j (pv 1) q0f) (q0a (pv 2) q0b)))))) q0i) (q0c (q0v (q0h (eq_k K rfl hr) (pv 3) q0g (nomark _)) (q0e (q0m (pe_c C.read_more hr (q0a (pv 0) (q0a (q0p q0j (pv 1) q0f) (q0a (pv 2) q0b)))))) q0i) (q0c (q0y (pe_c C.asked hr (q0a (pv 0) (q0a (q0p q0j (pv 1) q0f) (q0a q0g q0b))))) (q0e (q0m (q0o (q0a (q0o (q0a (z5y (by rfl) g_CASES k_CASES (pv 3) (fun _ _=>rfl)) (q0a (pv 2) q0b))) (q0a (q0p q0j (pv 1) q0f) q0b)))))))))),?_⟩;have no:∀(c d:Nat) (s:String),Ab s=mk [d]->c≠d->decide (V.str (mk [c])=V.str (Ab s))=false:=fun c d s h1 h2=>by rw[lit1 c d s h1,decide_eq_false h2]
  have yes:∀(c:Nat) (s:String),Ab s=mk [c]->decide (V.str (mk [c])=V.str (Ab s))=true:=fun c s h1=>by rw[lit1 c c s h1,decide_eq_true rfl]
  cases p with
  |tx l=>cases hgt
  |cnt v=>cases hgt
  |into=>cases hgt
  |gap kk =>
   cases hgt;obtain⟨hc,_⟩:=q1h (show l.drop a=125::r from hd);refine⟨_,rfl,_,rfl,l,a,125,_,rfl,hc,by decide +kernel,hl,?_⟩;refine⟨_,rfl,.inl ⟨rfl,_,rfl,?_⟩⟩;rw[yes 125 "}" (by decide +kernel)];refine iteT ⟨_,rfl,by show 2<=sizeLine;decide,fun T1 hT1=>⟨_,rfl,.inl ⟨_,_,rfl,rfl,by show 2<=sizeLine;decide,fun T2 hT2=>?_⟩⟩⟩;exact k.go (by show(a:Int)+1=((a+1:Nat):Int);lia) hT1 hT2
  |great kk =>
   cases hgt;obtain⟨hc,hd2⟩:=q1h (show l.drop a=117::(125::r) from hd);obtain⟨hc2,_⟩:=q1h hd2;refine⟨_,rfl,_,rfl,l,a,117,_,rfl,hc,by decide +kernel,hl,?_⟩;refine⟨_,rfl,.inl ⟨rfl,_,rfl,?_⟩⟩;rw[no 117 125 "}" (by decide +kernel) (by decide)];refine iteF ⟨_,rfl,.inl ⟨rfl,_,rfl,?_⟩⟩;rw[no 117 122 "z" (by decide +kernel) (by decide)];refine iteF ⟨_,rfl,.inl ⟨rfl,_,rfl,?_⟩⟩;rw[no 117 43 "+" (by decide +kernel) (by decide)];refine iteF ⟨_,rfl,_,rfl,.inl ⟨_,_,rfl,rfl,l,a+1,125,_,by rfl,hc2,by decide +kernel,hl,?_⟩⟩;refine⟨_,rfl,Sum.inr (Ab "u"),.str (Ab "great"),?_,by decide +kernel,_,rfl,by show 2<=sizeLine;decide,fun T1 hT1=>⟨_,rfl,.inl ⟨_,_,rfl,rfl,by show 2<=sizeLine;decide,fun T2 hT2=>?_⟩⟩⟩
   ·exact congrArg V.str (by decide +kernel:mk [117]=Ab "u")
   exact k.go (by show(a:Int)+2=((a+2:Nat):Int);lia) hT1 hT2
  |small kk =>
   cases hgt;obtain⟨hc,hd2⟩:=q1h (show l.drop a=108::(125::r) from hd);obtain⟨hc2,_⟩:=q1h hd2;refine⟨_,rfl,_,rfl,l,a,108,_,rfl,hc,by decide +kernel,hl,?_⟩;refine⟨_,rfl,.inl ⟨rfl,_,rfl,?_⟩⟩;rw[no 108 125 "}" (by decide +kernel) (by decide)];refine iteF ⟨_,rfl,.inl ⟨rfl,_,rfl,?_⟩⟩;rw[no 108 122 "z" (by decide +kernel) (by decide)];refine iteF ⟨_,rfl,.inl ⟨rfl,_,rfl,?_⟩⟩;rw[no 108 43 "+" (by decide +kernel) (by decide)];refine iteF ⟨_,rfl,_,rfl,.inl ⟨_,_,rfl,rfl,l,a+1,125,_,by rfl,hc2,by decide +kernel,hl,?_⟩⟩;refine⟨_,rfl,Sum.inr (Ab "l"),.str (Ab "small"),?_,by decide +kernel,_,rfl,by show 2<=sizeLine;decide,fun T1 hT1=>⟨_,rfl,.inl ⟨_,_,rfl,rfl,by show 2<=sizeLine;decide,fun T2 hT2=>?_⟩⟩⟩
   ·exact congrArg V.str (by decide +kernel:mk [108]=Ab "l")
   exact k.go (by show(a:Int)+2=((a+2:Nat):Int);lia) hT1 hT2
  |nou kk ww =>
   cases hgt;obtain⟨hc,hd2⟩:=q1h (show l.drop a=122::((48+ww)::125::r) from hd);refine⟨_,rfl,_,rfl,l,a,122,_,rfl,hc,by decide +kernel,hl,?_⟩;refine⟨_,rfl,.inl ⟨rfl,_,rfl,?_⟩⟩;rw[no 122 125 "}" (by decide +kernel) (by decide)];refine iteF ⟨_,rfl,.inl ⟨rfl,_,rfl,?_⟩⟩;rw[yes 122 "z" (by decide +kernel)];refine iteT ⟨_,rfl,_,rfl,.inl ⟨_,_,rfl,rfl,_,rfl,l,r,a+1,g,ww,by rfl,hl,hok.2.1,hok.2.2,hd2,?_⟩⟩;rw[show a+1+2=a+[122,48+ww,125].length from rfl];exact k
  |more kk m =>
   cases hgt;obtain⟨hc,hd2⟩:=q1h (show l.drop a=43::((dg m++[125])++r) from hd);refine⟨_,rfl,_,rfl,l,a,43,_,rfl,hc,by decide +kernel,hl,?_⟩;refine⟨_,rfl,.inl ⟨rfl,_,rfl,?_⟩⟩;rw[no 43 125 "}" (by decide +kernel) (by decide)];refine iteF ⟨_,rfl,.inl ⟨rfl,_,rfl,?_⟩⟩;rw[no 43 122 "z" (by decide +kernel) (by decide)];refine iteF ⟨_,rfl,.inl ⟨rfl,_,rfl,?_⟩⟩;rw[yes 43 "+" (by decide +kernel)];refine iteT ⟨_,rfl,_,rfl,.inl ⟨_,_,rfl,rfl,_,rfl,l,r,a+1,g,m,by rfl,hl,hok.2,by rw[hd2,Ek];rfl,?_⟩⟩;rw[show a+1+(dg m).length+1=a+(43::(dg m++[125])).length from by rw[Be,Ae,Aq];lia];exact k
structure CallsV (P:Program) (w:World) (K:Af) (mg:Str->Option Value) (base:Heap):Prop where
 asked:Cal P w K mg base "asked" 1 ["template", "at", "signs"] spAsked
 read_count:Cal P w K mg base "read_count" 2 ["template", "at"] spCount
 read_gap:Cal P w K mg base "read_gap" 3 ["template", "at", "gap"] spGap
def spMark:Sp:=fun vs H Q _=>∃(l r t:List Nat) (a:Nat) (p:Pc),vs=[.str (mk l),.int (a:Int)]/\l.length<=1000/\p.ok/\p.wr=123::t/\(∀x,p≠.tx x)/\l.drop a=t++r/\RT H Q p (a+t.length)
theorem in_n:∀v,v<10->1<=v->48+v∈tl (Ab "n" ++ Ab "123456789"):=by decide +kernel
theorem gt_of{p:Pc}{t:List Nat}(hok:p.ok)(hw:p.wr=123::t)(hx:∀x,p≠.tx x):(∃v,p=.cnt v/\t=110::cntW v)\/∃g u,p.gt=some (g,u)/\t=(48+g)::u/\1<=g/\g<=9:=by
 cases p with
 |tx l=>exact absurd rfl (hx l)
 |into=>injection hw with h _;exact absurd h (by decide)
 |cnt v=>injection hw with _ hw;exact .inl ⟨v,rfl,hw.symm⟩
 |gap k=>injection hw with _ hw;exact .inr ⟨k,_,rfl,hw.symm,hok.1,hok.2⟩
 |great k=>injection hw with _ hw;exact .inr ⟨k,_,rfl,hw.symm,hok.1,hok.2⟩
 |small k=>injection hw with _ hw;exact .inr ⟨k,_,rfl,hw.symm,hok.1,hok.2⟩
 |nou k v=>injection hw with _ hw;exact .inr ⟨k,_,rfl,hw.symm,hok.1.1,hok.1.2⟩
 |more k m=>injection hw with _ hw;exact .inr ⟨k,_,rfl,hw.symm,hok.1.1,hok.1.2⟩
abbrev q2p:Stmt:=top 28
theorem sc_read_mark:FnScope ["template", "at", "sign"] ["template", "at"] (defScope q2p):=by trivial
theorem z0q(D:Df K mg "read_mark" q2p ["template", "at"])(T:Txt mg)(C:CallsV P w K mg base):Cal P w K mg base "read_mark" 4 ["template", "at"] spMark:=by
 refine D.cal sc_read_mark (fun vs H Q E h=>?_) (fun f cdv A outer s H vs Q E hr h=>?_)
 ·obtain⟨l,r,t,a,p,rfl,_⟩:=h;rfl
 ·obtain⟨l,r,t,a,p,rfl,hl,hok,hw,hx,hd,k⟩:=h;obtain⟨_,g_FROM_ONE⟩:=T.FROM_ONE;refine⟨_,(q0c (q0k (i:=2) sc_read_mark.nd rfl (by trivial) (pe_c C.asked hr (q0a (pv 0) (q0a (pv 1) (q0a (q0p q0j q0g (q0t (v:=.str (Ab "123456789")) (by rfl) g_FROM_ONE ⟨_,rfl⟩)) q0b))))) (q0c (q0v (q0h (eq_k K rfl hr) (pv 2) q0g (nomark _)) (q0e (q0m (pe_c C.read_count hr (q0a (pv 0) (q0a (q0p q0j (pv 1) q0f) q0b))))) q0i) (q0e (q0m (pe_c C.read_gap hr (q0a (pv 0) (q0a (q0p q0j (pv 1) q0f) (q0a (q1a q1r (by rfl) T.b_int (by decide +kernel) (q0a (pv 2) q0b)) q0b)))))))),?_⟩;have e9:(Ab "n").length+(Ab "123456789").length<=1000:=by decide +kernel
  rcases gt_of hok hw hx with⟨v,rfl,rfl⟩|⟨g,u,hgt,rfl,hg1,hg9⟩
  ·obtain⟨hc,hd2⟩:=q1h (show l.drop a=110::(cntW v++r) from hd);refine⟨_,rfl,_,rfl,.inr (.inl ⟨_,_,rfl,rfl,TX.small (by lia),l,a,110,_,rfl,hc,by decide +kernel,hl,?_⟩)⟩;refine⟨_,rfl,.inl ⟨rfl,_,rfl,?_⟩⟩;rw[lit1 110 110 "n" (by decide +kernel),decide_eq_true rfl];refine iteT ⟨_,rfl,_,rfl,.inl ⟨_,_,rfl,rfl,l,r,a+1,v,by rfl,hl,hok.1,hok.2,hd2,?_⟩⟩;rw[show a+1+(cntW v).length=a+(110::cntW v).length from by rw[Be];lia];exact k
  ·obtain⟨hc,hd2⟩:=q1h (show l.drop a=(48+g)::(u++r) from hd);refine⟨_,rfl,_,rfl,.inr (.inl ⟨_,_,rfl,rfl,TX.small (by lia),l,a,48+g,_,rfl,hc,in_n g (by lia) hg1,hl,?_⟩)⟩;refine⟨_,rfl,.inl ⟨rfl,_,rfl,?_⟩⟩;rw[lit1 (48+g) 110 "n" (by decide +kernel),decide_eq_false (by lia)];refine iteF ⟨_,rfl,_,rfl,.inl ⟨_,_,rfl,rfl,_,rfl,.inr ⟨_,_,rfl,q7t (by lia),by rw[q0r];show 1<=640;decide,l,r,u,a+1,g,p,by rfl,hl,hok,hgt,hd2,?_⟩⟩⟩;rw[show a+1+u.length=a+((48+g)::u).length from by rw[Be];lia];exact k
structure CallsW (P:Program) (w:World) (K:Af) (mg:Str->Option Value) (base:Heap):Prop where
 read_mark:Cal P w K mg base "read_mark" 4 ["template", "at"] spMark
 read_into:Cal P w K mg base "read_into" 1 ["template", "at"] spInto
 read_text:Cal P w K mg base "read_text" 2 ["template", "at"] spRText
def spPiece:Sp:=fun vs H Q _=>∃(l r:List Nat) (a:Nat) (p:Pc),vs=[.str (mk l),.int (a:Int)]/\l.length<=1000/\p.ok/\l.drop a=p.wr++r/\((∃x,p=.tx x)->∀c r',r=c::r'->¬c∈NS)/\(p=.into->1<=a/\∃c,l[a-1]?=some c/\c≠47)/\RT H Q p (a+p.wr.length)
theorem no123:(123:Nat)∉NS:=by decide +kernel
theorem no47:(47:Nat)∉NS:=by decide +kernel
theorem x0z{p:Pc}(h1:∀x,p≠.tx x)(h2:p≠.into):∃t,p.wr=123::t:=by
 cases p with
 |tx l=>exact absurd rfl (h1 l)
 |into=>exact absurd rfl h2
 |_=>exact⟨_,rfl⟩
abbrev q2i:Stmt:=top 31
theorem q4y:FnScope ["template", "at"] ["template", "at"] (defScope q2i):=by trivial
theorem q8w(D:Df K mg "read_piece" q2i ["template", "at"])(T:Txt mg)(C:CallsW P w K mg base):Cal P w K mg base "read_piece" 5 ["template", "at"] spPiece:=by
 refine D.cal q4y (fun vs H Q E h=>?_) (fun f cdv A outer s H vs Q E hr h=>?_)
 ·obtain⟨l,r,a,p,rfl,_⟩:=h;rfl
 ·obtain⟨l,r,a,p,rfl,hl,hok,hd,htx,hin,k⟩:=h;refine⟨_,(q0c (q0v (q0h (eq_k K rfl hr) (q0x (ix_k K rfl) (pv 0) (pv 1) (fun _ _=>rfl)) q0g (nomark _)) (q0e (q0m (pe_c C.read_mark hr (q0a (pv 0) (q0a (q0p q0j (pv 1) q0f) q0b))))) q0i) (q0c (q0v (q0h (eq_k K rfl hr) (q0x (ix_k K rfl) (pv 0) (pv 1) (fun _ _=>rfl)) q0g (nomark _)) (q0e (q0m (pe_c C.read_into hr (q0a (pv 0) (q0a (pv 1) q0b))))) q0i) (q0e (q0m (pe_c C.read_text hr (q0a (pv 0) (q0a (pv 1) q0b))))))),?_⟩;have hlen:=q0r l;have at_:∀c,l[a]?=some c->atI (tl (mk l)) ((a:Nat):Int)=some c:=fun c hc=>q1t (by rw[q0z];exact hc)
  by_cases h1:∃x,p=.tx x
  ·obtain⟨t,rfl⟩:=h1;obtain⟨c,t',rfl⟩:∃c t',t=c::t':=by cases t with|nil=>exact absurd rfl hok.1|cons c t'=>exact⟨c,t',rfl⟩
   have hcN:=hok.2 c Bo;obtain⟨hc,_⟩:=q1h (show l.drop a=c::(t'++r) from hd);refine⟨_,rfl,_,rfl,.inr (.inr ⟨mk l,_,c,rfl,rfl,TX.small (by lia),at_ c hc,.inl ⟨rfl,_,rfl,?_⟩⟩)⟩;show if decide (V.str (mk [c])=V.str (Ab "{"))=true then _ else _
   rw[lit1 c 123 "{" (by decide +kernel),decide_eq_false (fun z:c=123=>no123 (z▸hcN))];refine iteF ⟨_,rfl,_,rfl,.inr (.inr ⟨mk l,_,c,rfl,rfl,TX.small (by lia),at_ c hc,.inl ⟨rfl,_,rfl,?_⟩⟩)⟩;show if decide (V.str (mk [c])=V.str (Ab "/"))=true then _ else _
   rw[lit1 c 47 "/" (by decide +kernel),decide_eq_false (fun z:c=47=>no47 (z▸hcN))];refine iteF ⟨_,rfl,_,rfl,l,c::t',r,a,by rfl,hl,hd,hok.1,hok.2,htx ⟨_,rfl⟩,k⟩
  ·by_cases h2:p=.into
   ·subst h2;obtain⟨hc,_⟩:=q1h (show l.drop a=47::r from hd);obtain⟨ha,c,hc1,hc2⟩:=hin rfl;refine⟨_,rfl,_,rfl,.inr (.inr ⟨mk l,_,47,rfl,rfl,TX.small (by lia),at_ 47 hc,.inl ⟨rfl,_,rfl,?_⟩⟩)⟩;show if decide (V.str (mk [47])=V.str (Ab "{"))=true then _ else _
    rw[lit1 47 123 "{" (by decide +kernel),decide_eq_false (by decide)];refine iteF ⟨_,rfl,_,rfl,.inr (.inr ⟨mk l,_,47,rfl,rfl,TX.small (by lia),at_ 47 hc,.inl ⟨rfl,_,rfl,?_⟩⟩)⟩;show if decide (V.str (mk [47])=V.str (Ab "/"))=true then _ else _
    rw[lit1 47 47 "/" (by decide +kernel),decide_eq_true rfl];exact iteT ⟨_,rfl,_,rfl,l,a,c,by rfl,hl,ha,hc1,hc2,k⟩
   ·have h1':∀x,p≠.tx x:=fun x z=>h1 ⟨x,z⟩;obtain⟨t,ht⟩:=x0z h1' h2;rw[ht] at hd k;obtain⟨hc,hd2⟩:=q1h (show l.drop a=123::(t++r) from hd);refine⟨_,rfl,_,rfl,.inr (.inr ⟨mk l,_,123,rfl,rfl,TX.small (by lia),at_ 123 hc,.inl ⟨rfl,_,rfl,?_⟩⟩)⟩;show if decide (V.str (mk [123])=V.str (Ab "{"))=true then _ else _
    rw[lit1 123 123 "{" (by decide +kernel),decide_eq_true rfl];refine iteT ⟨_,rfl,_,rfl,.inl ⟨_,_,rfl,rfl,l,r,t,a+1,p,by rfl,hl,hok,ht,h1',hd2,?_⟩⟩;rw[show a+1+t.length=a+(123::t).length from by rw[Be];lia];exact k
def flatP(ps:List Pc):List Nat:=(ps.map Pc.wr).flatten
theorem q1s(p:Pc)(ps:List Pc):flatP (p::ps)=p.wr++flatP ps:=by simp[flatP]
theorem q2c(a b:List Pc):flatP (a++b)=flatP a++flatP b:=by simp[flatP]
theorem z6j{p:Pc}(h:p.ok):p.wr≠[]:=by
 cases p with
 |tx l=>exact h.1
 |_=>simp[Pc.wr]
structure WP (ps:List Pc):Prop where
 ne:ps≠[]
 ok:∀p∈ps,p.ok
 tt:∀i x y,ps[i]?=some (.tx x)->ps[i+1]?≠some (.tx y)
 ii:∀i,ps[i]?=some .into->1<=i/\ps[i-1]?≠some .into
 la:∀q,ps.getLast?=some q->q≠.into
 sz:(flatP ps).length<=100
theorem x1a{p:Pc}(h:∀x,p≠.tx x):∃c t,p.wr=c::t/\¬c∈NS:=by
 cases p with
 |tx l=>exact absurd rfl (h l)
 |into=>exact⟨47,[],rfl,no47⟩
 |_=>exact⟨123,_,rfl,no123⟩
theorem x1b{p:Pc}(hok:p.ok)(h:p≠.into):∃t c,p.wr=t++[c]/\c≠47:=by
 cases p with
 |tx l =>
  refine⟨l.dropLast,l.getLast hok.1,(Bq hok.1).symm,fun z=>?_⟩;have:=hok.2 _ (Oy hok.1);rw[z] at this;exact no47 this
 |into=>exact absurd rfl h
 |gap k=>exact⟨[123,48+k],125,rfl,by decide⟩
 |great k=>exact⟨[123,48+k,117],125,rfl,by decide⟩
 |small k=>exact⟨[123,48+k,108],125,rfl,by decide⟩
 |nou k w=>exact⟨[123,48+k,122,48+w],125,rfl,by decide⟩
 |more k m=>exact⟨123::(48+k)::43::dg m,125,rfl,by decide⟩
 |cnt v =>
  by_cases hv:v=1
  ·exact⟨[123,110],125,by show 123::110::cntW v=_;unfold cntW;rw[if_pos hv];rfl,by decide⟩
  ·exact⟨[123,110,48+v],125,by show 123::110::cntW v=_;unfold cntW;rw[if_neg hv];rfl,by decide⟩
abbrev PTu(H:Hp):List Addr->List Pc->Prop:=Fg fun T p=>H T=some (.tup p.vs)
structure HP (H:Hp) (L:Addr) (ps:List Pc):Prop where
 ex:∃Ts,H L=some (.lst (Ts.map V.ref))/\PTu H Ts ps
theorem PTu.keep{H H':Hp}(k:∀T xs,H T=some (.tup xs)->H' T=some (.tup xs)):∀{Ts:List Addr} {ps:List Pc},PTu H Ts ps->PTu H' Ts ps
 |_,_,.nil=>.nil
 |_,_,.cons h t=>.cons (k _ _ h) (PTu.keep k t)
theorem PTu.len{H:Hp}{Ts:List Addr}{ps:List Pc}(h:PTu H Ts ps):Ts.length=ps.length:=Fw h
theorem PTu.snoc{H:Hp}{T:Addr}{p:Pc}(hT:H T=some (.tup p.vs)):∀{Ts:List Addr} {ps:List Pc},PTu H Ts ps->PTu H (Ts++[T]) (ps++[p])
 |_,_,.nil=>.cons hT .nil
 |_,_,.cons h t=>.cons h (PTu.snoc hT t)
theorem PTu.get{H:Hp}:∀{Ts:List Addr} {ps:List Pc} {i:Nat} {T:Addr},PTu H Ts ps->Ts[i]?=some T->∃p,ps[i]?=some p/\H T=some (.tup p.vs)
 |_,_,0,_,.cons h t,e=>by simp at e;subst e;exact⟨_,rfl,h⟩
 |_,_,i+1,_,.cons h t,e=>by
  obtain⟨p,h1,h2⟩:=PTu.get t (by simpa using e);exact⟨p,by simpa using h1,h2⟩
theorem HP.same{H H':Hp}{L:Addr}{ps:List Pc}(h:HP H L ps)(s:Same H H'):HP H' L ps:=let ⟨Ts,h1,h2⟩:=h.ex;⟨Ts,s _ _ h1,h2.keep fun T xs e=>s _ _ e⟩
theorem HP.sq{K:Af}{H:Hp}{L:Addr}{ps:List Pc}(h:HP H L ps):∃xs,SqL K H L xs:=let ⟨Ts,h1,_⟩:=h.ex;⟨_,SqL.of h1⟩
def Pc.ds:Pc->List PyData
 |.tx l=>[.str (Ab "text"),.str (mk l)]
 |.gap k=>[.str (Ab "gap"),.int (k:Int)]
 |.great k=>[.str (Ab "great"),.int (k:Int)]
 |.small k=>[.str (Ab "small"),.int (k:Int)]
 |.nou k w=>[.str (Ab "noughts"),.int (k:Int),.int (w:Int)]
 |.more k m=>[.str (Ab "more"),.int (k:Int),.int (m:Int)]
 |.cnt v=>[.str (Ab "count"),.int (v:Int)]
 |.into=>[.str (Ab "into")]
theorem Pc.dts{K:Af}{H:Hp}(p:Pc):Dts K H p.vs p.ds:=by
 cases p<;>first|exact .cons (.str _) (.cons (.str _) .nil)|exact .cons (.str _) (.cons (.int _) .nil)|exact .cons (.str _) (.cons (.int _) (.cons (.int _) .nil))|exact .cons (.str _) .nil
theorem PTu.dts{K:Af}{H:Hp}:∀{Ts:List Addr} {ps:List Pc},PTu H Ts ps->Dts K H (Ts.map V.ref) (ps.map fun p=>.tuple p.ds)
 |_,_,.nil=>.nil
 |_,_,.cons h t=>.cons (.tup (SqT.of h) (Pc.dts _)) (PTu.dts t)
theorem Pc.lay {p : Pc} (h : p.ok) : (PyData.tuple p.ds).canLay0 = true := by
  show Bj p.ds = true;cases p with
  | tx l =>
    have h1 : Bp (mk l) = true := z2t fun c hc => z2p c (h.2 c hc);have h2 : Bp (Ab "text") = true := by decide +kernel
    show Bj [.str (Ab "text"), .str (mk l)] = true;simp only [Bj, Cq, h1, h2, Dv]
  | gap k => have h2 : Bp (Ab "gap") = true := by decide +kernel
             simp only [Pc.ds, Bj, Cq, h2, Dv]
  | great k => have h2 : Bp (Ab "great") = true := by decide +kernel
               simp only [Pc.ds, Bj, Cq, h2, Dv]
  | small k => have h2 : Bp (Ab "small") = true := by decide +kernel
               simp only [Pc.ds, Bj, Cq, h2, Dv]
  | nou k w => have h2 : Bp (Ab "noughts") = true := by decide +kernel
               simp only [Pc.ds, Bj, Cq, h2, Dv]
  | more k m => have h2 : Bp (Ab "more") = true := by decide +kernel
                simp only [Pc.ds, Bj, Cq, h2, Dv]
  | cnt v => have h2 : Bp (Ab "count") = true := by decide +kernel
             simp only [Pc.ds, Bj, Cq, h2, Dv]
  | into => decide +kernel
theorem lays:∀{ps:List Pc},(∀p∈ps,p.ok)->(PyData.list (ps.map fun p=>.tuple p.ds)).canLay0=true:=by
 intro ps;show _->Bj (ps.map fun p=>.tuple p.ds)=true;induction ps with
 |nil=>intro _;rfl
 |cons p r ih =>
  intro h;have h1:=Pc.lay (h p Bo);have h2:=ih fun q hq=>h q (Av _ hq);show Bj (.tuple p.ds::r.map fun p=>.tuple p.ds)=true;simp only[Bj,h1,h2,Dv]
theorem q8x{p:Pc}(h:p≠.into):Fl (.tuple p.ds) (.tuple [.str (Ab "into")])=false:=by
 cases p with
 |into=>exact absurd rfl h
 |_=>simp[Pc.ds,Fl,Na]
theorem q8y{ps:List Pc}(h:ps≠[]):Fl (.list (ps.map fun p=>.tuple p.ds)) (.list [])=false:=by
 cases ps with
 |nil=>exact absurd rfl h
 |cons p r=>simp[Fl,Na]
structure CallsX (P:Program) (w:World) (K:Af) (mg:Str->Option Value) (base:Heap):Prop where
 read_piece:Cal P w K mg base "read_piece" 5 ["template", "at"] spPiece
def spPieces:Sp:=fun vs H Q _=>∃ps:List Pc,vs=[.str (mk (flatP ps))]/\WP ps/\∀L H',H L=none->Same H H'->HP H' L ps->Q (.ref L) H'
def pcMeas(n:Nat)(σ:St):Nat:=match σ[2]? with|some (some (V.int e))=>n-e.toNat|_=>0
abbrev q2q:Stmt:=top 32
theorem sc_pieces_of:FnScope ["template", "pieces", "at", "piece"] ["template"] (defScope q2q):=by trivial
theorem z0r(D:Df K mg "pieces_of" q2q ["template"])(T:Txt mg)(C:CallsX P w K mg base):Cal P w K mg base "pieces_of" 6 ["template"] spPieces:=by
 refine D.cal sc_pieces_of (fun vs H Q E h=>?_) (fun f cdv A outer s H vs Q E hr h=>?_)
 ·obtain⟨ps,rfl,_⟩:=h;rfl
 ·obtain⟨ps,rfl,wp,k⟩:=h;refine⟨_,(q0c (q0k (i:=1) sc_pieces_of.nd rfl (by trivial) (q1b q0b)) (q0c (q0k (i:=2) sc_pieces_of.nd rfl (by trivial) q0f) (q0c (q7x Ca (q0h q6c (pv 2) (q0n (q1q K rfl) (by rfl) T.b_len Ax (q0a (pv 0) q0b)) (nomark _)) (q0c (q4e (pe_c C.read_piece hr (q0a (pv 0) (q0a (pv 2) q0b))) (@q2f _ _ _ _ (2) _ K rfl rfl (q0u (q0s (i:=3) sc_pieces_of.nd rfl (by trivial)) (q0u (q0s (i:=2) sc_pieces_of.nd rfl (by trivial)) q1o)) (by rfl) (by rfl))) (q0e (q0y (@bm_k _ _ _ _ _ _ _ _ _ _ _ _ K rfl Bc Bv Bw q1j (pv 1) (q0a (pv 3) q0b) (by rfl) (by rfl) (by rfl) (by rfl) (by rfl)))))) (q0c (q0v (pt_j (@PW.pt _ _ _ (q4d (q0h (eq_k K rfl hr) (pv 1) (q1b q0b) (nomark _)) (q3e (q0h (eq_k K rfl hr) (q0x (ix_k K rfl) (pv 1) (q7z q4g q0f) (fun _ _=>rfl)) (q0o (q0a q0g q0b)) (nomark _)))))) (q0e q2a) q0i) (q0e (q0m (pv 1))))))),?_⟩;generalize hl:flatP ps=l;have hlen:=q0r l;have hsz:l.length<=100:=by rw[<- hl];exact wp.sz
  refine⟨by show 0<=sizeLine;decide,fun L hL=>?_⟩;have hplen:ps.length<=100:=by
   have:∀qs:List Pc,(∀p∈qs,p.ok)->qs.length<=(flatP qs).length:=by
    intro qs;induction qs with
    |nil=>intro _;exact Ah _
    |cons q r ih =>
     intro hq;have h1:=ih fun p hp=>hq p (Av _ hp);have h2:=Cw.mpr (z6j (hq q Bo));rw[q1s,Ae,Be];lia
   have:=this ps wp.ok;rw[hl] at this;lia
  refine q7y (fun σ3 H3=>∃(i:Nat) (x3:Option V),σ3=[some (.str (mk l)),some (.ref L),some (.int (((flatP (ps.take i)).length:Nat):Int)),x3]/\Same H H3/\HP H3 L (ps.take i)/\i<=ps.length) (fun σ3 _=>pcMeas (l.length+1) σ3) ⟨0,none,rfl,(Same.refl H).new hL,⟨[],q0d,.nil⟩,Bg _⟩ ?_ ?_
  ·rintro σ3 H3 ⟨i,x3,rfl,sm,hp,hi⟩;have esp:flatP (ps.take i)++flatP (ps.drop i)=l:=by rw[<- q2c,Mc,hl]
   have hspl:(flatP (ps.take i)).length+(flatP (ps.drop i)).length=l.length:=by rw[<- esp,Ae]
   refine⟨_,rfl,_,rfl,_,_,rfl,⟨TX.small (by lia),rfl⟩,_,_,rfl,rfl,_,rfl,?_⟩;refine ite2 (fun h=>?_) (fun h=>?_)
   ·have h1:=of_decide_eq_true h;have hi':i<ps.length:=by
     rcases Jc i ps.length with z|z
     ·exact z
     ·rw[Gf z] at hspl;simp[flatP] at hspl;simp[flatP] at h1;lia
    have hpi:ps[i]?=some ps[i]:=Ap hi';generalize ps[i]=p at hpi;have hok:=wp.ok p (Am hpi);have edr:=q4p hpi;have hdr:l.drop (flatP (ps.take i)).length=p.wr++flatP (ps.drop (i+1)):=by rw[<- esp,List.drop_left,edr,q1s]
    refine⟨_,rfl,_,rfl,l,flatP (ps.drop (i+1)),(flatP (ps.take i)).length,p,rfl,by lia,hok,hdr,?_,?_,fun T1 T2 H4 hT1 hT2 sm4 h41 h42=>?_⟩
    ·rintro⟨x,rfl⟩ c r' hr;cases hq:ps[i+1]? with
     |none =>
      rw[Gf (List.getElem?_eq_none_iff.mp hq)] at hr;cases hr
     |some q =>
      have hnx:∀y,q≠.tx y:=fun y z=>wp.tt i x y hpi (by rw[hq,z]);obtain⟨c',t',hw,hn⟩:=x1a hnx;rw[q4p hq,q1s,hw] at hr;cases hr;exact hn
    ·rintro rfl;obtain⟨h1i,hprev⟩:=wp.ii i hpi;obtain⟨q,hq⟩:∃q,ps[i-1]?=some q:=⟨_,Ap (by lia)⟩
     have hqi:q≠.into:=fun z=>hprev (by rw[hq,z]);obtain⟨t,c,hw,hc⟩:=x1b (wp.ok q (Am hq)) hqi;have etk:ps.take i=ps.take (i-1)++[q]:=by
      have:=q1e hq
      rwa [show i-1+1=i from by lia] at this
     have efl:flatP (ps.take i)=(flatP (ps.take (i-1))++t)++[c]:=by rw[etk,q2c,show flatP [q]=q.wr from by simp[flatP],hw,Ek]
     refine⟨by rw[efl,Ae,Aq];lia,c,?_,hc⟩;rw[<- esp,efl,Ae,Aq,Ju,Ek,Bl (Ah _),Du];rfl
    ·refine⟨T2,_,rfl,SqT.of h42,rfl,_,_,rfl,_,_,rfl,rfl,?_⟩;have hp4:=hp.same sm4;obtain⟨Ts,a1,a2⟩:=hp4.ex;have hTl:=a2.len;rw[Bk] at hTl;refine⟨_,rfl,.inl ⟨rfl,hp4.sq⟩,_,rfl,L,_,_,rfl,rfl,a1,by rw[Ai];exact TX.small' (by lia),?_⟩;have hTL:T1≠L:=fun z=>by subst z;rw[a1] at h41;cases h41
     have ewr:flatP (ps.take (i+1))=flatP (ps.take i)++p.wr:=by rw[q1e hpi,q2c];simp[flatP]
     refine⟨⟨i+1,some (.ref T1),?_,(sm.trans sm4).put hL,⟨Ts++[T1],by rw[Bi];exact q0d,?_⟩,hi'⟩,?_⟩
     ·rw[ewr,Ae];rfl
     ·rw[q1e hpi];refine PTu.snoc (by rw[q0l hTL];exact h41) (a2.keep fun Tx xs e=>?_);rw[q0l (fun z=>by subst z;rw[a1] at e;cases e)];exact e
     ·show l.length+1-(((flatP (ps.take i)).length+p.wr.length:Nat):Int).toNat<l.length+1-(((flatP (ps.take i)).length:Nat):Int).toNat;have:=Cw.mpr (z6j hok);lia
   ·have h1:¬(((flatP (ps.take i)).length:Nat):Int)<(((mk l).length:Nat):Int):=fun z=>h (decide_eq_true z);have hi':i=ps.length:=by
     rcases Jc i ps.length with z|z
     ·have hpi:ps[i]?=some ps[i]:=Ap z;have:=Cw.mpr (z6j (wp.ok _ (Am hpi)));rw[q4p hpi,q1s,Ae] at hspl;lia
     ·lia
    subst hi';rw[Ep] at hp;obtain⟨Ts,a1,a2⟩:=hp.ex;have hTl:=a2.len;obtain⟨qs,q,hqs⟩:∃qs q,ps=qs++[q]:=⟨ps.dropLast,ps.getLast wp.ne,(Bq wp.ne).symm⟩
    have hqn:q≠.into:=wp.la q (by rw[hqs];simp);refine⟨fun b H'=>b=false/\Same H3 H',?_,?_⟩
    ·rintro b H' ⟨rfl,sm'⟩;exact iteF ⟨_,rfl,k L H' hL (sm.trans sm') (hp.same sm')⟩
    refine⟨_,rfl,by show 0<=sizeLine;decide,fun E0 hE0=>?_⟩;have smE:Same H3 (upd H3 E0 (.lst [])):=(Same.refl H3).new hE0;have hpE:=hp.same smE;obtain⟨Us,b1,b2⟩:=hpE.ex;refine .inr ⟨_,_,.lst (SqL.of b1) b2.dts,.lst (SqL.of q0d) .nil,lays wp.ok,rfl,?_,_,rfl,?_⟩
    ·refine Aw (Dm _ _) ?_;decide +kernel
    rw[q8y wp.ne];refine iteF ?_;have hUl:=b2.len;have hUne:Us≠[]:=fun z=>by rw[z] at hUl;rw[hqs] at hUl;simp at hUl
    have hUs:=(Bq hUne).symm;have hlast:Us[ps.length-1]?=some (Us.getLast hUne):=by rw[<- hUl];simp[Lc]
    obtain⟨q',hq1,hq2⟩:=b2.get hlast;have eq':q'=q:=by rw[hqs] at hq1;simp at hq1;exact hq1.symm
    subst eq';have hix:atI (Us.map V.ref) (-1)=some (.ref (Us.getLast hUne)):=by
     have:=q5v Us.dropLast (Us.getLast hUne)
     rwa [<- hUs] at this
    refine⟨_,rfl,_,rfl,.inl ⟨L,_,-1,_,rfl,rfl,SqL.of b1,hix,by show 1<=sizeLine;decide,fun T3 hT3=>?_⟩⟩;have sm3:Same (upd H3 E0 (.lst [])) (upd (upd H3 E0 (.lst [])) T3 (.tup [.str (Ab "into")])):=(Same.refl _).new hT3;refine .inr ⟨_,_,.tup (SqT.of (sm3 _ _ hq2)) (Pc.dts _),.tup (SqT.of q0d) (.cons (.str _) .nil),Pc.lay (wp.ok _ (by rw[hqs];simp)),by decide +kernel,?_,_,rfl,?_,smE.trans sm3⟩
    ·refine Aw (Dm _ _) ?_;decide +kernel
    ·exact q8x hqn
  ·intro σ H Q Q' hq hw;obtain⟨x,e1,y,e2,n',z,e3,e4,a',b',e5,e6,c',e7,hh⟩:=hw;exact⟨x,e1,y,e2,n',z,e3,e4,a',b',e5,e6,c',e7,hq _ _ hh⟩
theorem z3e{P:Program}{w:World}{K:Af}{dC:Addr}{ep:Nat}{t1 t2 t3 t4:Tok}(lC:K.lookup dC=some ⟨.type "dict",none,.dict #[⟨Jm w.params (Ab "u"),.str (Ab "u") t1,.str (Ab "great") t2⟩,⟨Jm w.params (Ab "l"),.str (Ab "l") t3,.str (Ab "small") t4⟩] ep,#[]⟩):KDict P w K dC casesKV:=by
 refine⟨_,[(Sum.inr (Ab "u"),.str (Ab "great") t2),(Sum.inr (Ab "l"),.str (Ab "small") t4)],lC,.cons ⟨rfl,t2,rfl⟩ (.cons ⟨rfl,t4,rfl⟩ .nil),fun h e=>?_⟩;have k1:(mixKind P w).is (Sum.inr (Ab "u")) (.str (Ab "u") t1)=true:=q6b (Ab "u") t1;have k2:(mixKind P w).is (Sum.inr (Ab "l")) (.str (Ab "l") t3)=true:=q6b (Ab "l") t3;refine⟨_,_,ep,e,⟨rfl,rfl,rfl⟩,rfl,fun en hen=>?_,.cons k1 rfl (.cons k2 rfl .nil),?_⟩
 ·simp only[List.mem_toArray,Bd,Br,or_false] at hen;rcases hen with rfl|rfl
  ·exact⟨_,k1,rfl⟩
  ·exact⟨_,k2,rfl⟩
 ·exact(by decide +kernel:([Sum.inr (Ab "u"),Sum.inr (Ab "l")]:List Key).Nodup)
abbrev vG(gs:List Nat):List V:=gs.map fun c=>V.str (mk [c])
def gapNo:Pc->Option Nat
 |.gap k=>some k
 |.great k=>some k
 |.small k=>some k
 |.nou k _=>some k
 |.more k _=>some k
 |_=>none
def isMo:Pc->Bool
 |.more _ _=>true
 |_=>false
def pcWd:Pc->Str
 |.tx _=>Ab "text"
 |.gap _=>Ab "gap"
 |.great _=>Ab "great"
 |.small _=>Ab "small"
 |.nou _ _=>Ab "noughts"
 |.more _ _=>Ab "more"
 |.cnt _=>Ab "count"
 |.into=>Ab "into"
def pcI:Pc->Bool
 |.into=>true
 |_=>false
theorem pw0(p:Pc):atI p.vs 0=some (.str (pcWd p)):=by cases p<;>rfl
theorem pwM(p:Pc):decide (V.str (pcWd p)=V.str (Ab "more"))=isMo p:=by
 rw[L2.dec_str];cases p<;>(simp only[pcWd,isMo];decide +kernel)
theorem pwI(p:Pc):decide (V.str (pcWd p)=V.str (Ab "into"))=pcI p:=by
 rw[L2.dec_str];cases p<;>(simp only[pcWd,pcI];decide +kernel)
theorem q5y{p:Pc}{k:Nat}(h:gapNo p=some k):atI p.vs 1=some (.int (k:Int)):=by cases p<;>cases h<;>rfl
abbrev ofGap:List V:=[.str (Ab "gap"),.str (Ab "great"),.str (Ab "small"),.str (Ab "noughts"),.str (Ab "more")]
abbrev kinds3:List V:=[.str (Ab "slip"),.str (Ab "drawer"),.str (Ab "all")]
theorem inGap(p:Pc):inV (.str (pcWd p)) ofGap=(gapNo p).isSome:=by cases p<;>(simp only[pcWd,gapNo,Option.isSome];decide +kernel)
structure AskOk (kd:Str) (gs:List Nat) (p:Pc):Prop where
 gp:∀k,gapNo p=some k->1<=k/\k<=gs.length
 mo:∀k m,p=.more k m->gs[k-1]?=some 35
 io:p=.into->kd=Ab "slip"
def spAskGap:Sp:=fun vs H Q _=>∃T G p k gs kd,vs=[.ref T,.ref G]/\H T=some (.tup p.vs)/\gapNo p=some k/\H G=some (.lst (vG gs))/\gs.length<=3000/\AskOk kd gs p/\Q .non H
theorem x1c{gs:List Nat}{k c:Nat}(hk:1<=k)(h:gs[k-1]?=some c):atI (vG gs) ((k:Int)-1)=some (.str (mk [c])):=by
 have e:((k:Int)-1)=((k-1:Nat):Int):=by lia
 rw[e];refine q1t ?_;rw[Cy,h];rfl
theorem lit35:decide (V.str (mk [35])=V.str (Ab "#"))=true:=by
 rw[lit1 35 35 "#" (by decide +kernel)];rfl
abbrev q3r:Stmt:=top 37
theorem sc_ask_gap:FnScope ["piece", "gap_signs", "sort", "gap"] ["piece", "gap_signs"] (defScope q3r):=by trivial
theorem z4b(D:Df K mg "ask_gap" q3r ["piece", "gap_signs"])(T:Txt mg):Cal P w K mg base "ask_gap" 1 ["piece", "gap_signs"] spAskGap:=by
 refine D.cal sc_ask_gap (fun vs H Q E h=>?_) (fun f cdv A outer s H vs Q E hr h=>?_)
 ·obtain⟨T1,G,p,k,gs,kd,rfl,_⟩:=h;rfl
 ·obtain⟨T1,G,p,n,gs,kd,rfl,hT,hg,hG,hgl,ao,k⟩:=h;refine⟨_,(q0c (q0k (i:=2) sc_ask_gap.nd rfl (by trivial) (q0x (ix_k K rfl) (pv 0) q0f (fun _ _=>rfl))) (q0c (q0k (i:=3) sc_ask_gap.nd rfl (by trivial) (q0x (ix_k K rfl) (pv 0) q0f (fun _ _=>rfl))) (q0c (q0v (q0h q3v (pv 3) (q0n (q1q K rfl) (by rfl) T.b_len Ax (q0a (pv 1) q0b)) (nomark _)) (q0e q2a) q0i) (q0e (q0v (pt_j (@PW.pt _ _ _ (q1p (q0h (eq_k K rfl hr) (pv 2) q0g (nomark _)) (q1l (q0h (ne_k K rfl hr) (q0x (ix_k K rfl) (pv 1) (q0p q3t (pv 3) q0f) (fun _ _=>rfl)) q0g (nomark _)))))) (q0e q2a) q0i))))),?_⟩;obtain⟨hn1,hn2⟩:=ao.gp n hg;refine⟨_,rfl,.inr (.inl ⟨T1,_,0,_,rfl,rfl,SqT.of hT,pw0 p,?_⟩)⟩;refine⟨_,rfl,.inr (.inl ⟨T1,_,1,_,rfl,rfl,SqT.of hT,q5y hg,?_⟩)⟩;refine⟨_,rfl,_,rfl,_,_,rfl,.inl ⟨_,SqL.of hG,rfl⟩,_,_,rfl,rfl,_,rfl,?_⟩;rw[Ai];refine ite2 (fun h=>absurd (of_decide_eq_true h) (by lia)) (fun _=>?_);refine⟨fun bb H'=>bb=false/\H'=H,?_,?_⟩
  ·rintro bb H' ⟨rfl,rfl⟩;exact iteF k
  refine⟨_,rfl,.inl ⟨rfl,_,rfl,?_⟩⟩;rw[pwM];refine iteB (fun h=>?_) (fun h=>⟨rfl,rfl⟩);obtain⟨kk,m,rfl⟩:∃kk m,p=.more kk m:=by cases p<;>first|exact⟨_,_,rfl⟩|cases h
  cases hg;refine⟨_,rfl,_,rfl,_,_,rfl,rfl,.inl ⟨G,_,_,_,rfl,rfl,SqL.of hG,x1c hn1 (ao.mo _ _ rfl),.inl ⟨rfl,_,rfl,?_,rfl⟩⟩⟩;rw[lit35];rfl
structure CallsR (P:Program) (w:World) (K:Af) (mg:Str->Option Value) (base:Heap):Prop where
 ask_gap:Cal P w K mg base "ask_gap" 1 ["piece", "gap_signs"] spAskGap
 of_a_gap:∃d,mg "OF_A_GAP" = some (.ref d)/\∀H,SqT K H d ofGap
def spAskPiece:Sp:=fun vs H Q _=>∃T G p gs kd,vs=[.ref T,.str kd,.ref G]/\H T=some (.tup p.vs)/\H G=some (.lst (vG gs))/\gs.length<=3000/\AskOk kd gs p/\Q .non H
abbrev q2r:Stmt:=top 38
theorem sc_ask_piece:FnScope ["piece", "kind", "gap_signs", "sort"] ["piece", "kind", "gap_signs"] (defScope q2r):=by trivial
theorem z0s(D:Df K mg "ask_piece" q2r ["piece", "kind", "gap_signs"])(T:Txt mg)(C:CallsR P w K mg base):Cal P w K mg base "ask_piece" 2 ["piece", "kind", "gap_signs"] spAskPiece:=by
 refine D.cal sc_ask_piece (fun vs H Q E h=>?_) (fun f cdv A outer s H vs Q E hr h=>?_)
 ·obtain⟨T1,G,p,gs,kd,rfl,_⟩:=h;rfl
 ·obtain⟨T1,G,p,gs,kd,rfl,hT,hG,hgl,ao,k⟩:=h;obtain⟨d_OF_A_GAP,g_OF_A_GAP,hd⟩:=C.of_a_gap;refine⟨_,(q0c (q0k (i:=3) sc_ask_piece.nd rfl (by trivial) (q0x (ix_k K rfl) (pv 0) q0f (fun _ _=>rfl))) (q1g (q0v (q0h (in_k K rfl) (pv 3) (q0t (v:=.ref d_OF_A_GAP) (by rfl) g_OF_A_GAP rfl) (by with_unfolding_all rfl)) (q0e (q0y (pe_c C.ask_gap hr (q0a (pv 0) (q0a (pv 2) q0b))))) q0i) (q0e (q0v (pt_j (@PW.pt _ _ _ (q1p (q0h (eq_k K rfl hr) (pv 3) q0g (nomark _)) (q1l (q0h (ne_k K rfl hr) (pv 1) q0g (nomark _)))))) (q0e q2a) q0i)))),?_⟩;refine⟨_,rfl,.inr (.inl ⟨T1,_,0,_,rfl,rfl,SqT.of hT,pw0 p,?_⟩)⟩;refine⟨fun σ' H'=>σ'=[some (.ref T1),some (.str kd),some (.ref G),some (.str (pcWd p))]/\H'=H,?_,?_⟩;rotate_left
  ·refine⟨_,rfl,.inr ⟨d_OF_A_GAP,_,rfl,.inr (hd H),rfl,by decide +kernel,_,rfl,?_⟩⟩;show if inV (.str (pcWd p)) ofGap=true then _ else _
   rw[inGap];refine ite2 (fun h=>?_) (fun h=>⟨rfl,rfl⟩);obtain⟨n,hn⟩:=Ei.mp h;exact⟨_,rfl,_,rfl,T1,G,p,n,gs,kd,rfl,hT,hn,hG,hgl,ao,rfl,rfl⟩
  rintro σ' H' ⟨rfl,rfl⟩;refine⟨fun bb H2=>bb=false/\H2=H',?_,?_⟩
  ·rintro bb H2 ⟨rfl,rfl⟩;exact iteF k
  refine⟨_,rfl,.inl ⟨rfl,_,rfl,?_⟩⟩;rw[pwI];refine iteB (fun h=>?_) (fun h=>⟨rfl,rfl⟩);have hi:p=.into:=by cases p<;>first|rfl|cases h
  refine⟨_,rfl,.inl ⟨rfl,_,rfl,?_,rfl⟩⟩;rw[ao.io hi,decide_eq_true rfl];rfl
structure RuleAt (K:Af) (H:Hp) (R:Addr) (kd:Str) (l:List Nat) (qs:List Pc) (st:Int):Prop where
 at_:H R=some (.tup [.str kd,.str (mk l),.str (mk (flatP qs)),.int st])
 kok:inV (.str kd) kinds3=true
 good:Good l
 wp:WP qs
 st0:0<=st
 st1:st<=1000000000
 ask:∀q∈qs,AskOk kd (gsOf (parse [] l)) q
theorem RuleAt.same{K:Af}{H H':Hp}{R:Addr}{kd:Str}{l:List Nat}{qs:List Pc}{st:Int}(h:RuleAt K H R kd l qs st)(s:Same H H'):RuleAt K H' R kd l qs st:=⟨s _ _ h.at_,h.kok,h.good,h.wp,h.st0,h.st1,h.ask⟩
structure CallsS (P:Program) (w:World) (K:Af) (mg:Str->Option Value) (base:Heap):Prop where
 parts_of:Cal P w K mg base "parts_of" 2 ["pattern"] spPartsOf
 pieces_of:Cal P w K mg base "pieces_of" 6 ["template"] spPieces
 ask_piece:Cal P w K mg base "ask_piece" 2 ["piece", "kind", "gap_signs"] spAskPiece
 kinds:∃d,mg "KINDS" = some (.ref d)/\∀H,SqT K H d kinds3
def spAskRule(K:Af):Sp:=fun vs H Q _=>∃R kd l qs st,vs=[.ref R]/\RuleAt K H R kd l qs st/\∀H',Same H H'->Q (.bl true) H'
theorem q2t{ps:List Pt}{i:Nat}{p:Pt}(h:ps[i]?=some p):gsOf (ps.take (i+1))=gsOf (ps.take i)++gsOf [p]:=by
 have e:ps.take (i+1)=ps.take i++[p]:=by rw[Mb,h];rfl
 rw[e];generalize ps.take i=qs;induction qs with
 |nil=>rfl
 |cons q r ih=>cases q with
  |tx t=>exact ih
  |gp c=>show c::gsOf (r++[p])=c::(gsOf r++gsOf [p]);rw[ih]
theorem q3s(ps:List Pt):(gsOf ps).length<=ps.length:=by
 induction ps with
 |nil=>exact Ah _
 |cons q r ih=>cases q with
  |tx t=>show(gsOf r).length<=r.length+1;lia
  |gp c=>show(gsOf r).length+1<=r.length+1;lia
abbrev q3b:Stmt:=top 39
theorem sc_ask_rule:FnScope ["rule", "kind", "pattern", "template", "start", "parts", "pieces", "gap_signs", "piece"] ["rule"] (defScope q3b):=by trivial
theorem z1w(D:Df K mg "ask_rule" q3b ["rule"])(T:Txt mg)(C:CallsS P w K mg base):Cal P w K mg base "ask_rule" 7 ["rule"] (spAskRule K):=by
 refine D.cal sc_ask_rule (fun vs H Q E h=>?_) (fun f cdv A outer s H vs Q E hr h=>?_)
 ·obtain⟨R,kd,l,qs,st,rfl,_⟩:=h;rfl
 ·obtain⟨R,kd,l,qs,st,rfl,ru,k⟩:=h;obtain⟨d_KINDS,g_KINDS,hd⟩:=C.kinds;obtain⟨_,g_MOST_START⟩:=T.MOST_START;refine⟨_,(q0c (q4e (pv 0) (@q2f _ _ _ _ (4) _ K rfl rfl (q0u (q0s (i:=1) sc_ask_rule.nd rfl (by trivial)) (q0u (q0s (i:=2) sc_ask_rule.nd rfl (by trivial)) (q0u (q0s (i:=3) sc_ask_rule.nd rfl (by trivial)) (q0u (q0s (i:=4) sc_ask_rule.nd rfl (by trivial)) q1o)))) (by rfl) (by rfl))) (q0c (q0k (i:=5) sc_ask_rule.nd rfl (by trivial) (pe_c C.parts_of hr (q0a (pv 2) q0b))) (q0c (q0k (i:=6) sc_ask_rule.nd rfl (by trivial) (pe_c C.pieces_of hr (q0a (pv 3) q0b))) (q0c (q0v (q0h (z1h K rfl) (pv 1) (q0t (v:=.ref d_KINDS) (by rfl) g_KINDS rfl) (by with_unfolding_all rfl)) (q0e q2a) q0i) (q0c (q8g (i:=7) ["sort", "what"] [] sc_ask_rule.nd rfl (by trivial) rfl (@q6n _ _ _ _ K rfl (pv 5)) (fun _ _ _ _ _=>(@q2f _ _ _ _ (2) _ K rfl rfl (q0u (q0s (i:=0) (show(["sort", "what"]:List Str).Nodup by decide +kernel) rfl (by trivial)) (q0u (q0s (i:=1) (show(["sort", "what"]:List Str).Nodup by decide +kernel) rfl (by trivial)) q1o)) (by rfl) (by rfl))) (fun _ _ _ _ _=>(q8e (q0h (eq_k K rfl hr) (pv 0) q0g (nomark _)))) (fun _ _ _ _ _=>(pv 1))) (q0c (q1y Ca rfl (@q6n _ _ _ _ K rfl (pv 6)) (q0s (i:=8) sc_ask_rule.nd rfl (by trivial)) (q0e (q0y (pe_c C.ask_piece hr (q0a (pv 8) (q0a (pv 1) (q0a (pv 7) q0b))))))) (q0c (q0v (pt_j (@PW.pt _ _ _ (q4d (q0h q6c (pv 4) q0f (nomark _)) (q3e (q0h q3v (pv 4) (q0t (v:=.int 1000000000) (by rfl) g_MOST_START ⟨_,rfl⟩) (nomark _)))))) (q0e q2a) q0i) (q0e (q0m q2s))))))))),?_⟩;refine⟨_,rfl,R,_,rfl,SqT.of ru.at_,rfl,_,_,rfl,_,_,rfl,_,_,rfl,_,_,rfl,rfl,?_⟩;refine⟨_,rfl,l,rfl,ru.good,fun L H1 hL sm1 hl1=>?_⟩;refine⟨_,rfl,qs,rfl,ru.wp,fun M H2 hM sm2 hp2=>?_⟩;refine⟨_,rfl,.inr ⟨d_KINDS,_,rfl,.inr (hd H2),rfl,by decide +kernel,_,rfl,?_⟩⟩;show if (!inV (.str kd) kinds3)=true then _ else _
  rw[ru.kok];refine iteF ?_;obtain⟨Ts,t1,t2⟩:=(hl1.same sm2).ex;have hTl:=t2.len;have hpl:=q6p l [];have hgl:=ru.good.len;refine⟨_,rfl,.inl ⟨L,rfl,⟨_,SqL.of t1⟩,fun D hD=>?_⟩⟩;refine q4k (xs:=Ts.map V.ref) (fun i ys H'=>ys=vG (gsOf ((parse [] l).take i))/\Same H2 H'/\H' D=some (.lst ys)/\i<=(parse [] l).length) ⟨rfl,(Same.refl H2).new hD,q0d,Bg _⟩ (fun i ys H' ⟨_,sm,hHD,_⟩=>⟨hHD,SqL.of (sm _ _ t1)⟩) ?_ ?_
  ·rintro i ys H' x hx ⟨rfl,sm,hHD,hi⟩;obtain⟨T1,p,rfl,hp1,ht⟩:=t2.get hx;have hi':=(Ak.mp hp1).1;refine⟨T1,_,rfl,SqT.of (sm _ _ ht),rfl,_,_,rfl,_,_,rfl,rfl,q3p,?_⟩;refine⟨_,rfl,.inl ⟨rfl,_,rfl,?_⟩⟩;rw[wgg];have hg:=q3s ((parse [] l).take i);rw[Bk] at hg;cases p with
   |tx t =>
    refine iteF ⟨?_,sm,hHD,hi'⟩;rw[q2t hp1];show vG _=vG (_++[]);rw[Dd]
   |gp c =>
    refine iteT ⟨_,rfl,hHD,TX.small' (by rw[Ai];lia),?_,sm.put hD,q0d,hi'⟩;rw[q2t hp1];show _=(gsOf _++[c]).map _;rw[Bi];rfl
  rintro ys H3 ⟨rfl,sm3,hHD,_⟩;rw[Ai,hTl,Ep] at hHD;have hp3:=hp2.same sm3;obtain⟨Us,u1,u2⟩:=hp3.ex;have hgp:=q3s (parse [] l);refine⟨_,rfl,.inl ⟨M,rfl,⟨_,SqL.of u1⟩,?_⟩⟩;refine q3o (xs:=Us.map V.ref) (fun i σ' H'=>∃x8,σ'=[some (.ref R),some (.str kd),some (.str (mk l)),some (.str (mk (flatP qs))),some (.int st),some (.ref L),some (.ref M),some (.ref D),x8]/\H'=H3) ⟨none,rfl,rfl⟩ (fun i σ' H' _ ⟨_,_,e⟩=>by subst e;exact SqL.of u1) ?_ ?_
  ·rintro i x σ' H' hx ⟨x8,rfl,rfl⟩;obtain⟨T1,hT1,rfl⟩:∃T,Us[i]?=some T/\x=.ref T:=by
    rw[Cy] at hx;cases hz:Us[i]? with
    |none=>rw[hz] at hx;cases hx
    |some T=>rw[hz] at hx;cases hx;exact⟨T,rfl,rfl⟩
   obtain⟨p,hp1,ht⟩:=u2.get hT1;refine⟨_,rfl,_,rfl,_,rfl,T1,D,p,gsOf (parse [] l),kd,rfl,ht,hHD,by lia,ru.ask p (Am hp1),⟨_,rfl,rfl⟩⟩
  ·rintro σ' H' ⟨x8,rfl,rfl⟩;refine⟨fun bb H4=>bb=false/\H4=H',?_,?_⟩
   ·rintro bb H4 ⟨rfl,rfl⟩;exact iteF (k _ ((sm1.trans sm2).trans sm3))
   have h0:=ru.st0;have h1:=ru.st1;refine⟨_,rfl,_,_,rfl,rfl,_,rfl,?_⟩;refine iteB (fun h=>absurd (of_decide_eq_true h) (by lia)) (fun _=>?_);refine⟨_,rfl,_,_,rfl,rfl,_,rfl,?_,rfl⟩;exact decide_eq_false (by lia)
theorem z8f(a b:List Nat):mk a++mk b=mk (a++b):=by apply ext;rw[q1d,q0z,q0z,q0z]
abbrev up1:=PyProof.Rows.up1
abbrev lo1:=PyProof.Rows.lo1
def gapG:Pc->List Nat->List Nat
 |.great _,t=>t.map up1
 |.small _,t=>t.map lo1
 |.nou _ w,t=>wn w t
 |.more _ m,t=>wn t.length (dg (Dk t+m))
 |_,t=>t
def pcText(ts:List (List Nat))(cn:Nat):Pc->List Nat
 |.tx t=>t
 |.gap k=>ts.getD (k-1) []
 |.great k=>(ts.getD (k-1) []).map up1
 |.small k=>(ts.getD (k-1) []).map lo1
 |.nou k w=>wn w (ts.getD (k-1) [])
 |.more k m=>wn (ts.getD (k-1) []).length (dg (Dk (ts.getD (k-1) [])+m))
 |.cnt w=>wn w (dg cn)
 |.into=>[]
structure GTx (ts:List (List Nat)) (p:Pc):Prop where
 gp:∀k,gapNo p=some k->1<=k/\k<=ts.length
 tx:∀t∈ts,t.length<=12/\∀c∈t,c<128
 mo:∀k m,p=.more k m->ts.getD (k-1) []≠[]/\∀c∈ts.getD (k-1) [],c∈FI
theorem z9j:∀c∈FI,48<=c/\c<=57:=by decide +kernel
theorem z6k:∀(t:List Nat) (a:Nat),(∀c∈t,c∈FI)->t.foldl (fun acc c=>acc*10+(c-48)) a<(a+1)*10^t.length
 |[],a,_=>by simp
 |c::r,a,h=>by
  have h1:=z9j c (h c Bo);have h2:=z6k r (a*10+(c-48)) fun x hx=>h x (Av _ hx);rw[Li,Be,Nt];have h3:(a*10+(c-48)+1)*10^r.length<=((a+1)*10)*10^r.length:=Mu _ (by lia);have h4:((a+1)*10)*10^r.length=(a+1)*(10^r.length*10):=by rw[Nat.mul_assoc,Nat.mul_comm 10]
  lia
theorem dv_lt(t:List Nat)(h:∀c∈t,c∈FI):Dk t<10^t.length:=by
 have:=z6k t 0 h;simpa[Dk] using this
def spWN:Sp:=fun vs H Q _=>∃(t:List Nat) (w:Nat),vs=[.str (mk t),.int (w:Int)]/\w<=1000/\Q (.str (mk (wn w t))) H
abbrev q2j:Stmt:=top 47
theorem q6v:FnScope ["text", "width"] ["text", "width"] (defScope q2j):=by trivial
theorem q6w(D:Df K mg "with_noughts" q2j ["text", "width"])(T:Txt mg):Cal P w K mg base "with_noughts" 1 ["text", "width"] spWN:=by
 refine D.cal q6v (fun vs H Q E h=>?_) (fun f cdv A outer s H vs Q E hr h=>?_)
 ·obtain⟨t,n,rfl,_⟩:=h;rfl
 ·obtain⟨t,n,rfl,hn,k⟩:=h;refine⟨_,(q0e (q0m (@bm_k _ _ _ _ _ _ _ _ _ _ _ _ K rfl Eu PySem.F.slot_str_rjust PySem.F.type_str_rjust z8a (pv 0) (q0a (pv 1) (q0a q0g q0b)) (by rfl) (by rfl) (by rfl) (by rfl) (by rfl)))),?_⟩;refine⟨_,rfl,rfl,_,rfl,_,_,_,rfl,rfl,PyProof.Rows.padOk_of (by lia) (by lia),by decide +kernel,?_⟩;have e:(Ab "0").cps.getD 0 0=48:=by decide +kernel
  rw[e,rj];exact k
theorem wne{x y:String}(h:(Ab x==Ab y)=false):decide (V.str (Ab x)=V.str (Ab y))=false:=by rw[L2.dec_str];exact h
theorem upper14{n:List Nat}(h:∀c∈n,c<128):PySem.Txt.upper (mk n)=mk (n.map up1):=by
 rw[PyProof.Rows.upper_ascii (by show ∀c∈tl (mk n),c<128;rw[q0z];exact h)];apply ext;rw[q0z];show(((mk n).cps.map up1).toList)=_;rw[Oz];all_goals (show(tl (mk n)).map up1=_;rw[q0z])
theorem lower14{n:List Nat}(h:∀c∈n,c<128):PySem.Txt.lower (mk n)=mk (n.map lo1):=by
 rw[PyProof.Rows.lower_ascii (by show ∀c∈tl (mk n),c<128;rw[q0z];exact h)];apply ext;rw[q0z];show(((mk n).cps.map lo1).toList)=_;rw[Oz];all_goals (show(tl (mk n)).map lo1=_;rw[q0z])
theorem z8g{t:List Nat}(h0:t≠[])(h:∀c∈t,c∈FI)(hl:t.length<=12):Ho (mk t)=some ((Dk t:Nat):Int):=by
 have e:(mk t).cps.toList=t:=q0z t;have:=PySem.intText_digits (x:=mk t) (by rw[e];exact fun d hd=>z9j d (h d hd)) (by rw[e];exact h0) (by rw[q0r];lia);rw[e] at this;exact this
structure CallsWN (P:Program) (w:World) (K:Af) (mg:Str->Option Value) (base:Heap):Prop where
 with_noughts:Cal P w K mg base "with_noughts" 1 ["text", "width"] spWN
def spGapText:Sp:=fun vs H Q _=>∃T p t,vs=[.ref T,.str (mk t)]/\H T=some (.tup p.vs)/\p.ok/\gapNo p≠none/\t.length<=12/\(∀c∈t,c<128)/\(∀k m,p=.more k m->t≠[]/\∀c∈t,c∈FI)/\Q (.str (mk (gapG p t))) H
abbrev q4b:Stmt:=top 48
theorem sc_gap_text:FnScope ["piece", "text", "sort"] ["piece", "text"] (defScope q4b):=by trivial
theorem z1x(D:Df K mg "gap_text" q4b ["piece", "text"])(T:Txt mg)(C:CallsWN P w K mg base):Cal P w K mg base "gap_text" 2 ["piece", "text"] spGapText:=by
 refine D.cal sc_gap_text (fun vs H Q E h=>?_) (fun f cdv A outer s H vs Q E hr h=>?_)
 ·obtain⟨T1,p,t,rfl,_⟩:=h;rfl
 ·obtain⟨T1,p,t,rfl,hT,ok,hg,hl,hc,hm,k⟩:=h;refine⟨_,(q0c (q0k (i:=2) sc_gap_text.nd rfl (by trivial) (q0x (ix_k K rfl) (pv 0) q0f (fun _ _=>rfl))) (q0c (q0v (q0h (eq_k K rfl hr) (pv 2) q0g (nomark _)) (q0e (q0m (@z5l _ _ _ _ _ _ _ _ _ K rfl Eu PySem.F.slot_str_upper PySem.F.type_str_upper z7i (pv 1) (by rfl) (by rfl)))) q0i) (q0c (q0v (q0h (eq_k K rfl hr) (pv 2) q0g (nomark _)) (q0e (q0m (@z5l _ _ _ _ _ _ _ _ _ K rfl Eu PySem.F.slot_str_lower PySem.F.type_str_lower z7h (pv 1) (by rfl) (by rfl)))) q0i) (q0c (q0v (q0h (eq_k K rfl hr) (pv 2) q0g (nomark _)) (q0e (q0m (pe_c C.with_noughts hr (q0a (pv 1) (q0a (q0x (ix_k K rfl) (pv 0) q0f (fun _ _=>rfl)) q0b))))) q0i) (q0c (q0v (q0h (eq_k K rfl hr) (pv 2) q0g (nomark _)) (q0e (q0m (pe_c C.with_noughts hr (q0a (q1a q2b (by rfl) T.b_str (by decide +kernel) (q0a (q0p q0j (q1a q1r (by rfl) T.b_int (by decide +kernel) (q0a (pv 1) q0b)) (q0x (ix_k K rfl) (pv 0) q0f (fun _ _=>rfl))) q0b)) (q0a (q0n (q1q K rfl) (by rfl) T.b_len Ax (q0a (pv 1) q0b)) q0b))))) q0i) (q0e (q0m (pv 1)))))))),?_⟩;have hs:(mk t).length<=sizeLine:=TX.small (by rw[q0r];lia);cases p with
  |tx l=>exact absurd rfl hg
  |cnt v=>exact absurd rfl hg
  |into=>exact absurd rfl hg
  |gap n =>
   refine⟨_,rfl,.inr (.inl ⟨T1,_,0,.str (Ab "gap"),rfl,rfl,SqT.of hT,rfl,?_⟩)⟩;refine⟨_,rfl,.inl ⟨rfl,_,rfl,?_⟩⟩;rw[wne (x := "gap") (y := "great") (by decide +kernel)];refine iteF ⟨_,rfl,.inl ⟨rfl,_,rfl,?_⟩⟩;rw[wne (x := "gap") (y := "small") (by decide +kernel)];refine iteF ⟨_,rfl,.inl ⟨rfl,_,rfl,?_⟩⟩;rw[wne (x := "gap") (y := "noughts") (by decide +kernel)];refine iteF ⟨_,rfl,.inl ⟨rfl,_,rfl,?_⟩⟩;rw[wne (x := "gap") (y := "more") (by decide +kernel)];exact iteF ⟨_,rfl,k⟩
  |great n =>
   refine⟨_,rfl,.inr (.inl ⟨T1,_,0,.str (Ab "great"),rfl,rfl,SqT.of hT,rfl,?_⟩)⟩;refine⟨_,rfl,.inl ⟨rfl,_,rfl,?_⟩⟩;rw[decide_eq_true rfl];refine iteT ⟨_,rfl,rfl,_,rfl,rfl,TX.small (by rw[q0r];lia),?_⟩;rw[upper14 hc];exact k
  |small n =>
   refine⟨_,rfl,.inr (.inl ⟨T1,_,0,.str (Ab "small"),rfl,rfl,SqT.of hT,rfl,?_⟩)⟩;refine⟨_,rfl,.inl ⟨rfl,_,rfl,?_⟩⟩;rw[wne (x := "small") (y := "great") (by decide +kernel)];refine iteF ⟨_,rfl,.inl ⟨rfl,_,rfl,?_⟩⟩;rw[decide_eq_true rfl];refine iteT ⟨_,rfl,rfl,_,rfl,rfl,TX.small (by rw[q0r];lia),?_⟩;rw[lower14 hc];exact k
  |nou n v =>
   have hv:v<=9:=ok.2.2;refine⟨_,rfl,.inr (.inl ⟨T1,_,0,.str (Ab "noughts"),rfl,rfl,SqT.of hT,rfl,?_⟩)⟩;refine⟨_,rfl,.inl ⟨rfl,_,rfl,?_⟩⟩;rw[wne (x := "noughts") (y := "great") (by decide +kernel)];refine iteF ⟨_,rfl,.inl ⟨rfl,_,rfl,?_⟩⟩;rw[wne (x := "noughts") (y := "small") (by decide +kernel)];refine iteF ⟨_,rfl,.inl ⟨rfl,_,rfl,?_⟩⟩;rw[decide_eq_true rfl];exact iteT ⟨_,rfl,_,rfl,.inr (.inl ⟨T1,_,2,.int (v:Int),rfl,rfl,SqT.of hT,rfl,t,v,rfl,by lia,k⟩)⟩
  |more n m =>
   have hm9:m<10^9:=ok.2;obtain⟨q1,q2⟩:=hm n m rfl;have hd:=dv_lt t q2;have hd2:10^t.length<=10^12:=Gu (by decide) hl;refine⟨_,rfl,.inr (.inl ⟨T1,_,0,.str (Ab "more"),rfl,rfl,SqT.of hT,rfl,?_⟩)⟩;refine⟨_,rfl,.inl ⟨rfl,_,rfl,?_⟩⟩;rw[wne (x := "more") (y := "great") (by decide +kernel)];refine iteF ⟨_,rfl,.inl ⟨rfl,_,rfl,?_⟩⟩;rw[wne (x := "more") (y := "small") (by decide +kernel)];refine iteF ⟨_,rfl,.inl ⟨rfl,_,rfl,?_⟩⟩;rw[wne (x := "more") (y := "noughts") (by decide +kernel)];refine iteF ⟨_,rfl,.inl ⟨rfl,_,rfl,?_⟩⟩;rw[decide_eq_true rfl];refine iteT ⟨_,rfl,.inr ⟨_,_,rfl,z8g q1 q2 hl,by rw[q0r];lia,?_⟩⟩;refine⟨_,rfl,.inr (.inl ⟨T1,_,2,.int (m:Int),rfl,rfl,SqT.of hT,rfl,.inl ⟨_,_,rfl,rfl,Dk t+m,rfl,by lia,?_⟩⟩)⟩;refine⟨_,rfl,_,_,rfl,⟨hs,rfl⟩,dg (Dk t+m),t.length,by rw[z3y,q0r];rfl,by lia,k⟩
structure CallsGT (P:Program) (w:World) (K:Af) (mg:Str->Option Value) (base:Heap):Prop where
 gap_text:Cal P w K mg base "gap_text" 2 ["piece", "text"] spGapText
 with_noughts:Cal P w K mg base "with_noughts" 1 ["text", "width"] spWN
def spPieceText:Sp:=fun vs H Q _=>∃T G p ts,∃cn:Nat,vs=[.ref T,.ref G,.int (cn:Int)]/\H T=some (.tup p.vs)/\p.ok/\pcI p=false/\H G=some (.lst (vN ts))/\GTx ts p/\cn<=10^12/\Q (.str (mk (pcText ts cn p))) H
theorem x1d{ts:List (List Nat)}{cn k:Nat}{p:Pc}(h:gapNo p=some k):pcText ts cn p=gapG p (ts.getD (k-1) []):=by
 cases p<;>first|(cases h;rfl)|cases h
theorem gap_vs{p:Pc}{k:Nat}(h:gapNo p=some k):∃(w:String) (r:List V),p.vs=.str (Ab w)::.int (k:Int)::r/\(Ab w==Ab "text")=false/\(Ab w==Ab "count")=false:=by
 cases p with
 |tx l=>cases h
 |cnt v=>cases h
 |into=>cases h
 |gap n=>cases h;exact⟨"gap",[],rfl,by decide +kernel,by decide +kernel⟩
 |great n=>cases h;exact⟨"great",[],rfl,by decide +kernel,by decide +kernel⟩
 |small n=>cases h;exact⟨"small",[],rfl,by decide +kernel,by decide +kernel⟩
 |nou n v=>cases h;exact⟨"noughts",_,rfl,by decide +kernel,by decide +kernel⟩
 |more n v=>cases h;exact⟨"more",_,rfl,by decide +kernel,by decide +kernel⟩
abbrev q3c:Stmt:=top 49
theorem sc_piece_text:FnScope ["piece", "gap_texts", "count", "sort"] ["piece", "gap_texts", "count"] (defScope q3c):=by trivial
theorem q8z(D:Df K mg "piece_text" q3c ["piece", "gap_texts", "count"])(T:Txt mg)(C:CallsGT P w K mg base):Cal P w K mg base "piece_text" 3 ["piece", "gap_texts", "count"] spPieceText:=by
 refine D.cal sc_piece_text (fun vs H Q E h=>?_) (fun f cdv A outer s H vs Q E hr h=>?_)
 ·obtain⟨T1,G,p,ts,cn,rfl,_⟩:=h;rfl
 ·obtain⟨T1,G,p,ts,cn,rfl,hT,ok,hpi,hG,gt,hcn,k⟩:=h;refine⟨_,(q0c (q0k (i:=3) sc_piece_text.nd rfl (by trivial) (q0x (ix_k K rfl) (pv 0) q0f (fun _ _=>rfl))) (q0c (q0v (q0h (eq_k K rfl hr) (pv 3) q0g (nomark _)) (q0e (q0m (q0x (ix_k K rfl) (pv 0) q0f (fun _ _=>rfl)))) q0i) (q0c (q0v (q0h (eq_k K rfl hr) (pv 3) q0g (nomark _)) (q0e (q0m (pe_c C.with_noughts hr (q0a (q1a q2b (by rfl) T.b_str (by decide +kernel) (q0a (pv 2) q0b)) (q0a (q0x (ix_k K rfl) (pv 0) q0f (fun _ _=>rfl)) q0b))))) q0i) (q0e (q0m (pe_c C.gap_text hr (q0a (pv 0) (q0a (q0x (ix_k K rfl) (pv 1) (q0p q3t (q0x (ix_k K rfl) (pv 0) q0f (fun _ _=>rfl)) q0f) (fun _ _=>rfl)) q0b)))))))),?_⟩;cases hgn:gapNo p with
  |none =>
   cases p with
   |gap n=>cases hgn
   |great n=>cases hgn
   |small n=>cases hgn
   |nou n v=>cases hgn
   |more n v=>cases hgn
   |into=>cases hpi
   |tx t =>
    refine⟨_,rfl,.inr (.inl ⟨T1,_,0,.str (Ab "text"),rfl,rfl,SqT.of hT,rfl,?_⟩)⟩;refine⟨_,rfl,.inl ⟨rfl,_,rfl,?_⟩⟩;rw[decide_eq_true rfl];exact iteT ⟨_,rfl,.inr (.inl ⟨T1,_,1,_,rfl,rfl,SqT.of hT,rfl,k⟩)⟩
   |cnt v =>
    have hv:v<=9:=ok.2;refine⟨_,rfl,.inr (.inl ⟨T1,_,0,.str (Ab "count"),rfl,rfl,SqT.of hT,rfl,?_⟩)⟩;refine⟨_,rfl,.inl ⟨rfl,_,rfl,?_⟩⟩;rw[wne (x := "count") (y := "text") (by decide +kernel)];refine iteF ⟨_,rfl,.inl ⟨rfl,_,rfl,?_⟩⟩;rw[decide_eq_true rfl];exact iteT ⟨_,rfl,cn,rfl,by lia,_,rfl,.inr (.inl ⟨T1,_,1,.int (v:Int),rfl,rfl,SqT.of hT,rfl,dg cn,v,by rw[z3y];rfl,by lia,k⟩)⟩
  |some n =>
   obtain⟨h1,h2⟩:=gt.gp n hgn;obtain⟨w0,r0,ev,n1,n2⟩:=gap_vs hgn;have hT':=hT;rw[ev] at hT';refine⟨_,rfl,.inr (.inl ⟨T1,_,0,.str (Ab w0),rfl,rfl,SqT.of hT',q1t (j:=0) rfl,?_⟩)⟩;refine⟨_,rfl,.inl ⟨rfl,_,rfl,?_⟩⟩;rw[wne n1];refine iteF ⟨_,rfl,.inl ⟨rfl,_,rfl,?_⟩⟩;rw[wne n2];have hlt:n-1<ts.length:=by lia
   have eg:ts.getD (n-1) []=ts[n-1]:=by rw[Ff,Ap hlt];rfl
   have hat:atI (vN ts) ((n:Int)-1)=some (.str (mk (ts.getD (n-1) []))):=by
    have e:((n:Int)-1)=((n-1:Nat):Int):=by lia
    rw[e];refine q1t ?_;rw[Cy,Ap (by lia)];simp[Ff,Ap (show n-1<ts.length by lia)]
   have htx:=gt.tx (ts.getD (n-1) []) (by rw[eg];exact List.getElem_mem hlt);refine iteF ⟨_,rfl,_,rfl,_,rfl,.inr (.inl ⟨T1,_,1,.int (n:Int),rfl,rfl,SqT.of hT',q1t (j:=1) rfl,_,_,rfl,rfl,.inl ⟨G,_,_,_,rfl,rfl,SqL.of hG,hat,T1,p,_,rfl,hT,ok,by rw[hgn];simp,htx.1,htx.2,fun k' m z=>?_,?_⟩⟩)⟩
   ·have e2:k'=n:=by rw[z] at hgn;exact Cf hgn
    have:=gt.mo k' m z;rw[e2] at this;exact this
   ·rw[<- x1d hgn];exact k
structure CallsTl (P:Program) (w:World) (K:Af) (mg:Str->Option Value) (base:Heap):Prop where
 ask_rule:Cal P w K mg base "ask_rule" 7 ["rule"] (spAskRule K)
 reading:Cal P w K mg base "reading" 6 ["pattern", "name"] spReading
 pieces_of:Cal P w K mg base "pieces_of" 6 ["template"] spPieces
 piece_text:Cal P w K mg base "piece_text" 3 ["piece", "gap_texts", "count"] spPieceText
def stepT(ts:List (List Nat))(cn:Nat)(acc:List (List Nat))(p:Pc):List (List Nat):=if pcI p then acc++[[]] else acc.dropLast++[acc.getLast?.getD []++pcText ts cn p]
def tellT(ts:List (List Nat))(cn:Nat)(qs:List Pc):List (List Nat):=qs.foldl (stepT ts cn) [[]]
theorem q2u(ts:List (List Nat))(cn:Nat)(qs:List Pc)(p:Pc):tellT ts cn (qs++[p])=stepT ts cn (tellT ts cn qs) p:=by simp[tellT]
theorem z4c(ts:List (List Nat))(cn:Nat)(acc:List (List Nat))(p:Pc):∃i l,stepT ts cn acc p=i++[l]:=by
 unfold stepT;split
 ·exact⟨_,_,rfl⟩
 ·exact⟨_,_,rfl⟩
theorem z4d(ts:List (List Nat))(cn:Nat)(qs:List Pc):∃i l,tellT ts cn qs=i++[l]:=by
 by_cases h:qs=[]
 ·subst h;exact⟨[],[],rfl⟩
 ·rw[<- Bq h,q2u];exact z4c _ _ _ _
theorem q7u(ts:List (List Nat))(cn:Nat)(i:List (List Nat)):stepT ts cn i .into=i++[[]]:=rfl
theorem q6x{ts:List (List Nat)}{cn:Nat}{i:List (List Nat)}{l:List Nat}{p:Pc}(h:pcI p=false):stepT ts cn (i++[l]) p=i++[l++pcText ts cn p]:=by
 unfold stepT;rw[if_neg (by rw[h];decide)];simp
theorem z6l(ts:List (List Nat))(cn:Nat)(acc:List (List Nat))(p:Pc):(stepT ts cn acc p).length<=acc.length+1:=by
 unfold stepT;split
 ·rw[Ae];exact Ah _
 ·rw[Ae,Iq];simp
theorem z0t(ts:List (List Nat))(cn:Nat):∀(qs:List Pc) (acc:List (List Nat)),(qs.foldl (stepT ts cn) acc).length<=acc.length+qs.length
 |[],acc=>Ah _
 |q::r,acc=>by
  have h1:=z0t ts cn r (stepT ts cn acc q);have h2:=z6l ts cn acc q;rw[Li,Be];lia
theorem z6m(ts:List (List Nat))(cn:Nat)(qs:List Pc):(tellT ts cn qs).length<=qs.length+1:=by
 have:=z0t ts cn qs [[]];unfold tellT;simp only[Aq] at this;lia
def spTells(K:Af):Sp:=fun vs H Q _=>∃R kd l qs st n,∃cn:Nat,vs=[.ref R,.str (mk n),.int (cn:Int)]/\RuleAt K H R kd l qs st/\n.length<=12/\(∀t∈rd n (parse [] l) 0,∀c∈t,c<128)/\cn<=10^12/\(fits n (parse [] l) 0=false->∀H',Same H H'->Q .non H') /\
 (fits n (parse [] l) 0=true->∀T H',H T=none->Same H H'->H' T=some (.tup (vN (tellT (rd n (parse [] l) 0) cn qs)))->Q (.ref T) H')
theorem x1e{n:List Nat}{b e c:Nat}(h:c∈cut n b e):c∈n:=List.mem_of_mem_drop (Jd h)
theorem z9k{n:List Nat}:∀(ps:List Pt) (b:Nat),∀t∈rd n ps b,∀c∈t,c∈n
 |[],_,_,h=>by cases h
 |p::ps,b,t,h=>by
  rcases Bh.mp h with z|z
  ·split at z
   ·rw[Au.mp z];exact fun c hc=>x1e hc
   ·cases z
  ·exact z9k ps _ t z
theorem wr_le{qs:List Pc}{q:Pc}(h:q∈qs):q.wr.length<=(flatP qs).length:=by
 induction qs with
 |nil=>cases h
 |cons p r ih =>
  rw[q1s,Ae];rcases Bd.mp h with rfl|h
  ·lia
  ·have:=ih h;lia
theorem z4e{p:Pc}(h:pcI p=false):p≠.into:=fun z=>by subst z;cases h
theorem z6n(w:Nat)(t:List Nat):(wn w t).length<=w+t.length:=by unfold wn;rw[Ae,Ly];lia
theorem x1f{ts:List (List Nat)}{cn:Nat}{p:Pc}(ho:p.ok)(hc:cn<=10^12)(h1:∀t∈ts,t.length<=12)(h2:p.wr.length<=100)(hg:gapNo p≠none->GTx ts p):(pcText ts cn p).length<=100:=by
 have hd:∀k,(ts.getD (k-1) []).length<=12:=by
  intro k;rw[Ff];cases hz:ts[k-1]? with
  |none=>simp
  |some t=>exact h1 t (Am hz)
 cases p with
 |tx t=>exact h2
 |gap k=>have:=hd k;show(ts.getD (k-1) []).length<=100;lia
 |great k=>have:=hd k;show((ts.getD (k-1) []).map _).length<=100;rw[Ai];lia
 |small k=>have:=hd k;show((ts.getD (k-1) []).map _).length<=100;rw[Ai];lia
 |nou k w =>
  have:=hd k;have h3:=z6n w (ts.getD (k-1) []);have:w<=9:=ho.2.2;show(wn w (ts.getD (k-1) [])).length<=100;lia
 |more k m =>
  have h0:=hd k;have h3:=z6n (ts.getD (k-1) []).length (dg (Dk (ts.getD (k-1) [])+m));have hm:m<10^9:=ho.2;obtain⟨q1,q2⟩:=(hg (by simp[gapNo])).mo k m rfl;have h4:=dv_lt (ts.getD (k-1) []) q2;have h5:10^(ts.getD (k-1) []).length<=10^12:=Gu (by decide) h0;have h6:=q4t 13 (Dk (ts.getD (k-1) [])+m) (by lia);show(wn _ _).length<=100;lia
 |cnt w =>
  have:w<=9:=ho.2;have h3:=z6n w (dg cn);have h6:=q4t 13 cn (by lia);show(wn w (dg cn)).length<=100;lia
 |into=>exact Bg _
theorem neg_at(i:List (List Nat))(l:List Nat):atI (vN (i++[l])) (-1)=some (.str (mk l)):=by
 have e:vN (i++[l])=vN i++[V.str (mk l)]:=by show(i++[l]).map _=_;rw[Bi];rfl
 rw[e];unfold atI ixN;rw[if_neg (by decide),if_pos (by rw[Ae,Aq];lia)];have h:((-1:Int)+((vN i++[V.str (mk l)]).length:Int)).toNat=(vN i).length:=by rw[Ae,Aq];lia
 show(vN i++[V.str (mk l)])[((-1:Int)+((vN i++[V.str (mk l)]).length:Int)).toNat]?=_;rw[h,Bl (Ah _),Du];rfl
theorem neg_ix(i:List (List Nat))(l:List Nat):ixN (vN (i++[l])).length (-1)=some i.length:=by
 unfold ixN;rw[if_neg (by decide),Ai,Ae,Aq,if_pos (by lia)];congr 1;lia
theorem z8h(i:List (List Nat))(l m:List Nat):(vN (i++[l])).set i.length (.str (mk m))=vN (i++[m]):=by
 show((i++[l]).map _).set _ _=(i++[m]).map _;rw[Bi,Bi,List.set_append_right _ _ (by rw[Ai];exact Ah _),Ai,Du];rfl
abbrev q5z:Stmt:=top 50
theorem sc_tells:FnScope ["rule", "name", "count", "gap_texts", "texts", "piece"] ["rule", "name", "count"] (defScope q5z):=by trivial
theorem z8i(D:Df K mg "tells" q5z ["rule", "name", "count"])(T:Txt mg)(C:CallsTl P w K mg base):Cal P w K mg base "tells" 8 ["rule", "name", "count"] (spTells K):=by
 refine D.cal sc_tells (fun vs H Q E h=>?_) (fun f cdv A outer s H vs Q E hr h=>?_)
 ·obtain⟨R,kd,l,qs,st,n,cn,rfl,_⟩:=h;rfl
 ·obtain⟨R,kd,l,qs,st,n,cn,rfl,ru,hnl,hnc,hcn,kN,kS⟩:=h;refine⟨_,(q0c (q0y (pe_c C.ask_rule hr (q0a (pv 0) q0b))) (q0c (q0k (i:=3) sc_tells.nd rfl (by trivial) (pe_c C.reading hr (q0a (q0x (ix_k K rfl) (pv 0) q0f (fun _ _=>rfl)) (q0a (pv 1) q0b)))) (q0c (q0v (q9m (z8r (pv 3))) (q0e (q0m z4n)) q0i) (q0c (q0k (i:=4) sc_tells.nd rfl (by trivial) (q1b (q0a q0g q0b))) (q0c (q1y Ca rfl (@q6n _ _ _ _ K rfl (pe_c C.pieces_of hr (q0a (q0x (ix_k K rfl) (pv 0) q0f (fun _ _=>rfl)) q0b))) (q0s (i:=5) sc_tells.nd rfl (by trivial)) (q0e (q0v (q0h (eq_k K rfl hr) (pv 5) (q0o (q0a q0g q0b)) (nomark _)) (q0e (q0y (@bm_k _ _ _ _ _ _ _ _ _ _ _ _ K rfl Bc Bv Bw q1j (pv 4) (q0a q0g q0b) (by rfl) (by rfl) (by rfl) (by rfl) (by rfl)))) (q0e (z4q (pv 4) (q7z q4g q0f) (get_k K rfl) (pe_c C.piece_text hr (q0a (pv 5) (q0a (pv 3) (q0a (pv 2) q0b)))) q6d q4h))))) (q0e (q0m (q1a (z5k K rfl) (by rfl) T.b_tuple (by decide +kernel) (q0a (pv 4) q0b))))))))),?_⟩;refine⟨_,rfl,R,kd,l,qs,st,rfl,ru,fun H1 sm1=>?_⟩;have ru1:=ru.same sm1;refine⟨_,rfl,.inr (.inl ⟨R,_,1,_,rfl,rfl,SqT.of ru1.at_,rfl,_,rfl,l,n,rfl,ru.good,by lia,fun hf H2 sm2=>?_,fun hfit G H2 hG sm2 hG2=>?_⟩)⟩
  ·exact⟨_,rfl,true,rfl,iteT (kN hf _ (sm1.trans sm2))⟩
  obtain⟨rc1,rc2,rc3,rc4⟩:=z9b n (parse [] l) 0 hfit;have k:=kS hfit;generalize hts:rd n (parse [] l) 0=ts at *;refine⟨_,rfl,false,rfl,iteF ?_⟩;refine⟨by show 1<=sizeLine;decide,fun L hL=>?_⟩;have e0:Ab "" = mk []:=by decide +kernel
  have s3:=(Same.refl H2).new (o:=.lst [.str (Ab "")]) hL;have ru3:=(ru1.same sm2).same s3;refine⟨_,rfl,.inr (.inl ⟨R,_,2,_,rfl,rfl,SqT.of ru3.at_,rfl,qs,rfl,ru.wp,fun M H4 hM sm4 hp4=>.inl ⟨M,rfl,hp4.sq,?_⟩⟩)⟩;obtain⟨Us,u1,u2⟩:=hp4.ex;have hUl:=u2.len;have hwl:=Aw (show qs.length<=(flatP qs).length from by
   have:∀qs:List Pc,(∀p∈qs,p.ok)->qs.length<=(flatP qs).length:=by
    intro qs;induction qs with
    |nil=>intro _;exact Ah _
    |cons q r ih =>
     intro hq;have h1:=ih fun p hp=>hq p (Av _ hp);have h2:=Cw.mpr (z6j (hq q Bo));rw[q1s,Ae,Be];lia
   exact this qs ru.wp.ok) ru.wp.sz
  have sA:=(sm1.trans sm2)
  have hLM:M≠L:=fun z=>by rw[z,q0d] at hM;cases hM
  have hLG:G≠L:=fun z=>by rw[z] at hG2;rw[hG2] at hL;cases hL
  have hG4:H4 G=some (.lst (vN ts)):=sm4 _ _ (s3 _ _ hG2);refine q3o (xs:=Us.map V.ref) (fun i σ' H'=>∃x5,σ'=[some (.ref R),some (.str (mk n)),some (.int (cn:Int)),some (.ref G),some (.ref L),x5]/\Same H2 H'/\H' L=some (.lst (vN (tellT ts cn (qs.take i))))/\(∀T xs,H4 T=some (.tup xs)->H' T=some (.tup xs))/\H' M=some (.lst (Us.map V.ref))/\H' G=some (.lst (vN ts))/\(∀t∈tellT ts cn (qs.take i),t.length<=100*i)/\i<=qs.length)
   ⟨none,rfl,s3.trans sm4,by rw[List.take_zero];show H4 L=some (.lst [.str (mk [])]);rw[<- e0];exact sm4 _ _ q0d,fun _ _ e=>e,u1,hG4,fun t ht=>(by rw[List.take_zero] at ht;rw[Au.mp ht];exact Bg _),Bg _⟩ (fun i σ' H' _ ⟨_,_,_,_,_,e,_⟩=>SqL.of e) ?_ ?_
  ·rintro i x σ' H' hx ⟨x5,rfl,sm5,hL5,kt,hM5,hG5,hlen,hi⟩;obtain⟨T1,hT1,rfl⟩:∃T,Us[i]?=some T/\x=.ref T:=by
    rw[Cy] at hx;cases hz:Us[i]? with
    |none=>rw[hz] at hx;cases hx
    |some T=>rw[hz] at hx;cases hx;exact⟨T,rfl,rfl⟩
   obtain⟨p,hp1,ht⟩:=u2.get hT1;have hpm:=Am hp1;have hi':=(Ak.mp hp1).1;have etk:qs.take (i+1)=qs.take i++[p]:=by rw[Mb,hp1];rfl
   have htl:=z6m ts cn (qs.take i);rw[Bk] at htl;refine⟨_,rfl,by show 1<=sizeLine;decide,fun E0 hE0=>?_⟩;have sE:=(Same.refl H').new (o:=.tup [.str (Ab "into")]) hE0;have keepL:∀(ys:List V) (T2:Addr) (xs:List V),H4 T2=some (.tup xs)->upd (upd H' E0 (.tup [.str (Ab "into")])) L (.lst ys) T2=some (.tup xs):=by
    intro ys T2 xs e;have:=sE _ _ (kt _ _ e);rw[q0l (fun z=>by rw[z,sE _ _ hL5] at this;cases this)];exact this
   refine .inr ⟨_,_,.tup (SqT.of (sE _ _ (kt _ _ ht))) (Pc.dts _),.tup (SqT.of q0d) (.cons (.str _) .nil),Pc.lay (ru.wp.ok _ hpm),by decide +kernel,?_,_,rfl,?_⟩
   ·refine Aw (Dm _ _) ?_;decide +kernel
   by_cases hpi:pcI p=true
   ·have hpe:p=.into:=by cases p<;>first|rfl|cases hpi
    subst hpe;rw[show Fl (.tuple (Pc.ds .into)) (.tuple [.str (Ab "into")])=true from by decide +kernel];refine iteT ?_;refine⟨_,rfl,.inl ⟨rfl,⟨_,SqL.of (sE _ _ hL5)⟩⟩,L,_,_,rfl,rfl,sE _ _ hL5,by rw[Ai];exact TX.small' (by lia),?_⟩;have eL:vN (tellT ts cn (qs.take i))++[V.str (Ab "")]=vN (tellT ts cn (qs.take (i+1))):=by
     rw[etk,q2u,q7u,e0];show _=(_++[[]]).map _;rw[Bi];rfl
    refine⟨_,rfl,(sm5.new hE0).put hL,by rw[q0d,eL],keepL _,by rw[q0l hLM];exact sE _ _ hM5,by rw[q0l hLG];exact sE _ _ hG5,fun t htm=>?_,hi'⟩;rw[etk,q2u,q7u] at htm;rcases Bh.mp htm with z|z
    ·have:=hlen t z;lia
    ·rw[Au.mp z];exact Bg _
   ·have hpi':pcI p=false:=by simpa using hpi
    rw[q8x (z4e hpi')];refine iteF ?_;have ao:=ru.ask p hpm;have gtx:GTx ts p:=⟨fun kk hkk=>⟨(ao.gp kk hkk).1,by rw[rc1];exact(ao.gp kk hkk).2⟩,fun t ht=>⟨Aw (rc4 t ht) hnl,hnc t ht⟩,fun kk m hz=>by
     have hg:=ao.mo kk m hz;obtain⟨o1,o2⟩:=ao.gp kk (by rw[hz];rfl);have hlt:kk-1<ts.length:=by rw[rc1];lia
     have e:ts.getD (kk-1) []=ts[kk-1]:=by rw[Ff,Ap hlt];rfl
     have:=rc2 (kk-1) 35 ts[kk-1] hg (Ap hlt);unfold gapTakes at this;rw[if_neg (by decide),if_pos rfl] at this;rw[e];exact allOf_iff.mp this⟩
    obtain⟨ini,la,hil⟩:=z4d ts cn (qs.take i);rw[hil] at hL5 hlen;refine⟨_,rfl,_,rfl,L,_,-1,_,rfl,rfl,SqL.of (sE _ _ hL5),neg_at ini la,?_⟩;refine⟨_,rfl,_,rfl,_,rfl,T1,G,p,ts,cn,rfl,sE _ _ (kt _ _ ht),ru.wp.ok _ hpm,hpi',sE _ _ hG5,gtx,hcn,?_⟩;have hpt:=x1f (cn:=cn) (ru.wp.ok _ hpm) hcn (fun t ht=>Aw (rc4 t ht) hnl) (Aw (wr_le hpm) ru.wp.sz) fun _=>gtx
    have hla:=hlen la (by simp);refine⟨_,_,rfl,rfl,TX.small (by rw[q0r,q0r];lia),L,_,_,_,rfl,rfl,sE _ _ hL5,neg_ix ini la,?_⟩;rw[z8f,z8h];refine⟨_,rfl,(sm5.new hE0).put hL,?_,keepL _,by rw[q0l hLM];exact sE _ _ hM5,by rw[q0l hLG];exact sE _ _ hG5,fun t htm=>?_,hi'⟩
    ·rw[q0d,etk,q2u,hil,q6x hpi']
    ·rw[etk,q2u,hil,q6x hpi'] at htm;rcases Bh.mp htm with z|z
     ·have:=hlen t (Dh _ z);lia
     ·rw[Au.mp z,Ae];lia
  ·rintro σ' H' ⟨x5,rfl,sm5,hL5,kt,hM5,hG5,hlen,hi⟩;rw[Ai,hUl,Ep] at hL5;refine⟨_,rfl,L,_,rfl,.inl ⟨SqL.of hL5,fun T5 hT5=>?_⟩⟩;exact k T5 _ (sA.free (sm5.free hT5)) ((sA.trans sm5).new hT5) q0d
def okAt(l:List Nat)(i:Nat):Prop:=∀c,l[i]?=some c->((l.take (i+1)).filter fun c=>decide (c∈GS)).length<=9/\(c∈GS\/c∈NS)
def spAskX(C:Addr):Sp:=fun vs H Q E=>∃l,vs=[.str (mk l)]/\l.length<=1000/\((∀i,okAt l i)->∀H',Same H H'->Q .non H') /\
 ∀i:Nat,¬okAt l i->(∀j,j<i->okAt l j)->∀ea H',Same H H'->H ea=none->Rfd H' ea C "at" (.int (i:Int))->E (.ref ea) none H'
structure CallsXX (P:Program) (w:World) (K:Af) (mg:Str->Option Value) (base:Heap) (C:Addr):Prop where
 e_NoPattern:CalE P w K mg base "NoPattern" C 1 ["self", "at"] (spIni1 C "at")
theorem q2k{H H1:Hp}{ea d:Addr}{o1 o2 o3 o4 o5:HO}(sm:Same H H1)(h1:H1 ea=none)(h2:upd H1 ea o1 d=none):Same H (upd (upd (upd (upd (upd H1 ea o1) d o2) ea o3) d o4) ea o5):=fun b o hb=>by
 have hb1:=sm b o hb;have n1:b≠ea:=fun z=>by rw[z,h1] at hb1;cases hb1
 have n2:b≠d:=fun z=>by rw[<- z,q0l n1,hb1] at h2;cases h2
 rw[q0l n1,q0l n2,q0l n1,q0l n2,q0l n1];exact hb1
theorem q9a{Cn:Addr}(D:Df K mg "ask_signs" q2l ["pattern"])(T:Txt mg)(C:CallsXX P w K mg base Cn):CalX P w K mg base "ask_signs" 3 ["pattern"] (spAskX Cn):=by
 refine D.calX sc_ask_signs (fun vs H Q E h=>?_) (fun f cdv A outer s H vs Q E hr h=>?_)
 ·obtain⟨l,rfl,_⟩:=h;rfl
 ·obtain⟨l,rfl,hlt,k,kE⟩:=h;obtain⟨_,g_NAME_SIGNS⟩:=T.NAME_SIGNS;obtain⟨_,g_GAP_SIGNS⟩:=T.GAP_SIGNS;obtain⟨_,g_MOST_GAPS⟩:=T.MOST_GAPS;refine⟨_,(q0c (q0k (i:=1) sc_ask_signs.nd rfl (by trivial) q0f) (q0e (q1y passDef rfl (@z2o _ _ _ _ _ _ _ _ K rfl rfl T.b_enumerate (q0a (pv 0) q0b) (by rfl)) (@q2f _ _ _ _ (2) _ K rfl rfl (q0u (q0s (i:=2) sc_ask_signs.nd rfl (by trivial)) (q0u (q0s (i:=3) sc_ask_signs.nd rfl (by trivial)) q1o)) (by rfl) (by rfl)) (q1g (q0v (q0h (in_k K rfl) (pv 3) (q0t (v:=.str (Ab "?*#@")) (by rfl) g_GAP_SIGNS ⟨_,rfl⟩) (by with_unfolding_all rfl)) (q0e (z4p (i:=1) sc_ask_signs.nd rfl (by trivial) q0f z1c)) q0i) (q0e (q0v (pt_j (@PW.pt _ _ _ (q4d (q0h q3v (pv 1) (q0t (v:=.int 9) (by rfl) g_MOST_GAPS ⟨_,rfl⟩) (nomark _)) (q3e (q0h (z1h K rfl) (pv 3) (q0p q0j (q0t (v:=.str (Ab "?*#@")) (by rfl) g_GAP_SIGNS ⟨_,rfl⟩) (q0t (v:=.str (Ab "abcdefghijklmnopqrstuvwxyzABCDEFGHIJKLMNOPQRSTUVWXYZ0123456789-_.")) (by rfl) g_NAME_SIGNS ⟨_,rfl⟩)) (by with_unfolding_all rfl)))))) (q0e (z6d C.e_NoPattern hr accX rfl (q0a (pv 2) q0b))) q0i)))))),?_⟩;have hlen:(mk l).length=l.length:=by rw[len,q0z]
  refine⟨_,rfl,.inl ⟨_,rfl,q4l (fun i σ' H'=>∃x2 x3,σ'=[some (.str (mk l)),some (.int (((l.take i).filter fun c=>decide (c∈GS)).length:Nat)),x2,x3]/\Same H H'/\∀j,j<i->okAt l j) ⟨none,none,rfl,Same.refl H,fun j h=>(by lia)⟩ ?_ ?_⟩⟩
  ·rintro i c T' σ' H' hc ⟨x2,x3,rfl,sm,hok⟩ hT;have hci:l[i]?=some c:=by have:=get hc;rw[q0z] at this;exact this
   have hi:i<l.length:=(Ak.mp hci).1;have hfl:((l.take (i+1)).filter fun c=>decide (c∈GS)).length<=l.length:=Aw (List.length_filter_le _ _) (by rw[Bk];lia);have htake:((l.take (i+1)).filter fun c=>decide (c∈GS)).length=((l.take i).filter fun c=>decide (c∈GS)).length+(if c∈GS then 1 else 0):=by
    rw[q1e hci,Fz,Ae];congr 1;by_cases h:c∈GS
    ·rw[if_pos h,z2r h];rfl
    ·rw[if_neg h,z2s h];rfl
   refine⟨T',_,rfl,SqT.of q0d,rfl,_,_,rfl,_,_,rfl,rfl,?_⟩;generalize hH2:upd H' T' _=H2;have sm2:Same H H2:=by rw[<- hH2];exact sm.new hT
   refine⟨fun σ2 H3=>σ2=[some (.str (mk l)),some (.int (((l.take (i+1)).filter fun c=>decide (c∈GS)).length:Nat)),some (.int (i:Nat)),some (.str ⟨#[c]⟩)]/\H3=H2,?_,?_⟩
   ·rintro σ2 H3 ⟨rfl,rfl⟩;refine⟨fun b H4=>(b=true->¬okAt l i)/\(b=false->okAt l i)/\H4=H3,?_,?_⟩
    ·rintro b H4 ⟨hb1,hb0,rfl⟩;refine ite2 (fun h=>?_) (fun h=>⟨_,_,rfl,sm2,fun j hj=>?_⟩)
     ·refine⟨_,rfl,fun ea hea=>⟨ea,_,rfl,q0d,⟨i,rfl,by lia⟩,fun d hd hne=>⟨rfl,?_⟩⟩⟩;obtain⟨dd,r1,r2⟩:=raised1 (f := "at") (v:=.int ((i:Nat):Int)) hd hne;exact⟨dd,r1,kE i (hb1 h) hok ea _ (q2k sm2 hea hd) (sm2.free hea) r2⟩
     ·rcases Nat.lt_succ_iff_lt_or_eq.mp hj with z|z
      ·exact hok j z
      ·rw[z];exact hb0 (by simpa using h)
    ·refine⟨_,rfl,_,_,rfl,rfl,_,rfl,?_⟩;refine iteB (fun h=>⟨fun _ z=>?_,fun z=>(by cases z),rfl⟩) (fun h=>?_)
     ·have:=(z c hci).1;have h':=of_decide_eq_true h;lia
     ·refine⟨_,rfl,.inr (.inl ⟨_,_,rfl,rfl,by decide +kernel,.inl ⟨_,_,rfl,rfl,_,rfl,?_⟩⟩)⟩;rw[q3u,gn_in];have h':=of_decide_eq_false h;refine⟨fun z y=>?_,fun z c' hc'=>?_,rfl⟩
      ·rw[decide_eq_true (y c hci).2] at z;cases z
      ·rw[hci] at hc';cases hc';refine⟨by lia,?_⟩;have:decide (c∈GS\/c∈NS)=true:=by cases q:decide (c∈GS\/c∈NS) with
        |true=>rfl
        |false=>rw[q] at z;cases z
       exact of_decide_eq_true this
   ·refine⟨_,rfl,.inl ⟨_,_,rfl,rfl,_,rfl,?_⟩⟩;rw[q3u];refine ite2 (fun h=>?_) (fun h=>?_)
    ·have h':c∈GS:=of_decide_eq_true h;refine⟨_,rfl,_,_,rfl,rfl,?_,rfl⟩;rw[htake,if_pos h'];rfl
    ·have h':¬c∈GS:=fun z=>h (decide_eq_true z);refine⟨?_,rfl⟩;rw[htake,if_neg h'];rfl
  ·rintro σ' H' ⟨x2,x3,rfl,sm,hok⟩;rw[hlen] at hok;refine k (fun i=>?_) _ sm;by_cases hi:i<l.length
   ·exact hok i hi
   ·intro c hc;rw[Ed (by lia)] at hc;cases hc
abbrev q1m:Stmt:=inClass (top 2) 0
theorem q3l:FnScope ["self", "at"] ["self", "at"] (defScope q1m):=by trivial
theorem q5h{Cn Dn:Addr}(F:Ef K mg "NoPattern" Cn Dn "NoPattern.__init__" q1m ["self", "at"])(g_HallError:mg "HallError" = some (.ref Dn))(S:ESet K Cn "at"):CalE P w K mg base "NoPattern" Cn 1 ["self", "at"] (spIni1 Cn "at"):=by
 refine F.cal q3l (fun vs H Q E h=>?_) (by decide) (fun mc f cdv A outer s H vs Q E L_low N_ini hr h=>?_)
 ·obtain⟨ea,v,rfl,_⟩:=h;rfl
 ·obtain⟨ea,v,rfl,hE,⟨n,rfl,hn⟩,k⟩:=h;refine⟨_,(q0c (q0y (z9g L_low N_ini rfl g_HallError (q0a (pv 0) (q0a (q8n q6r (z2z (pv 1)) (q8p q6r q8o)) q0b)))) (q0e (z9i K rfl (pv 0) (pv 1)))),?_⟩;have ln:=q4t 12 n (by lia);have l1:(Ab "no pattern: wrong behind ").length<=100:=by decide +kernel
  have l2:(Ab " signs").length<=100:=by decide +kernel
  have l0:Lg.length=0:=by decide +kernel
  have e1:(Ab (toString (n:Int))).length<=13:=by rw[z3y,q0r];exact ln
  refine⟨_,rfl,TX.small (by rw[q0q];lia),_,rfl,.inr ⟨n,rfl,hn,TX.small (by rw[q0q,q0q];lia),TX.small (by rw[q0q,q0q,q0q];lia),TX.small (by rw[q0q,q0q,q0q];lia),?_⟩⟩;exact⟨ea,_,none,rfl,hE,_,rfl,_,rfl,ea,Cn,rfl,S,.inl ⟨hE,fun d hd hne=>k d hd hne⟩⟩
structure Calls1X (P:Program) (w:World) (K:Af) (mg:Str->Option Value) (base:Heap) (Cn:Addr):Prop where
 e_NoPattern:CalE P w K mg base "NoPattern" Cn 1 ["self", "at"] (spIni1 Cn "at")
 ask_signs:CalX P w K mg base "ask_signs" 3 ["pattern"] (spAskX Cn)
 text_parts:Cal P w K mg base "text_parts" 1 ["text"] spTextParts
def WrongAt(l:List Nat)(i:Nat):Prop:=(l=[]/\i=0)\/(l≠[]/\¬okAt l i/\∀j,j<i->okAt l j)
theorem x1g{l:List Nat}(hne:l≠[])(hl:l.length<=1000)(h:∀i,okAt l i):Good l:=by
 refine⟨hne,fun c hc=>?_,?_,hl⟩
 ·obtain⟨i,hi,rfl⟩:=Gx.mp hc;exact(h i _ (Ap hi)).2
 ·have hp:=Cw.mpr hne;have:=(h (l.length-1) (l[l.length-1]'(by lia)) (Ap (by lia))).1
  rwa [show l.length-1+1=l.length by lia,Ep] at this
def spPartsX(C:Addr):Sp:=fun vs H Q E=>∃l,vs=[.str (mk l)]/\l.length<=1000/\(Good l->∀L H',H L=none->Same H H'->HL H' L (parse [] l)->Q (.ref L) H') /\
 ∀i:Nat,WrongAt l i->∀ea H',Same H H'->H ea=none->Rfd H' ea C "at" (.int (i:Int))->E (.ref ea) none H'
theorem z0u{Cn:Addr}(D:Df K mg "parts_of" q2z ["pattern"])(T:Txt mg)(C:Calls1X P w K mg base Cn):CalX P w K mg base "parts_of" 4 ["pattern"] (spPartsX Cn):=by
 refine D.calX sc_parts_of (fun vs H Q E h=>?_) (fun f cdv A outer s H vs Q E hr h=>?_)
 ·obtain⟨l,rfl,_⟩:=h;rfl
 ·obtain⟨l,rfl,hl0,k,kE⟩:=h;obtain⟨_,g_NAME_SIGNS⟩:=T.NAME_SIGNS;obtain⟨_,g_GAP_SIGNS⟩:=T.GAP_SIGNS;refine⟨_,(q0c (q0v (q0h (eq_k K rfl hr) (pv 0) q0g (nomark _)) (q0e (z6d C.e_NoPattern hr accX rfl (q0a q0f q0b))) q0i) (q0c (q0y (q1z C.ask_signs hr accX (q0a (pv 0) q0b))) (q0c (q0k (i:=1) sc_parts_of.nd rfl (by trivial) (q1b q0b)) (q0c (q0k (i:=2) sc_parts_of.nd rfl (by trivial) q0f) (q0c (q1y passDef rfl (@z2o _ _ _ _ _ _ _ _ K rfl rfl T.b_enumerate (q0a (pv 0) q0b) (by rfl)) (@q2f _ _ _ _ (2) _ K rfl rfl (q0u (q0s (i:=3) sc_parts_of.nd rfl (by trivial)) (q0u (q0s (i:=4) sc_parts_of.nd rfl (by trivial)) q1o)) (by rfl) (by rfl)) (q0e (q0v (q0h (in_k K rfl) (pv 4) (q0t (v:=.str (Ab "?*#@")) (by rfl) g_GAP_SIGNS ⟨_,rfl⟩) (by with_unfolding_all rfl)) (q0c (q0y (@bm_k _ _ _ _ _ _ _ _ _ _ _ _ K rfl Bc Fs Ft q4j (pv 1) (q0a (pe_c C.text_parts hr (q0a (q1n (sl_k K rfl) (pv 0) (q1f (pv 2)) (q1f (pv 3))) q0b)) q0b) (by rfl) (by rfl) (by rfl) (by rfl) (by rfl))) (q0c (q0y (@bm_k _ _ _ _ _ _ _ _ _ _ _ _ K rfl Bc Bv Bw q1j (pv 1) (q0a (q0o (q0a q0g (q0a (pv 4) q0b))) q0b) (by rfl) (by rfl) (by rfl) (by rfl) (by rfl))) (q0e (q0k (i:=2) sc_parts_of.nd rfl (by trivial) (q0p q0j (pv 3) q0f))))) q0i))) (q0c (q0y (@bm_k _ _ _ _ _ _ _ _ _ _ _ _ K rfl Bc Fs Ft q4j (pv 1) (q0a (pe_c C.text_parts hr (q0a (q1n (sl_k K rfl) (pv 0) (q1f (pv 2)) q6f) q0b)) q0b) (by rfl) (by rfl) (by rfl) (by rfl) (by rfl))) (q0e (q0m (pv 1))))))))),?_⟩;have hlen:(mk l).length=l.length:=by rw[len,q0z]
  refine⟨_,rfl,.inl ⟨rfl,_,rfl,?_⟩⟩;rw[z0j];by_cases hne:l=[]
  ·rw[decide_eq_true hne];refine iteT (fun ea hea=>⟨ea,_,rfl,q0d,⟨0,rfl,by decide⟩,fun d hd hne=>⟨rfl,?_⟩⟩);obtain⟨dd,r1,r2⟩:=raised1 (f := "at") (v:=.int ((0:Nat):Int)) hd hne;exact⟨dd,r1,kE 0 (.inl ⟨by assumption,rfl⟩) ea _ (q2k (Same.refl H) hea hd) hea r2⟩
  rw[decide_eq_false hne];refine iteF ?_;refine⟨_,rfl,l,rfl,hl0,fun hall H1 sm1=>?_,fun i hn hj ea H' sm hea r ea' ez=>?_⟩;rotate_left
  ·cases ez;exact kE i (.inr ⟨hne,hn,hj⟩) ea H' sm hea r
  have hg:=x1g hne hl0 hall;replace k:=k hg;refine⟨by show 0<=sizeLine;decide,fun L hL=>?_⟩;have hL0:H L=none:=sm1.free hL;have ext:∀(H':Hp) (acc:List Pt) (t:List Nat) (M:Addr) (H2:Hp),HL H' L acc->acc.length<=5000->Same H H'->H' M=none->Same H' H2->HL H2 M (tp t) ->
    ∃xs zs,H2 L=some (.lst xs)/\H2 M=some (.lst zs)/\xs.length+zs.length<=sizeLine/\HL (upd H2 L (.lst (xs++zs))) L (acc++tp t)/\Same H (upd H2 L (.lst (xs++zs))):=by
   intro H' acc t M H2 hl ha sm hM sm2 hm;obtain⟨Ts,h1,h2⟩:=hl.ex;obtain⟨Us,h3,h4⟩:=hm.ex;have l1:=h2.len;have l2:=h4.len;have l3:(tp t).length<=1:=by unfold tp;split<;>simp
   have hL2:H2 L=some (.lst (Ts.map V.ref)):=sm2 _ _ h1;refine⟨_,_,hL2,h3,by rw[Ai,Ai];exact small (by lia),⟨Ts++Us,by rw[Bi];exact q0d,?_⟩,(sm.trans sm2).put hL0⟩;exact Tups.app ((h2.keep (Same.tk sm2)).keep ((TKeep.refl H2).lst hL2)) (h4.keep ((TKeep.refl H2).lst hL2))
  refine⟨_,rfl,.inl ⟨_,rfl,q4l (fun i σ' H'=>∃acc x3 x4 bg,σ'=[some (.str (mk l)),some (.ref L),some (.int (bg:Nat)),x3,x4]/\Same H H'/\HL H' L acc/\bg<=i/\i<=l.length/\acc.length<=2*i/\acc++parse ((l.drop bg).take (i-bg)) (l.drop i)=parse [] l) ⟨[],none,none,0,rfl,(sm1.new hL),⟨[],q0d,.nil⟩,Ah _,Bg _,Ah _,by simp⟩ ?_ ?_⟩⟩
  ·rintro i c T' σ' H' hc ⟨acc,x3,x4,bg,rfl,sm,hl,hbi,hil,hal,hp⟩ hT;have hci:l[i]?=some c:=by have:=get hc;rw[q0z] at this;exact this
   have hi:i<l.length:=(Ak.mp hci).1;have hdr:l.drop i=c::l.drop (i+1):=by
    have:=He hi;rw[this];congr 1;exact(Ak.mp hci).2
   refine⟨T',_,rfl,SqT.of q0d,rfl,_,_,rfl,_,_,rfl,rfl,?_⟩;generalize hH2:upd H' T' _=H2;have s12:Same H' H2:=by rw[<- hH2];exact(Same.refl H').new hT
   have sm2:Same H H2:=sm.trans s12;have hl2:HL H2 L acc:=hl.same s12;refine⟨_,rfl,.inl ⟨_,_,rfl,rfl,_,rfl,?_⟩⟩;rw[q3u];rw[hdr,parse] at hp;refine ite2 (fun h=>?_) (fun h=>?_)
   ·have h':c∈GS:=of_decide_eq_true h;rw[if_pos h'] at hp;refine⟨_,rfl,.inl ⟨rfl,hl2.sq⟩,_,rfl,_,rfl,_,rfl,_,rfl,_,rfl,.inl ⟨_,rfl,small (by lia),?_⟩⟩;rw[q4x hbi hil];refine⟨_,rfl,fun M H3 hM sm3 hm=>?_⟩;obtain⟨xs,zs,e1,e2,e3,e4,e5⟩:=ext H2 acc _ M H3 hl2 (by lia) sm2 hM sm3 hm;refine⟨L,M,xs,zs,rfl,rfl,e1,e2,e3,?_⟩;generalize hH4:upd H3 L _=H4;rw[hH4] at e4 e5;refine⟨_,rfl,.inl ⟨rfl,e4.sq⟩,_,rfl,by show 2<=sizeLine;decide,fun T2 hT2=>?_⟩;have e6:HL (upd H4 T2 (.tup (Pt.gp c).vs)) L _:=e4.new hT2;obtain⟨Ts,h1,h2⟩:=e6.ex;have htl:(tp ((l.drop bg).take (i-bg))).length<=1:=by unfold tp;split<;>simp
    have hTl:=h2.len;rw[Ae] at hTl;refine⟨L,_,_,rfl,rfl,h1,by rw[Ai];exact small' (by lia),?_⟩;refine⟨_,rfl,.inl ⟨_,_,rfl,rfl,?_⟩⟩;have hT2L:T2≠L:=fun z=>by subst z;rw[q0d] at h1;cases h1
    refine⟨acc++tp ((l.drop bg).take (i-bg))++[.gp c],some (.int (i:Nat)),some (.str ⟨#[c]⟩),i+1,rfl,(e5.new hT2).put hL0,⟨Ts++[T2],by rw[Bi];exact q0d,?_⟩,Ah _,hi,by rw[Ae,Ae,Aq];lia,?_⟩
    ·refine Tups.app (h2.keep ((TKeep.refl _).lst h1)) (.cons ?_ .nil);rw[q0l hT2L];exact q0d
    ·rw[<- hp];simp
   ·have h':¬c∈GS:=fun z=>h (decide_eq_true z);rw[if_neg h'] at hp;refine⟨acc,_,_,bg,rfl,sm2,hl2,by lia,hi,by lia,?_⟩;rw[<- hp];congr 2;have e1:i+1-bg=(i-bg)+1:=by lia
    rw[e1];refine q1e ?_;rw[Ge];have e2:bg+(i-bg)=i:=by lia
    rw[e2];exact hci
  ·rintro σ' H' ⟨acc,x3,x4,bg,rfl,sm,hl,hbi,hil,hal,hp⟩;refine⟨_,rfl,.inl ⟨rfl,hl.sq⟩,_,rfl,_,rfl,_,rfl,.inl ⟨_,rfl,small (by lia),?_⟩⟩;have hbl:bg<=l.length:=by lia
   rw[q3q (by lia) (by rw[q0z];lia),q0z];refine⟨_,rfl,fun M H3 hM sm3 hm=>?_⟩;obtain⟨xs,zs,e1,e2,e3,e4,e5⟩:=ext H' acc _ M H3 hl (by lia) sm hM sm3 hm;refine⟨L,M,xs,zs,rfl,rfl,e1,e2,e3,_,rfl,?_⟩;refine k L _ hL0 e5 ?_;rw[hlen] at hp;have e6:(l.drop bg).take (l.length-bg)=l.drop bg:=Cs (by rw[Bx];exact Ah _);rw[Gw,parse,e6] at hp;have e7:((bg:Nat):Int).toNat=bg:=by lia
   rw[e7] at e4;rw[<- hp];exact e4
inductive Sx where
 |beg|beh|into|opn|cnt|gap|nou|cls
 |sum (k:Nat)
def D9:List Nat:=tl (Ab "0123456789")
def D1:List Nat:=tl (Ab "123456789")
def D2:List Nat:=tl (Ab "23456789")
def nx:Sx->Nat->Option Sx
 |.beg,c=>if c∈NS then some .beh else if c=123 then some .opn else none
 |.beh,c=>if c∈NS then some .beh else if c=123 then some .opn else if c=47 then some .into else none
 |.into,c=>if c∈NS then some .beh else if c=123 then some .opn else none
 |.opn,c=>if c=110 then some .cnt else if c∈D1 then some .gap else none
 |.cnt,c=>if c∈D2 then some .cls else if c=125 then some .beh else none
 |.gap,c=>if c=117\/c=108 then some .cls else if c=122 then some .nou else if c=43 then some (.sum 0) else if c=125 then some .beh else none
 |.nou,c=>if c∈D1 then some .cls else none
 |.cls,c=>if c=125 then some .beh else none
 |.sum 0,c=>if c=48 then some .cls else if c∈D9 then some (.sum 1) else none
 |.sum (k+1),c=>if c∈D9/\k+1≠9 then some (.sum (k+2)) else if c=125 then some .beh else none
inductive Stp (l:List Nat):Nat->Sx->Nat->Sx->Prop
 |refl {a:Nat} {s:Sx}:Stp l a s a s
 |step {a e c:Nat} {s s1 s2:Sx}:l[a]?=some c->nx s c=some s1->Stp l (a+1) s1 e s2->Stp l a s e s2
theorem Stp.trans{l:List Nat}{a e f:Nat}{s t u:Sx}(h:Stp l a s e t)(g:Stp l e t f u):Stp l a s f u:=by
 induction h with
 |refl=>exact g
 |step h1 h2 _ ih=>exact .step h1 h2 (ih g)
theorem Stp.one{l:List Nat}{a c:Nat}{s s1:Sx}(h1:l[a]?=some c)(h2:nx s c=some s1):Stp l a s (a+1) s1:=.step h1 h2 .refl
def Bad(l:List Nat)(i:Nat)(s:Sx):Prop:=(i=l.length/\s≠.beh)\/∃c,l[i]?=some c/\nx s c=none
def Refu(l:List Nat)(a:Nat)(s:Sx)(i:Nat):Prop:=∃s',Stp l a s i s'/\Bad l i s'
theorem Refu.step{l:List Nat}{a c i:Nat}{s s1:Sx}(h1:l[a]?=some c)(h2:nx s c=some s1)(h:Refu l (a+1) s1 i):Refu l a s i:=by
 obtain⟨s',g,b⟩:=h;exact⟨s',.step h1 h2 g,b⟩
theorem Refu.via{l:List Nat}{a e i:Nat}{s t:Sx}(g:Stp l a s e t)(h:Refu l e t i):Refu l a s i:=by
 obtain⟨s',g',b⟩:=h;exact⟨s',g.trans g',b⟩
theorem Stp.le{l:List Nat}{a e:Nat}{s t:Sx}(h:Stp l a s e t):a<=e:=by
 induction h with
 |refl=>exact Ah _
 |step _ _ _ ih=>lia
theorem Stp.det{l:List Nat}{a e f:Nat}{s t u:Sx}(h:Stp l a s e t)(g:Stp l a s f u)(hb:Bad l e t\/(e=l.length/\t=.beh))(gb:Bad l f u\/(f=l.length/\u=.beh)):e=f/\t=u:=by
 induction h with
 |refl =>
  cases g with
  |refl=>exact⟨rfl,rfl⟩
  |step h1 h2 g =>
   exfalso;have hlt:=(Ak.mp h1).1;rcases hb with(⟨z,_⟩|⟨c,c1,c2⟩)|⟨z,_⟩
   ·lia
   ·rw[h1] at c1;cases c1;rw[h2] at c2;cases c2
   ·lia
 |step h1 h2 h ih =>
  cases g with
  |refl =>
   exfalso;have hlt:=(Ak.mp h1).1;rcases gb with(⟨z,_⟩|⟨c,c1,c2⟩)|⟨z,_⟩
   ·lia
   ·rw[h1] at c1;cases c1;rw[h2] at c2;cases c2
   ·lia
  |step g1 g2 g =>
   rw[h1] at g1;cases g1;rw[h2] at g2;cases g2;exact ih g hb
theorem z8j{l:List Nat}{i j:Nat}(h:Refu l 0 .beg i)(g:Refu l 0 .beg j):i=j:=by
 obtain⟨s,h1,h2⟩:=h;obtain⟨t,g1,g2⟩:=g;exact(h1.det g1 (.inl h2) (.inl g2)).1
theorem z8k{l:List Nat}{i:Nat}(h:Refu l 0 .beg i)(g:Stp l 0 .beg l.length .beh):False:=by
 obtain⟨s,h1,h2⟩:=h;obtain⟨e1,e2⟩:=h1.det g (.inl h2) (.inr ⟨rfl,rfl⟩);subst e1 e2;rcases h2 with⟨_,z⟩|⟨c,c1,_⟩
 ·exact z rfl
 ·rw[Ed (Ah _)] at c1;cases c1
def Prev(l:List Nat)(a:Nat)(s:Sx):Prop:=(s=.beg/\a=0)\/(s=.into/\1<=a/\l[a-1]?=some 47)\/(s=.beh/\1<=a/\∃c,l[a-1]?=some c/\c≠47)
theorem ns47:∀c∈NS,c≠47:=by decide +kernel
theorem d_fig:∀c∈D9,48<=c/\c<=57:=by decide +kernel
theorem z6o:∀c∈D1,49<=c/\c<=57:=by decide +kernel
theorem z6p:∀c∈D2,50<=c/\c<=57:=by decide +kernel
abbrev q1k:Stmt:=inClass (top 3) 0
theorem q3g:FnScope ["self", "at"] ["self", "at"] (defScope q1k):=by trivial
theorem q4z{Cn Dn:Addr}(F:Ef K mg "NoTemplate" Cn Dn "NoTemplate.__init__" q1k ["self", "at"])(g_HallError:mg "HallError" = some (.ref Dn))(S:ESet K Cn "at"):CalE P w K mg base "NoTemplate" Cn 1 ["self", "at"] (spIni1 Cn "at"):=by
 refine F.cal q3g (fun vs H Q E h=>?_) (by decide) (fun mc f cdv A outer s H vs Q E L_low N_ini hr h=>?_)
 ·obtain⟨ea,v,rfl,_⟩:=h;rfl
 ·obtain⟨ea,v,rfl,hE,⟨n,rfl,hn⟩,k⟩:=h;refine⟨_,(q0c (q0y (z9g L_low N_ini rfl g_HallError (q0a (pv 0) (q0a (q8n q6r (z2z (pv 1)) (q8p q6r q8o)) q0b)))) (q0e (z9i K rfl (pv 0) (pv 1)))),?_⟩;have ln:=q4t 12 n (by lia);have l1:(Ab "no template: wrong behind ").length<=100:=by decide +kernel
  have l2:(Ab " signs").length<=100:=by decide +kernel
  have l0:Lg.length=0:=by decide +kernel
  have e1:(Ab (toString (n:Int))).length<=13:=by rw[z3y,q0r];exact ln
  refine⟨_,rfl,TX.small (by rw[q0q];lia),_,rfl,.inr ⟨n,rfl,hn,TX.small (by rw[q0q,q0q];lia),TX.small (by rw[q0q,q0q,q0q];lia),TX.small (by rw[q0q,q0q,q0q];lia),?_⟩⟩;exact⟨ea,_,none,rfl,hE,_,rfl,_,rfl,ea,Cn,rfl,S,.inl ⟨hE,fun d hd hne=>k d hd hne⟩⟩
def RE(H:Hp)(E:XK)(Cn:Addr)(i:Nat):Prop:=∀ea H',Same H H'->H ea=none->Rfd H' ea Cn "at" (.int ((i:Nat):Int))->E (.ref ea) none H'
def spAskedX(Cn:Addr):Sp:=fun vs H Q E=>∃(l:List Nat) (at_:Nat) (g:Str),vs=[.str (mk l),.int (at_:Int),.str g]/\l.length<=1000/\at_<=1000/\(∀c,l[at_]?=some c->c∈tl g->Q (.str (mk [c])) H)/\((∀c,l[at_]?=some c->¬c∈tl g)->RE H E Cn at_)
structure CallsN (P:Program) (w:World) (K:Af) (mg:Str->Option Value) (base:Heap) (Cn:Addr):Prop where
 e_NoTemplate:CalE P w K mg base "NoTemplate" Cn 1 ["self", "at"] (spIni1 Cn "at")
theorem z6q{Cn:Addr}(D:Df K mg "asked" q5x ["template", "at", "signs"])(T:Txt mg)(C:CallsN P w K mg base Cn):CalX P w K mg base "asked" 3 ["template", "at", "signs"] (spAskedX Cn):=by
 refine D.calX z3c (fun vs H Q E h=>?_) (fun f cdv A outer s H vs Q E hr h=>?_)
 ·obtain⟨l,at_,g,rfl,_⟩:=h;rfl
 ·obtain⟨l,at_,g,rfl,hl,ha,k,kE⟩:=h;refine⟨_,(q0c (q0v (pt_j (@PW.pt _ _ _ (q4d (q0h op_ge (pv 1) (q0n (q1q K rfl) (by rfl) T.b_len Ax (q0a (pv 0) q0b)) (nomark _)) (q3e (q0h (z1h K rfl) (q0x (ix_k K rfl) (pv 0) (pv 1) (fun _ _=>rfl)) (pv 2) (by with_unfolding_all rfl)))))) (q0e (z6d C.e_NoTemplate hr accX rfl (q0a (pv 1) q0b))) q0i) (q0e (q0m (q0x (ix_k K rfl) (pv 0) (pv 1) (fun _ _=>rfl))))),?_⟩;have hlen:=q0r l;refine⟨fun b H'=>H'=H/\(b=true->∀c,l[at_]?=some c->¬c∈tl g)/\(b=false->∃c,l[at_]?=some c/\c∈tl g),?_,?_⟩;rotate_left
  ·refine⟨_,rfl,_,rfl,_,_,rfl,⟨small (by lia),rfl⟩,_,_,rfl,rfl,_,rfl,?_⟩;refine iteB (fun h=>⟨rfl,fun _ c hc=>?_,fun z=>(by cases z)⟩) (fun h=>?_)
   ·have:=of_decide_eq_true h;have:=(Ak.mp hc).1;lia
   have hlt:at_<l.length:=by
    have:=of_decide_eq_false h;lia
   have hc:l[at_]?=some l[at_]:=Ap hlt;refine⟨_,rfl,_,rfl,.inr (.inr ⟨mk l,_,l[at_],rfl,rfl,small (by lia),q1t (show(tl (mk l))[at_]?=_ by rw[q0z];exact hc),_,rfl,.inl ⟨_,_,rfl,rfl,_,rfl,rfl,?_⟩⟩)⟩;rw[q3u];by_cases hg:l[at_]∈tl g
   ·rw[decide_eq_true hg];exact⟨(fun z=>by cases z),fun _=>⟨_,hc,hg⟩⟩
   ·rw[decide_eq_false hg];exact⟨fun _ c hc'=>by rw[hc] at hc';cases hc';exact hg,(fun z=>by cases z)⟩
  rintro b H' ⟨rfl,h1,h0⟩;refine iteB (fun h=>?_) (fun h=>?_)
  ·refine⟨_,rfl,fun ea hea=>⟨ea,_,rfl,q0d,⟨at_,rfl,by lia⟩,fun d hd hne=>⟨rfl,?_⟩⟩⟩;obtain⟨dd,r1,r2⟩:=raised1 (f := "at") (v:=.int ((at_:Nat):Int)) hd hne;exact⟨dd,r1,kE (h1 h) ea _ (q2k (Same.refl H') hea hd) hea r2⟩
  ·obtain⟨c,hc,hg⟩:=h0 h;exact⟨_,rfl,_,rfl,.inr (.inr ⟨mk l,_,c,rfl,rfl,small (by lia),q1t (show(tl (mk l))[at_]?=_ by rw[q0z];exact hc),k c hc hg⟩)⟩
theorem RE.same{H H1:Hp}{E:XK}{Cn:Addr}{i:Nat}(h:RE H E Cn i)(s:Same H H1):RE H1 E Cn i:=fun ea H' sm hea r=>h ea H' (s.trans sm) (s.free hea) r
theorem RE.up{H:Hp}{E:XK}{Cn:Addr}{i:Nat}(h:RE H E Cn i):RE H (fun e _ H'=>∀ea,e=.ref ea->E (.ref ea) none H') Cn i:=fun ea H' sm hea r ea' ez=>by
 cases ez;exact h ea H' sm hea r
structure RX (H:Hp) (Q:VK) (E:XK) (Cn:Addr) (l:List Nat) (a:Nat) (s:Sx):Prop where
 go:∀p e s',Pc.ok p->a<e->e<=l.length->Stp l a s e s'->Prev l e s'->(s'=.into↔p=.into)->RT H Q p e
 no:∀i,i<=l.length->Refu l a s i->RE H E Cn i
theorem q3d{l:List Nat}{e:Nat}(h:l[e]?=some 125):Prev l (e+1) .beh:=.inr (.inr ⟨rfl,by lia,125,by rw[Ju];exact h,by decide⟩)
theorem q5r{l:List Nat}{i c:Nat}(h:l[i]?=some c):i<l.length:=(Ak.mp h).1
theorem q6y{l:List Nat}{i:Nat}{s:Sx}(hi:i<=l.length)(hs:s≠.beh)(h:∀c,l[i]?=some c->nx s c=none):Refu l i s i:=by
 refine⟨s,.refl,?_⟩;rcases Jc i l.length with z|z
 ·exact .inr ⟨_,Ap z,h _ (Ap z)⟩
 ·exact .inl ⟨by lia,hs⟩
structure CallsA6 (P:Program) (w:World) (K:Af) (mg:Str->Option Value) (base:Heap) (Cn:Addr):Prop where
 asked:CalX P w K mg base "asked" 3 ["template", "at", "signs"] (spAskedX Cn)
 end_of:Cal P w K mg base "end_of" 1 ["template", "at", "signs", "most"] spEndOf
theorem dig{c:Nat}(h:c∈D1):∃v,c=48+v/\1<=v/\v<=9:=⟨c-48,by have:=z6o c h;lia,by have:=z6o c h;lia,by have:=z6o c h;lia⟩
theorem dig2{c:Nat}(h:c∈D2):∃v,c=48+v/\2<=v/\v<=9:=⟨c-48,by have:=z6p c h;lia,by have:=z6p c h;lia,by have:=z6p c h;lia⟩
theorem brace{c:Nat}(h:c∈tl (Ab "}")):c=125:=by
 have:∀c∈tl (Ab "}"),c=125:=by decide +kernel
 exact this c h
theorem brace':(125:Nat)∈tl (Ab "}"):=by decide +kernel
theorem z1y{l:List Nat}{H:Hp}{Q:VK}{E:XK}{Cn:Addr}{a e:Nat}{s:Sx}(x:RX H Q E Cn l a s)(g:Stp l a s e .cls)(hl:e<=l.length)(h:∀c,l[e]?=some c->¬c∈tl (Ab "}")):RE H E Cn e :=
 x.no e hl (.via g (q6y hl (by intro z;cases z) fun c hc=>by
  show(if c=125 then _ else _)=_;rw[if_neg (fun z=>h c hc (by rw[z];exact brace'))]))
theorem nx_cnt:nx .cnt 125=some .beh:=by
 show(if 125∈D2 then some Sx.cls else if 125=125 then some Sx.beh else none)=_;rw[if_neg (by decide +kernel),if_pos rfl]
def spCountX(Cn:Addr):Sp:=fun vs H Q E=>∃(l:List Nat) (a:Nat),vs=[.str (mk l),.int (a:Int)]/\l.length<=500/\a<=l.length/\RX H Q E Cn l a .cnt
theorem q7e{Cn:Addr}(D:Df K mg "read_count" q2h ["template", "at"])(T:Txt mg)(C:CallsA6 P w K mg base Cn):CalX P w K mg base "read_count" 4 ["template", "at"] (spCountX Cn):=by
 refine D.calX sc_read_count (fun vs H Q E h=>?_) (fun f cdv A outer s H vs Q E hr h=>?_)
 ·obtain⟨l,a,rfl,_⟩:=h;rfl
 ·obtain⟨l,a,rfl,hl,ha,x⟩:=h;obtain⟨_,g_FROM_TWO⟩:=T.FROM_TWO;refine⟨_,(q0c (q0k (i:=2) sc_read_count.nd rfl (by trivial) (q1z C.asked hr accX (q0a (pv 0) (q0a (pv 1) (q0a (q0p q0j q0g (q0t (v:=.str (Ab "23456789")) (by rfl) g_FROM_TWO ⟨_,rfl⟩)) q0b))))) (q0c (q0v (q0h (eq_k K rfl hr) (pv 2) q0g (nomark _)) (q0e (q0m (q0o (q0a (q0o (q0a q0g (q0a q0f q0b))) (q0a (q0p q0j (pv 1) q0f) q0b))))) q0i) (q0c (q0y (q1z C.asked hr accX (q0a (pv 0) (q0a (q0p q0j (pv 1) q0f) (q0a q0g q0b))))) (q0e (q0m (q0o (q0a (q0o (q0a q0g (q0a (q1a q1r (by rfl) T.b_int (by decide +kernel) (q0a (pv 2) q0b)) q0b))) (q0a (q0p q0j (pv 1) q0f) q0b)))))))),?_⟩;have e9:(Ab "}").length+(Ab "23456789").length<=1000:=by decide +kernel
  have hin:∀c,c∈tl (Ab "}" ++ Ab "23456789")↔c=125\/c∈D2:=fun c=>by
   rw[q1d,Bh];exact⟨fun z=>z.imp brace id,fun z=>z.imp (fun y=>by rw[y];exact brace') id⟩
  refine⟨_,rfl,_,rfl,.inr (.inl ⟨_,_,rfl,rfl,small (by lia),l,a,_,rfl,by lia,by lia,fun c hc hg=>?_,fun hn=>?_⟩)⟩;rotate_left
  ·refine(x.no a ha (q6y ha (by intro z;cases z) fun c hc=>?_)).up;have:=hn c hc;rw[hin] at this;show(if c∈D2 then _ else if c=125 then _ else _)=_;rw[if_neg (fun z=>this (.inr z)),if_neg (fun z=>this (.inl z))]
  have hlt:=q5r hc;refine⟨_,rfl,.inl ⟨rfl,_,rfl,?_⟩⟩;rw[lit1 c 125 "}" (by decide +kernel)];refine ite2 (fun h=>?_) (fun h=>?_)
  ·have hc':c=125:=of_decide_eq_true h;subst hc';refine⟨by show 2<=sizeLine;decide,fun T1 hT1=>⟨_,rfl,.inl ⟨_,_,rfl,rfl,by show 2<=sizeLine;decide,fun T2 hT2=>?_⟩⟩⟩;have rt:=x.go (.cnt 1) (a+1) .beh ⟨by decide,by decide⟩ (by lia) (by lia) (.one hc nx_cnt) (q3d hc) ⟨(fun z=>by cases z),(fun z=>by cases z)⟩;exact rt.go (by show(a:Int)+1=((a+1:Nat):Int);lia) hT1 hT2
  ·have hc':c∈D2:=((hin c).mp hg).resolve_left fun z=>h (decide_eq_true z);obtain⟨v,rfl,hv2,hv9⟩:=dig2 hc';have st1:Stp l a .cnt (a+1) .cls:=.one hc (if_pos hc');refine⟨_,rfl,_,rfl,.inl ⟨_,_,rfl,rfl,l,a+1,_,rfl,by lia,by lia,fun c2 hc2 hg2=>?_,fun hn=>(z1y x st1 (by lia) hn).up⟩⟩;have e2:=brace hg2;subst e2;have hlt2:=q5r hc2;refine⟨_,rfl,.inr ⟨_,_,rfl,q7t (by lia),by rw[q0r];show 1<=640;decide,by show 2<=sizeLine;decide,fun T1 hT1=>⟨_,rfl,.inl ⟨_,_,rfl,rfl,by show 2<=sizeLine;decide,fun T2 hT2=>?_⟩⟩⟩⟩;have rt:=x.go (.cnt v) (a+2) .beh ⟨by lia,by lia⟩ (by lia) (by lia) (st1.trans (.one hc2 rfl)) (q3d hc2) ⟨(fun z=>by cases z),(fun z=>by cases z)⟩;exact rt.go (by show(a:Int)+2=((a+2:Nat):Int);lia) hT1 hT2
def spNoughtsX(Cn:Addr):Sp:=fun vs H Q E=>∃(l:List Nat) (a g:Nat),vs=[.str (mk l),.int (a:Int),.int (g:Int)]/\l.length<=500/\a<=l.length/\(1<=g/\g<=9)/\RX H Q E Cn l a .nou
theorem q5s{Cn:Addr}(D:Df K mg "read_noughts" q1x ["template", "at", "gap"])(T:Txt mg)(C:CallsA6 P w K mg base Cn):CalX P w K mg base "read_noughts" 4 ["template", "at", "gap"] (spNoughtsX Cn):=by
 refine D.calX sc_read_noughts (fun vs H Q E h=>?_) (fun f cdv A outer s H vs Q E hr h=>?_)
 ·obtain⟨l,a,g,rfl,_⟩:=h;rfl
 ·obtain⟨l,a,g,rfl,hl,ha,hg,x⟩:=h;obtain⟨_,g_FROM_ONE⟩:=T.FROM_ONE;refine⟨_,(q0c (q0k (i:=3) sc_read_noughts.nd rfl (by trivial) (q1z C.asked hr accX (q0a (pv 0) (q0a (pv 1) (q0a (q0t (v:=.str (Ab "123456789")) (by rfl) g_FROM_ONE ⟨_,rfl⟩) q0b))))) (q0c (q0y (q1z C.asked hr accX (q0a (pv 0) (q0a (q0p q0j (pv 1) q0f) (q0a q0g q0b))))) (q0e (q0m (q0o (q0a (q0o (q0a q0g (q0a (pv 2) (q0a (q1a q1r (by rfl) T.b_int (by decide +kernel) (q0a (pv 3) q0b)) q0b)))) (q0a (q0p q0j (pv 1) q0f) q0b))))))),?_⟩;refine⟨_,rfl,_,rfl,l,a,_,rfl,by lia,by lia,fun c hc hg1=>?_,fun hn=>?_⟩;rotate_left
  ·exact(x.no a ha (q6y ha (by intro z;cases z) fun c hc=>if_neg (hn c hc))).up
  have hlt:=q5r hc;have hc1:c∈D1:=hg1;obtain⟨v,rfl,hv1,hv9⟩:=dig hc1;have st1:Stp l a .nou (a+1) .cls:=.one hc (if_pos hc1);refine⟨_,rfl,_,rfl,.inl ⟨_,_,rfl,rfl,l,a+1,_,rfl,by lia,by lia,fun c2 hc2 hg2=>?_,fun hn=>(z1y x st1 (by lia) hn).up⟩⟩;have e2:=brace hg2;subst e2;have hlt2:=q5r hc2;refine⟨_,rfl,_,rfl,.inr ⟨_,_,rfl,q7t (by lia),by rw[q0r];show 1<=640;decide,by show 3<=sizeLine;decide,fun T1 hT1=>⟨_,rfl,.inl ⟨_,_,rfl,rfl,by show 2<=sizeLine;decide,fun T2 hT2=>?_⟩⟩⟩⟩;have rt:=x.go (.nou g v) (a+2) .beh ⟨hg,by lia,by lia⟩ (by lia) (by lia) (st1.trans (.one hc2 rfl)) (q3d hc2) ⟨(fun z=>by cases z),(fun z=>by cases z)⟩;exact rt.go (by show(a:Int)+2=((a+2:Nat):Int);lia) hT1 hT2
theorem z6r(g:List Nat):∀(l:List Nat) (a most:Nat),a<=l.length->∃k,k<=most/\a+k<=l.length/\(∀j,j<k->∃c,l[a+j]?=some c/\c∈g)/\(k=most\/a+k=l.length\/∃c,l[a+k]?=some c/\¬c∈g)
 |l,a,0,h=>⟨0,Ah _,h,fun j z=>(by lia),.inl rfl⟩
 |l,a,most+1,h=>by
  rcases Jc a l.length with z|z
  ·have hc:l[a]?=some l[a]:=Ap z;by_cases hg:l[a]∈g
   ·obtain⟨k,h1,h2,h3,h4⟩:=z6r g l (a+1) most z;refine⟨k+1,by lia,by lia,fun j hj=>?_,?_⟩
    ·cases j with
     |zero=>exact⟨_,hc,hg⟩
     |succ j =>
      obtain⟨c,c1,c2⟩:=h3 j (by lia);exact⟨c,by rw[show a+(j+1)=a+1+j from by lia];exact c1,c2⟩
    ·rcases h4 with h4|h4|⟨c,c1,c2⟩
     ·exact .inl (by lia)
     ·exact .inr (.inl (by lia))
     ·exact .inr (.inr ⟨c,by rw[show a+(k+1)=a+1+k from by lia];exact c1,c2⟩)
   ·exact⟨0,Bg _,h,fun j z=>(by lia),.inr (.inr ⟨_,hc,hg⟩)⟩
  ·exact⟨0,Bg _,h,fun j z=>(by lia),.inr (.inl (by lia))⟩
theorem z6s{l:List Nat}{a:Nat}:∀(k:Nat),k<=9->1<=k->(∀j,j<k->∃c,l[a+j]?=some c/\c∈D9)->(∀c,l[a]?=some c->c≠48)->Stp l a (.sum 0) (a+k) (.sum k)
 |0,_,h,_,_=>absurd h (by decide)
 |1,_,_,h,h0=>by
  obtain⟨c,c1,c2⟩:=h 0 (by decide);refine .one c1 ?_;show(if c=48 then _ else if c∈D9 then _ else _)=_;rw[if_neg (h0 c c1),if_pos c2]
 |k+2,h9,_,h,h0=>by
  refine(z6s (k+1) (by lia) (by lia) (fun j hj=>h j (by lia)) h0).trans ?_;obtain⟨c,c1,c2⟩:=h (k+1) (by lia);refine .one c1 ?_;show(if c∈D9/\k+1≠9 then _ else _)=_;rw[if_pos ⟨c2,by lia⟩]
theorem z3f{l:List Nat}{a k:Nat}(h:a+k<=l.length){g:List Nat}(hg:∀j,j<k->∃c,l[a+j]?=some c/\c∈g):∀c∈(l.drop a).take k,c∈g:=fun c hc=>by
 obtain⟨j,hj,rfl⟩:=Gx.mp hc;have hjk:j<k:=by rw[Bk] at hj;lia
 obtain⟨c,c1,c2⟩:=hg j hjk;rw[List.getElem_take,List.getElem_drop];have:l[a+j]?=some (l[a+j]'(by lia)):=Ap _;rw[c1] at this;cases this;exact c2
theorem dg_of:∀(k:Nat) (ds:List Nat),ds.length=k->1<=k->(∀c∈ds,c∈D9)->(k=1\/∀c,ds[0]?=some c->c≠48)->∃m,m<10^k/\ds=dg m/\(2<=k->1<=m)
 |0,_,_,h,_,_=>absurd h (by decide)
 |1,ds,hl,_,hd,_=>by
  match ds,hl with
  |[c],_ =>
   have:=d_fig c (hd c (by simp));refine⟨c-48,by lia,?_,fun z=>absurd z (by decide)⟩;rw[q2g (by lia)];congr 1;lia
 |k+2,ds,hl,_,hd,h0=>by
  have hne:ds≠[]:=fun z=>by rw[z] at hl;simp at hl
  have es:=(Bq hne).symm;have hdl:ds.dropLast.length=k+1:=by rw[Iq];lia
  have h00:∀c,ds.dropLast[0]?=some c->c≠48:=fun c hc=>by
   refine(h0.resolve_left (by lia)) c ?_;rw[es,Ba (by rw[hdl];lia)];exact hc
  obtain⟨m,hm,em,h1⟩:=dg_of (k+1) ds.dropLast hdl (by lia) (fun c hc=>hd c (List.dropLast_subset _ hc)) (.inr h00);have hlast:=d_fig _ (hd _ (Oy hne));have m1:1<=m:=by
   rcases Jv m with z|z
   ·exfalso;subst z;have:=h00 48 (by rw[em];rfl);exact this rfl
   ·exact z
  generalize hg:ds.getLast hne=d at es hlast;refine⟨10*m+(d-48),?_,?_,fun _=>by lia⟩
  ·have:10^(k+2)=10*10^(k+1):=by rw[Nt];lia
   rw[this];lia
  ·rw[es,em,q8j (m:=10*m+(d-48)) (by lia)];have e1:(10*m+(d-48)) / 10=m:=by lia
   have e2:48+(10*m+(d-48))%10=d:=by lia
   rw[e1,e2]
def spMoreX(Cn:Addr):Sp:=fun vs H Q E=>∃(l:List Nat) (a g:Nat),vs=[.str (mk l),.int (a:Int),.int (g:Int)]/\l.length<=500/\a<=l.length/\(1<=g/\g<=9)/\RX H Q E Cn l a (.sum 0)
theorem q9b{Cn:Addr}(D:Df K mg "read_more" q2m ["template", "at", "gap"])(T:Txt mg)(C:CallsA6 P w K mg base Cn):CalX P w K mg base "read_more" 4 ["template", "at", "gap"] (spMoreX Cn):=by
 refine D.calX sc_read_more (fun vs H Q E h=>?_) (fun f cdv A outer s H vs Q E hr h=>?_)
 ·obtain⟨l,a,g,rfl,_⟩:=h;rfl
 ·obtain⟨l,a,g,rfl,hl,ha,hg,x⟩:=h;obtain⟨_,g_FIGURES⟩:=T.FIGURES;obtain⟨_,g_MOST_FIGURES⟩:=T.MOST_FIGURES;refine⟨_,(q0c (q0k (i:=3) sc_read_more.nd rfl (by trivial) (q1z C.asked hr accX (q0a (pv 0) (q0a (pv 1) (q0a (q0t (v:=.str (Ab "0123456789")) (by rfl) g_FIGURES ⟨_,rfl⟩) q0b))))) (q0c (q0k (i:=4) sc_read_more.nd rfl (by trivial) (pe_c C.end_of hr (q0a (pv 0) (q0a (pv 1) (q0a (q0t (v:=.str (Ab "0123456789")) (by rfl) g_FIGURES ⟨_,rfl⟩) (q0a (pe_j (z2h (q0h (eq_k K rfl hr) (pv 3) q0g (nomark _)) q0f (q0t (v:=.int 9) (by rfl) g_MOST_FIGURES ⟨_,rfl⟩))) q0b)))))) (q0c (q0y (q1z C.asked hr accX (q0a (pv 0) (q0a (pv 4) (q0a q0g q0b))))) (q0e (q0m (q0o (q0a (q0o (q0a q0g (q0a (pv 2) (q0a (q1a q1r (by rfl) T.b_int (by decide +kernel) (q0a (q1n (sl_k K rfl) (pv 0) (q1f (pv 1)) (q1f (pv 4))) q0b)) q0b)))) (q0a (q0p q0j (pv 4) q0f) q0b)))))))),?_⟩;have hlen:=q0r l;refine⟨_,rfl,_,rfl,l,a,_,rfl,by lia,by lia,fun c hc hg1=>?_,fun hn=>?_⟩;rotate_left
  ·refine(x.no a ha (q6y ha (by intro z;cases z) fun c hc=>?_)).up;have hn':¬c∈D9:=hn c hc;show(if c=48 then some Sx.cls else if c∈D9 then some (Sx.sum 1) else none)=_;rw[if_neg (fun z=>hn' (by rw[z];decide +kernel)),if_neg hn']
  have hlt:=q5r hc;have hc9:c∈D9:=hg1;refine⟨_,rfl,_,rfl,?_⟩;refine⟨fun v H'=>H'=H/\((c=48/\v=.int 1)\/(c≠48/\v=.int 9)),?_,?_⟩;rotate_left
  ·refine⟨_,rfl,.inl ⟨rfl,_,rfl,?_⟩⟩;rw[lit1 c 48 "0" (by decide +kernel)];refine ite2 (fun h=>⟨rfl,.inl ⟨of_decide_eq_true h,rfl⟩⟩) (fun h=>⟨rfl,.inr ⟨fun z=>h (decide_eq_true z),rfl⟩⟩)
  rintro v H' ⟨rfl,hv⟩;obtain⟨most,rfl,hm⟩:∃most:Nat,v=.int (most:Int)/\((c=48/\most=1)\/(c≠48/\most=9)):=by
   rcases hv with⟨z,rfl⟩|⟨z,rfl⟩
   ·exact⟨1,rfl,.inl ⟨z,rfl⟩⟩
   ·exact⟨9,rfl,.inr ⟨z,rfl⟩⟩
  obtain⟨k,k1,k2,k3,k4⟩:=z6r D9 l a most ha;have kp:1<=k:=by
   rcases Jv k with z|z
   ·exfalso;subst z;rcases k4 with k4|k4|⟨c',c1,c2⟩
    ·lia
    ·lia
    ·rw[Nw,hc] at c1;cases c1;exact c2 hc9
   ·exact z
  refine⟨l,a,most,k,_,rfl,by lia,k2,k1,k3,k4,?_⟩;have st:∃s1,Stp l a (.sum 0) (a+k) s1/\s1≠.beh/\(∀c',l[a+k]?=some c'->nx s1 c'=if c'=125 then some .beh else none):=by
   rcases hm with⟨z,rfl⟩|⟨z,rfl⟩
   ·have ek:k=1:=by lia
    subst ek;refine⟨.cls,.one hc ?_,(by intro z;cases z),fun c' _=>rfl⟩;show(if c=48 then some Sx.cls else if c∈D9 then some (Sx.sum 1) else none)=_;rw[if_pos z]
   ·refine⟨.sum k,z6s k k1 kp k3 (fun c' h'=>by rw[hc] at h';cases h';exact z),(by intro z;cases z),fun c' hc'=>?_⟩;obtain⟨k',rfl⟩:∃k',k=k'+1:=⟨k-1,by lia⟩
    show(if c'∈D9/\k'+1≠9 then some (Sx.sum (k'+2)) else if c'=125 then some Sx.beh else none)=_;rw[if_neg];rintro⟨y1,y2⟩;rcases k4 with k4|k4|⟨c2,c1,c3⟩
    ·exact y2 k4
    ·have:=q5r hc';lia
    ·rw[hc'] at c1;cases c1;exact c3 y1
  obtain⟨s1,st1,ns1,nx1⟩:=st;refine⟨_,rfl,_,rfl,l,a+k,_,rfl,by lia,by lia,fun c2 hc2 hg2=>?_,fun hn=>?_⟩;rotate_left
  ·refine(x.no (a+k) (by lia) (.via st1 (q6y (by lia) ns1 fun c' hc'=>?_))).up;rw[nx1 c' hc',if_neg (fun z=>hn c' hc' (by rw[z];exact brace'))]
  have e2:=brace hg2;subst e2;have hlt2:=q5r hc2;have htl:((l.drop a).take k).length=k:=by rw[Bk,Bx];lia
  obtain⟨m,hm9,em,_⟩:=dg_of k _ htl kp (z3f k2 k3) (by
   rcases hm with⟨_,y⟩|⟨y,_⟩
   ·exact .inl (by lia)
   ·refine .inr fun c' h'=>?_;rw[Kt (by lia),Ge,Nw,hc] at h';cases h';exact y)
  have hm10:m<10^9:=Bb hm9 (Gu (by decide) (by rcases hm with⟨_,y⟩|⟨_,y⟩<;>lia));refine⟨_,rfl,_,rfl,_,rfl,_,rfl,_,rfl,_,rfl,.inl ⟨_,rfl,small (by lia),?_⟩⟩;rw[q4s (by lia) (by lia),show a+k-a=k from by lia,em];refine .inr ⟨_,_,rfl,z1q (by lia),by rw[q0r,<- em,htl];lia,by show 3<=sizeLine;decide,fun T1 hT1=>⟨_,rfl,.inl ⟨_,_,rfl,rfl,by show 2<=sizeLine;decide,fun T2 hT2=>?_⟩⟩⟩;have rt:=x.go (.more g m) (a+k+1) .beh ⟨hg,hm10⟩ (by lia) (by lia) (st1.trans (.one hc2 (by rw[nx1 125 hc2,if_pos rfl]))) (q3d hc2) ⟨(fun z=>by cases z),(fun z=>by cases z)⟩;exact rt.go (by show((a+k:Nat):Int)+1=((a+k+1:Nat):Int);lia) hT1 hT2
structure CallsG6 (P:Program) (w:World) (K:Af) (mg:Str->Option Value) (base:Heap) (Cn:Addr):Prop where
 asked:CalX P w K mg base "asked" 3 ["template", "at", "signs"] (spAskedX Cn)
 read_noughts:CalX P w K mg base "read_noughts" 4 ["template", "at", "gap"] (spNoughtsX Cn)
 read_more:CalX P w K mg base "read_more" 4 ["template", "at", "gap"] (spMoreX Cn)
 cases_:∃d,mg "CASES" = some (.ref d)/\KDict P w K d casesKV
theorem RX.step{H:Hp}{Q:VK}{E:XK}{Cn:Addr}{l:List Nat}{a c:Nat}{s s1:Sx}(x:RX H Q E Cn l a s)(h1:l[a]?=some c)(h2:nx s c=some s1):RX H Q E Cn l (a+1) s1 :=
 ⟨fun p e s' ok h3 h4 h5 h6 h7=>x.go p e s' ok (by lia) h4 (.step h1 h2 h5) h6 h7,fun i h3 h4=>x.no i h3 (.step h1 h2 h4)⟩
theorem RX.up{H:Hp}{Q:VK}{E:XK}{Cn:Addr}{l:List Nat}{a:Nat}{s:Sx}(x:RX H Q E Cn l a s):RX H Q (fun e _ H'=>∀ea,e=.ref ea->E (.ref ea) none H') Cn l a s :=
 ⟨x.go,fun i h1 h2=>(x.no i h1 h2).up⟩
theorem z9l:∀c,c∈tl (Ab "}ulz+")↔c=125\/c=117\/c=108\/c=122\/c=43:=fun c=>by
 rw[show tl (Ab "}ulz+")=[125,117,108,122,43] from by decide +kernel];simp
def spGapX(Cn:Addr):Sp:=fun vs H Q E=>∃(l:List Nat) (a g:Nat),vs=[.str (mk l),.int (a:Int),.int (g:Int)]/\l.length<=500/\a<=l.length/\(1<=g/\g<=9)/\RX H Q E Cn l a .gap
theorem z0v{Cn:Addr}(D:Df K mg "read_gap" q3a ["template", "at", "gap"])(T:Txt mg)(C:CallsG6 P w K mg base Cn):CalX P w K mg base "read_gap" 5 ["template", "at", "gap"] (spGapX Cn):=by
 refine D.calX sc_read_gap (fun vs H Q E h=>?_) (fun f cdv A outer s H vs Q E hr h=>?_)
 ·obtain⟨l,a,g,rfl,_⟩:=h;rfl
 ·obtain⟨l,a,g,rfl,hl,ha,hg,x⟩:=h;obtain⟨dC,g_CASES,k_CASES⟩:=C.cases_;refine⟨_,(q0c (q0k (i:=3) sc_read_gap.nd rfl (by trivial) (q1z C.asked hr accX (q0a (pv 0) (q0a (pv 1) (q0a q0g q0b))))) (q0c (q0v (q0h (eq_k K rfl hr) (pv 3) q0g (nomark _)) (q0e (q0m (q0o (q0a (q0o (q0a q0g (q0a (pv 2) q0b))) (q0a (q0p q0j (pv 1) q0f) q0b))))) q0i) (q0c (q0v (q0h (eq_k K rfl hr) (pv 3) q0g (nomark _)) (q0e (q0m (q1z C.read_noughts hr accX (q0a (pv 0) (q0a (q0p q0j (pv 1) q0f) (q0a (pv 2) q0b)))))) q0i) (q0c (q0v (q0h (eq_k K rfl hr) (pv 3) q0g (nomark _)) (q0e (q0m (q1z C.read_more hr accX (q0a (pv 0) (q0a (q0p q0j (pv 1) q0f) (q0a (pv 2) q0b)))))) q0i) (q0c (q0y (q1z C.asked hr accX (q0a (pv 0) (q0a (q0p q0j (pv 1) q0f) (q0a q0g q0b))))) (q0e (q0m (q0o (q0a (q0o (q0a (z5y (by rfl) g_CASES k_CASES (pv 3) (fun _ _=>rfl)) (q0a (pv 2) q0b))) (q0a (q0p q0j (pv 1) q0f) q0b)))))))))),?_⟩;have hnx:∀c,nx .gap c=if c=117\/c=108 then some Sx.cls else if c=122 then some Sx.nou else if c=43 then some (Sx.sum 0) else if c=125 then some Sx.beh else none:=fun c=>rfl
  refine⟨_,rfl,_,rfl,l,a,_,rfl,by lia,by lia,fun c hc hg1=>?_,fun hn=>?_⟩;rotate_left
  ·refine(x.no a ha (q6y ha (by intro z;cases z) fun c hc=>?_)).up;have hn':=hn c hc;rw[z9l] at hn';rw[hnx,if_neg (fun z=>hn' (.inr (z.elim .inl fun y=>.inr (.inl y)))),if_neg (fun z=>hn' (.inr (.inr (.inr (.inl z))))),if_neg (fun z=>hn' (.inr (.inr (.inr (.inr z))))),if_neg (fun z=>hn' (.inl z))]
  have hlt:=q5r hc;rw[z9l] at hg1;refine⟨_,rfl,.inl ⟨rfl,_,rfl,?_⟩⟩;rw[lit1 c 125 "}" (by decide +kernel)];refine ite2 (fun h=>?_) (fun h=>?_)
  ·have e:=of_decide_eq_true h;subst e;refine⟨_,rfl,by show 2<=sizeLine;decide,fun T1 hT1=>⟨_,rfl,.inl ⟨_,_,rfl,rfl,by show 2<=sizeLine;decide,fun T2 hT2=>?_⟩⟩⟩;have rt:=x.go (.gap g) (a+1) .beh hg (by lia) (by lia) (.one hc (by rw[hnx];rfl)) (q3d hc) ⟨(fun z=>by cases z),(fun z=>by cases z)⟩;exact rt.go (by show(a:Int)+1=((a+1:Nat):Int);lia) hT1 hT2
  have n1:c≠125:=fun z=>h (decide_eq_true z);refine⟨_,rfl,.inl ⟨rfl,_,rfl,?_⟩⟩;rw[lit1 c 122 "z" (by decide +kernel)];refine ite2 (fun h=>?_) (fun h=>?_)
  ·have e:=of_decide_eq_true h;subst e;exact⟨_,rfl,_,rfl,.inl ⟨_,_,rfl,rfl,_,rfl,l,a+1,g,rfl,hl,hlt,hg,(x.step hc (by rw[hnx];rfl)).up⟩⟩
  have n2:c≠122:=fun z=>h (decide_eq_true z);refine⟨_,rfl,.inl ⟨rfl,_,rfl,?_⟩⟩;rw[lit1 c 43 "+" (by decide +kernel)];refine ite2 (fun h=>?_) (fun h=>?_)
  ·have e:=of_decide_eq_true h;subst e;exact⟨_,rfl,_,rfl,.inl ⟨_,_,rfl,rfl,_,rfl,l,a+1,g,rfl,hl,hlt,hg,(x.step hc (by rw[hnx];rfl)).up⟩⟩
  have n3:c≠43:=fun z=>h (decide_eq_true z);have hul:c=117\/c=108:=by
   rcases hg1 with z|z|z|z|z
   ·exact absurd z n1
   ·exact .inl z
   ·exact .inr z
   ·exact absurd z n2
   ·exact absurd z n3
  have st1:Stp l a .gap (a+1) .cls:=.one hc (by rw[hnx,if_pos hul]);refine⟨_,rfl,_,rfl,.inl ⟨_,_,rfl,rfl,l,a+1,_,rfl,by lia,by lia,fun c2 hc2 hg2=>?_,fun hn=>(z1y x st1 (by lia) hn).up⟩⟩;have e2:=brace hg2;subst e2;have hlt2:=q5r hc2;rcases hul with e|e
  ·subst e;refine⟨_,rfl,Sum.inr (Ab "u"),.str (Ab "great"),congrArg V.str (by decide +kernel:mk [117]=Ab "u"),by decide +kernel,_,rfl,by show 2<=sizeLine;decide,fun T1 hT1=>⟨_,rfl,.inl ⟨_,_,rfl,rfl,by show 2<=sizeLine;decide,fun T2 hT2=>?_⟩⟩⟩;have rt:=x.go (.great g) (a+2) .beh hg (by lia) (by lia) (st1.trans (.one hc2 rfl)) (q3d hc2) ⟨(fun z=>by cases z),(fun z=>by cases z)⟩;exact rt.go (by show(a:Int)+2=((a+2:Nat):Int);lia) hT1 hT2
  ·subst e;refine⟨_,rfl,Sum.inr (Ab "l"),.str (Ab "small"),congrArg V.str (by decide +kernel:mk [108]=Ab "l"),by decide +kernel,_,rfl,by show 2<=sizeLine;decide,fun T1 hT1=>⟨_,rfl,.inl ⟨_,_,rfl,rfl,by show 2<=sizeLine;decide,fun T2 hT2=>?_⟩⟩⟩;have rt:=x.go (.small g) (a+2) .beh hg (by lia) (by lia) (st1.trans (.one hc2 rfl)) (q3d hc2) ⟨(fun z=>by cases z),(fun z=>by cases z)⟩;exact rt.go (by show(a:Int)+2=((a+2:Nat):Int);lia) hT1 hT2
structure CallsM6 (P:Program) (w:World) (K:Af) (mg:Str->Option Value) (base:Heap) (Cn:Addr):Prop where
 asked:CalX P w K mg base "asked" 3 ["template", "at", "signs"] (spAskedX Cn)
 read_count:CalX P w K mg base "read_count" 4 ["template", "at"] (spCountX Cn)
 read_gap:CalX P w K mg base "read_gap" 5 ["template", "at", "gap"] (spGapX Cn)
def spMarkX(Cn:Addr):Sp:=fun vs H Q E=>∃(l:List Nat) (a:Nat),vs=[.str (mk l),.int (a:Int)]/\l.length<=500/\a<=l.length/\RX H Q E Cn l a .opn
theorem q9c{Cn:Addr}(D:Df K mg "read_mark" q2p ["template", "at"])(T:Txt mg)(C:CallsM6 P w K mg base Cn):CalX P w K mg base "read_mark" 6 ["template", "at"] (spMarkX Cn):=by
 refine D.calX sc_read_mark (fun vs H Q E h=>?_) (fun f cdv A outer s H vs Q E hr h=>?_)
 ·obtain⟨l,a,rfl,_⟩:=h;rfl
 ·obtain⟨l,a,rfl,hl,ha,x⟩:=h;obtain⟨_,g_FROM_ONE⟩:=T.FROM_ONE;refine⟨_,(q0c (q0k (i:=2) sc_read_mark.nd rfl (by trivial) (q1z C.asked hr accX (q0a (pv 0) (q0a (pv 1) (q0a (q0p q0j q0g (q0t (v:=.str (Ab "123456789")) (by rfl) g_FROM_ONE ⟨_,rfl⟩)) q0b))))) (q0c (q0v (q0h (eq_k K rfl hr) (pv 2) q0g (nomark _)) (q0e (q0m (q1z C.read_count hr accX (q0a (pv 0) (q0a (q0p q0j (pv 1) q0f) q0b))))) q0i) (q0e (q0m (q1z C.read_gap hr accX (q0a (pv 0) (q0a (q0p q0j (pv 1) q0f) (q0a (q1a q1r (by rfl) T.b_int (by decide +kernel) (q0a (pv 2) q0b)) q0b)))))))),?_⟩;have e9:(Ab "n").length+(Ab "123456789").length<=1000:=by decide +kernel
  have hin:∀c,c∈tl (Ab "n" ++ Ab "123456789")↔c=110\/c∈D1:=fun c=>by
   rw[q1d,Bh,show tl (Ab "n")=[110] from by decide +kernel,Au];exact Iff.rfl
  have hnx:∀c,nx .opn c=if c=110 then some Sx.cnt else if c∈D1 then some Sx.gap else none:=fun c=>rfl
  refine⟨_,rfl,_,rfl,.inr (.inl ⟨_,_,rfl,rfl,TX.small (by lia),l,a,_,rfl,by lia,by lia,fun c hc hg=>?_,fun hn=>?_⟩)⟩;rotate_left
  ·refine(x.no a ha (q6y ha (by intro z;cases z) fun c hc=>?_)).up;have:=hn c hc;rw[hin] at this;rw[hnx,if_neg (fun z=>this (.inl z)),if_neg (fun z=>this (.inr z))]
  have hlt:=q5r hc;refine⟨_,rfl,.inl ⟨rfl,_,rfl,?_⟩⟩;rw[lit1 c 110 "n" (by decide +kernel)];refine ite2 (fun h=>?_) (fun h=>?_)
  ·have e:=of_decide_eq_true h;subst e;exact⟨_,rfl,_,rfl,.inl ⟨_,_,rfl,rfl,l,a+1,rfl,hl,hlt,(x.step hc (by rw[hnx,if_pos rfl])).up⟩⟩
  ·have n1:c≠110:=fun z=>h (decide_eq_true z);have hc1:=((hin c).mp hg).resolve_left n1;have x1:=x.step hc (by rw[hnx,if_neg n1,if_pos hc1]);obtain⟨v,rfl,hv1,hv9⟩:=dig hc1;exact⟨_,rfl,_,rfl,.inl ⟨_,_,rfl,rfl,_,rfl,.inr ⟨_,_,rfl,q7t (by lia),by rw[q0r];show 1<=640;decide,l,a+1,v,rfl,hl,hlt,⟨hv1,hv9⟩,x1.up⟩⟩⟩
def spIntoX(Cn:Addr):Sp:=fun vs H Q E=>∃(l:List Nat) (a:Nat) (s:Sx),vs=[.str (mk l),.int (a:Int)]/\l.length<=500/\l[a]?=some 47/\Prev l a s/\RX H Q E Cn l a s
theorem nx47{s:Sx}{l:List Nat}{a:Nat}(p:Prev l a s):(s=.beh->nx s 47=some .into)/\(s≠.beh->nx s 47=none):=by
 rcases p with⟨rfl,_⟩|⟨rfl,_⟩|⟨rfl,_⟩
 ·refine⟨(fun z=>by cases z),fun _=>?_⟩;show(if 47∈NS then some Sx.beh else if 47=123 then some Sx.opn else none)=_;rw[if_neg no47,if_neg (by decide)]
 ·refine⟨(fun z=>by cases z),fun _=>?_⟩;show(if 47∈NS then some Sx.beh else if 47=123 then some Sx.opn else none)=_;rw[if_neg no47,if_neg (by decide)]
 ·refine⟨fun _=>?_,fun z=>absurd rfl z⟩;show(if 47∈NS then some Sx.beh else if 47=123 then some Sx.opn else if 47=47 then some Sx.into else none)=_;rw[if_neg no47,if_neg (by decide),if_pos rfl]
theorem q9d{Cn:Addr}(D:Df K mg "read_into" q2o ["template", "at"])(T:Txt mg)(C:CallsN P w K mg base Cn):CalX P w K mg base "read_into" 3 ["template", "at"] (spIntoX Cn):=by
 refine D.calX q5l (fun vs H Q E h=>?_) (fun f cdv A outer s H vs Q E hr h=>?_)
 ·obtain⟨l,a,s,rfl,_⟩:=h;rfl
 ·obtain⟨l,a,st,rfl,hl,hc,pvv,x⟩:=h;refine⟨_,(q0c (q0v (pt_j (@PW.pt _ _ _ (q4d (q0h (eq_k K rfl hr) (pv 1) q0f (nomark _)) (q3e (q0h (eq_k K rfl hr) (q0x (ix_k K rfl) (pv 0) (q0p q3t (pv 1) q0f) (fun _ _=>rfl)) q0g (nomark _)))))) (q0e (z6d C.e_NoTemplate hr accX rfl (q0a (pv 1) q0b))) q0i) (q0e (q0m (q0o (q0a (q0o (q0a q0g q0b)) (q0a (q0p q0j (pv 1) q0f) q0b)))))),?_⟩;have hlen:=q0r l;have hlt:=q5r hc;refine⟨fun b H'=>H'=H/\(b=true↔st≠.beh),?_,?_⟩;rotate_left
  ·refine⟨_,rfl,.inl ⟨rfl,_,rfl,?_⟩⟩;rcases pvv with⟨rfl,rfl⟩|⟨rfl,ha,hp⟩|⟨rfl,ha,c,hp,hn⟩
   ·exact iteT ⟨rfl,(fun _ z=>by cases z),fun _=>rfl⟩
   ·rw[decide_eq_false (by intro z;injection z with z;lia)];refine iteF ⟨_,rfl,_,rfl,_,_,rfl,rfl,.inr (.inr ⟨mk l,_,47,rfl,rfl,TX.small (by lia),?_,.inl ⟨rfl,_,rfl,rfl,?_⟩⟩)⟩
    ·rw[show((a:Nat):Int)-1=((a-1:Nat):Int) from by lia];exact q1t (show(tl (mk l))[a-1]?=_ by rw[q0z];exact hp)
    ·show decide (V.str (mk [47])=V.str (Ab "/"))=true↔_;rw[lit1 47 47 "/" (by decide +kernel),decide_eq_true rfl];exact⟨(fun _ z=>by cases z),fun _=>rfl⟩
   ·rw[decide_eq_false (by intro z;injection z with z;lia)];refine iteF ⟨_,rfl,_,rfl,_,_,rfl,rfl,.inr (.inr ⟨mk l,_,c,rfl,rfl,TX.small (by lia),?_,.inl ⟨rfl,_,rfl,rfl,?_⟩⟩)⟩
    ·rw[show((a:Nat):Int)-1=((a-1:Nat):Int) from by lia];exact q1t (show(tl (mk l))[a-1]?=_ by rw[q0z];exact hp)
    ·show decide (V.str (mk [c])=V.str (Ab "/"))=true↔_;rw[lit1 c 47 "/" (by decide +kernel),decide_eq_false hn];exact⟨(fun z=>by cases z),fun z=>absurd rfl z⟩
  rintro b H' ⟨rfl,hb⟩;refine iteB (fun h=>?_) (fun h=>?_)
  ·refine⟨_,rfl,fun ea hea=>⟨ea,_,rfl,q0d,⟨a,rfl,by lia⟩,fun d hd hne=>⟨rfl,?_⟩⟩⟩;obtain⟨dd,r1,r2⟩:=raised1 (f := "at") (v:=.int ((a:Nat):Int)) hd hne;refine⟨dd,r1,x.no a (by lia) ⟨st,.refl,.inr ⟨47,hc,?_⟩⟩ ea _ (q2k (Same.refl H') hea hd) hea r2⟩;exact(nx47 pvv).2 (hb.mp h)
  ·have hs:st=.beh:=Cv fun z=>by rw[hb.mpr z] at h;cases h
   refine⟨by show 1<=sizeLine;decide,fun T1 hT1=>⟨_,rfl,.inl ⟨_,_,rfl,rfl,by show 2<=sizeLine;decide,fun T2 hT2=>?_⟩⟩⟩;have rt:=x.go .into (a+1) .into trivial (by lia) (by lia) (.one hc ((nx47 pvv).1 hs)) (.inr (.inl ⟨rfl,by lia,by rw[Ju];exact hc⟩)) ⟨fun _=>rfl,fun _=>rfl⟩;exact rt.go (by show(a:Int)+1=((a+1:Nat):Int);lia) hT1 hT2
theorem Prev.three{l:List Nat}{a:Nat}{s:Sx}(p:Prev l a s):s=.beg\/s=.into\/s=.beh:=by
 rcases p with⟨z,_⟩|⟨z,_⟩|⟨z,_⟩
 ·exact .inl z
 ·exact .inr (.inl z)
 ·exact .inr (.inr z)
theorem z8l{s:Sx}{c:Nat}(h:s=.beg\/s=.into\/s=.beh)(hc:c∈NS):nx s c=some .beh:=by
 rcases h with rfl|rfl|rfl
 ·exact if_pos hc
 ·exact if_pos hc
 ·exact if_pos hc
theorem z9m{l:List Nat}{a:Nat}{s:Sx}(hs:s=.beg\/s=.into\/s=.beh):∀(k:Nat),1<=k->(∀j,j<k->∃c,l[a+j]?=some c/\c∈NS)->Stp l a s (a+k) .beh
 |0,h,_=>absurd h (by decide)
 |1,_,h=>by
  obtain⟨c,c1,c2⟩:=h 0 (by decide);exact .one c1 (z8l hs c2)
 |k+2,_,h=>by
  refine(z9m hs (k+1) (by lia) fun j hj=>h j (by lia)).trans ?_;obtain⟨c,c1,c2⟩:=h (k+1) (by lia);exact .one c1 (z8l (.inr (.inr rfl)) c2)
def spTextX(Cn:Addr):Sp:=fun vs H Q E=>∃(l:List Nat) (a c0:Nat) (s:Sx),vs=[.str (mk l),.int (a:Int)]/\l.length<=500/\l[a]?=some c0/\c0≠47/\c0≠123/\Prev l a s/\RX H Q E Cn l a s
theorem q9e{Cn:Addr}(D:Df K mg "read_text" q2n ["template", "at"])(T:Txt mg)(C:CallsA6 P w K mg base Cn):CalX P w K mg base "read_text" 4 ["template", "at"] (spTextX Cn):=by
 refine D.calX sc_read_text (fun vs H Q E h=>?_) (fun f cdv A outer s H vs Q E hr h=>?_)
 ·obtain⟨l,a,c0,s,rfl,_⟩:=h;rfl
 ·obtain⟨l,a,c0,st,rfl,hl,hc0,n47,n123,pvv,x⟩:=h;obtain⟨_,g_NAME_SIGNS⟩:=T.NAME_SIGNS;refine⟨_,(q0c (q0y (q1z C.asked hr accX (q0a (pv 0) (q0a (pv 1) (q0a (q0t (v:=.str (Ab "abcdefghijklmnopqrstuvwxyzABCDEFGHIJKLMNOPQRSTUVWXYZ0123456789-_.")) (by rfl) g_NAME_SIGNS ⟨_,rfl⟩) q0b))))) (q0c (q0k (i:=2) sc_read_text.nd rfl (by trivial) (pe_c C.end_of hr (q0a (pv 0) (q0a (pv 1) (q0a (q0t (v:=.str (Ab "abcdefghijklmnopqrstuvwxyzABCDEFGHIJKLMNOPQRSTUVWXYZ0123456789-_.")) (by rfl) g_NAME_SIGNS ⟨_,rfl⟩) (q0a (q0n (q1q K rfl) (by rfl) T.b_len Ax (q0a (pv 0) q0b)) q0b)))))) (q0e (q0m (q0o (q0a (q0o (q0a q0g (q0a (q1n (sl_k K rfl) (pv 0) (q1f (pv 1)) (q1f (pv 2))) q0b))) (q0a (pv 2) q0b))))))),?_⟩;have hlen:=q0r l;have hlt:=q5r hc0;refine⟨_,rfl,_,rfl,l,a,_,rfl,by lia,by lia,fun c hc hg=>?_,fun hn=>?_⟩;rotate_left
  ·refine(x.no a (by lia) ⟨st,.refl,.inr ⟨c0,hc0,?_⟩⟩).up;have hn':¬c0∈NS:=hn c0 hc0;rcases pvv.three with rfl|rfl|rfl
   ·show(if c0∈NS then some Sx.beh else if c0=123 then some Sx.opn else none)=_;rw[if_neg hn',if_neg n123]
   ·show(if c0∈NS then some Sx.beh else if c0=123 then some Sx.opn else none)=_;rw[if_neg hn',if_neg n123]
   ·show(if c0∈NS then some Sx.beh else if c0=123 then some Sx.opn else if c0=47 then some Sx.into else none)=_;rw[if_neg hn',if_neg n123,if_neg n47]
  have hcN:c∈NS:=hg;obtain⟨k,k1,k2,k3,k4⟩:=z6r NS l a l.length (by lia);have kp:1<=k:=by
   rcases Jv k with z|z
   ·exfalso;subst z;rcases k4 with k4|k4|⟨c',c1,c2⟩
    ·lia
    ·lia
    ·rw[Nw,hc] at c1;cases c1;exact c2 hcN
   ·exact z
  refine⟨_,rfl,_,rfl,_,rfl,_,_,rfl,⟨TX.small (by lia),rfl⟩,?_⟩;refine⟨l,a,l.length,k,_,by rw[hlen];rfl,by lia,k2,k1,k3,k4,?_⟩;refine⟨_,rfl,_,rfl,_,rfl,_,rfl,_,rfl,.inl ⟨_,rfl,TX.small (by lia),?_⟩⟩;rw[q4s (by lia) (by lia),show a+k-a=k from by lia];refine⟨by show 2<=sizeLine;decide,fun T1 hT1=>⟨_,rfl,by show 2<=sizeLine;decide,fun T2 hT2=>?_⟩⟩;have htl:((l.drop a).take k).length=k:=by rw[Bk,Bx];lia
  have rt:=x.go (.tx ((l.drop a).take k)) (a+k) .beh ⟨fun z=>by rw[z] at htl;simp at htl;lia,z3f k2 k3⟩ (by lia) (by lia) (z9m pvv.three k kp k3) (by
   obtain⟨c',c1,c2⟩:=k3 (k-1) (by lia);exact .inr (.inr ⟨rfl,by lia,c',by rw[show a+k-1=a+(k-1) from by lia];exact c1,ns47 c' c2⟩)) ⟨(fun z=>by cases z),(fun z=>by cases z)⟩
  exact rt.go rfl hT1 hT2
structure CallsP6 (P:Program) (w:World) (K:Af) (mg:Str->Option Value) (base:Heap) (Cn:Addr):Prop where
 read_mark:CalX P w K mg base "read_mark" 6 ["template", "at"] (spMarkX Cn)
 read_into:CalX P w K mg base "read_into" 3 ["template", "at"] (spIntoX Cn)
 read_text:CalX P w K mg base "read_text" 4 ["template", "at"] (spTextX Cn)
theorem nx123{s:Sx}(h:s=.beg\/s=.into\/s=.beh):nx s 123=some .opn:=by
 rcases h with rfl|rfl|rfl
 ·show(if 123∈NS then some Sx.beh else if 123=123 then some Sx.opn else none)=_;rw[if_neg no123,if_pos rfl]
 ·show(if 123∈NS then some Sx.beh else if 123=123 then some Sx.opn else none)=_;rw[if_neg no123,if_pos rfl]
 ·show(if 123∈NS then some Sx.beh else if 123=123 then some Sx.opn else if 123=47 then some Sx.into else none)=_;rw[if_neg no123,if_pos rfl]
def spPieceX(Cn:Addr):Sp:=fun vs H Q E=>∃(l:List Nat) (a:Nat) (s:Sx),vs=[.str (mk l),.int (a:Int)]/\l.length<=500/\a<l.length/\Prev l a s/\RX H Q E Cn l a s
theorem q7f{Cn:Addr}(D:Df K mg "read_piece" q2i ["template", "at"])(T:Txt mg)(C:CallsP6 P w K mg base Cn):CalX P w K mg base "read_piece" 7 ["template", "at"] (spPieceX Cn):=by
 refine D.calX q4y (fun vs H Q E h=>?_) (fun f cdv A outer s H vs Q E hr h=>?_)
 ·obtain⟨l,a,s,rfl,_⟩:=h;rfl
 ·obtain⟨l,a,st,rfl,hl,ha,pvv,x⟩:=h;refine⟨_,(q0c (q0v (q0h (eq_k K rfl hr) (q0x (ix_k K rfl) (pv 0) (pv 1) (fun _ _=>rfl)) q0g (nomark _)) (q0e (q0m (q1z C.read_mark hr accX (q0a (pv 0) (q0a (q0p q0j (pv 1) q0f) q0b))))) q0i) (q0c (q0v (q0h (eq_k K rfl hr) (q0x (ix_k K rfl) (pv 0) (pv 1) (fun _ _=>rfl)) q0g (nomark _)) (q0e (q0m (q1z C.read_into hr accX (q0a (pv 0) (q0a (pv 1) q0b))))) q0i) (q0e (q0m (q1z C.read_text hr accX (q0a (pv 0) (q0a (pv 1) q0b))))))),?_⟩;have hlen:=q0r l;obtain⟨c,hc⟩:∃c,l[a]?=some c:=⟨_,Ap ha⟩
  have hat:atI (tl (mk l)) ((a:Nat):Int)=some c:=q1t (by rw[q0z];exact hc);refine⟨_,rfl,_,rfl,.inr (.inr ⟨mk l,_,c,rfl,rfl,TX.small (by lia),hat,.inl ⟨rfl,_,rfl,?_⟩⟩)⟩;show if decide (V.str (mk [c])=V.str (Ab "{"))=true then _ else _
  rw[lit1 c 123 "{" (by decide +kernel)];refine ite2 (fun h=>?_) (fun h=>?_)
  ·have e:=of_decide_eq_true h;subst e;exact⟨_,rfl,_,rfl,.inl ⟨_,_,rfl,rfl,l,a+1,rfl,hl,ha,(x.step hc (nx123 pvv.three)).up⟩⟩
  have n1:c≠123:=fun z=>h (decide_eq_true z);refine⟨_,rfl,_,rfl,.inr (.inr ⟨mk l,_,c,rfl,rfl,TX.small (by lia),hat,.inl ⟨rfl,_,rfl,?_⟩⟩)⟩;show if decide (V.str (mk [c])=V.str (Ab "/"))=true then _ else _
  rw[lit1 c 47 "/" (by decide +kernel)];refine ite2 (fun h=>?_) (fun h=>?_)
  ·have e:=of_decide_eq_true h;subst e;exact⟨_,rfl,_,rfl,l,a,st,rfl,hl,hc,pvv,x.up⟩
  have n2:c≠47:=fun z=>h (decide_eq_true z);exact⟨_,rfl,_,rfl,l,a,c,st,rfl,hl,hc,n2,n1,pvv,x.up⟩
structure CallsQ6 (P:Program) (w:World) (K:Af) (mg:Str->Option Value) (base:Heap) (Cn:Addr):Prop where
 e_NoTemplate:CalE P w K mg base "NoTemplate" Cn 1 ["self", "at"] (spIni1 Cn "at")
 read_piece:CalX P w K mg base "read_piece" 7 ["template", "at"] (spPieceX Cn)
def spPiecesX(Cn:Addr):Sp:=fun vs H Q E=>∃(l:List Nat),vs=[.str (mk l)]/\l.length<=500/\(Stp l 0 .beg l.length .beh->∀L H',H L=none->Same H H'->Q (.ref L) H')/\(∀i,i<=l.length->Refu l 0 .beg i->RE H E Cn i)
structure PoI (H:Hp) (L:Addr) (l:List Nat) (H3:Hp) (a:Nat) (s:Sx) (ps:List Pc):Prop where
 sm:Same H H3
 hp:HP H3 L ps
 ok:∀p∈ps,Pc.ok p
 le:a<=l.length
 few:ps.length<=a
 st:Stp l 0 .beg a s
 pr:Prev l a s
 nil:a=0↔ps=[]
 la:s=.into↔ps.getLast?=some .into
theorem x1h{p:Pc}(h:p.ok):Fl (.tuple p.ds) (.tuple [.str (Ab "into")])=true↔p=.into:=by
 by_cases z:p=.into
 ·subst z;exact⟨fun _=>rfl,fun _=>SeqAt.eqv_refl _ (Pc.lay (p:=.into) trivial)⟩
 ·rw[q8x z];exact⟨(fun y=>by cases y),fun y=>absurd y z⟩
theorem q9f{Cn:Addr}(D:Df K mg "pieces_of" q2q ["template"])(T:Txt mg)(C:CallsQ6 P w K mg base Cn):CalX P w K mg base "pieces_of" 8 ["template"] (spPiecesX Cn):=by
 refine D.calX sc_pieces_of (fun vs H Q E h=>?_) (fun f cdv A outer s H vs Q E hr h=>?_)
 ·obtain⟨l,rfl,_⟩:=h;rfl
 ·obtain⟨l,rfl,hl,k,kE⟩:=h;refine⟨_,(q0c (q0k (i:=1) sc_pieces_of.nd rfl (by trivial) (q1b q0b)) (q0c (q0k (i:=2) sc_pieces_of.nd rfl (by trivial) q0f) (q0c (q7x passDef (q0h q6c (pv 2) (q0n (q1q K rfl) (by rfl) T.b_len Ax (q0a (pv 0) q0b)) (nomark _)) (q0c (q4e (q1z C.read_piece hr accX (q0a (pv 0) (q0a (pv 2) q0b))) (@q2f _ _ _ _ (2) _ K rfl rfl (q0u (q0s (i:=3) sc_pieces_of.nd rfl (by trivial)) (q0u (q0s (i:=2) sc_pieces_of.nd rfl (by trivial)) q1o)) (by rfl) (by rfl))) (q0e (q0y (@bm_k _ _ _ _ _ _ _ _ _ _ _ _ K rfl Bc Bv Bw q1j (pv 1) (q0a (pv 3) q0b) (by rfl) (by rfl) (by rfl) (by rfl) (by rfl)))))) (q0c (q0v (pt_j (@PW.pt _ _ _ (q4d (q0h (eq_k K rfl hr) (pv 1) (q1b q0b) (nomark _)) (q3e (q0h (eq_k K rfl hr) (q0x (ix_k K rfl) (pv 1) (q7z q4g q0f) (fun _ _=>rfl)) (q0o (q0a q0g q0b)) (nomark _)))))) (q0e (z6d C.e_NoTemplate hr accX rfl (q0a (q0n (q1q K rfl) (by rfl) T.b_len Ax (q0a (pv 0) q0b)) q0b))) q0i) (q0e (q0m (pv 1))))))),?_⟩;have hlen:=q0r l;refine⟨by show 0<=sizeLine;decide,fun L hL=>?_⟩;refine q7y (fun σ3 H3=>∃(a:Nat) (st:Sx) (ps:List Pc) (x3:Option V),σ3=[some (.str (mk l)),some (.ref L),some (.int ((a:Nat):Int)),x3]/\PoI H L l H3 a st ps) (fun σ3 _=>pcMeas (l.length+1) σ3)
   ⟨0,.beg,[],none,rfl,(Same.refl H).new hL,⟨[],q0d,.nil⟩,(fun _ h=>nomatch h),Bg _,Bg _,.refl,.inl ⟨rfl,rfl⟩,⟨fun _=>rfl,fun _=>rfl⟩,⟨(fun z=>by cases z),(fun z=>by cases z)⟩⟩ ?_ ?_
  ·rintro σ3 H3 ⟨a,st,ps,x3,rfl,I⟩;refine⟨_,rfl,_,rfl,_,_,rfl,⟨TX.small (by lia),rfl⟩,_,_,rfl,rfl,_,rfl,?_⟩;refine ite2 (fun h=>?_) (fun h=>?_)
   ·have h1:=of_decide_eq_true h;have ha:a<l.length:=by lia
    refine⟨_,rfl,_,rfl,l,a,st,rfl,hl,ha,I.pr,⟨fun p e s' okp hae hel stp prv hin T1 T2 H4 hT1 hT2 sm4 h41 h42=>?_,fun i hi hr=>(((kE i hi (.via I.st hr)).same I.sm).up)⟩⟩;refine⟨T2,_,rfl,SqT.of h42,rfl,_,_,rfl,_,_,rfl,rfl,?_⟩;have hp4:=I.hp.same sm4;obtain⟨Ts,a1,a2⟩:=hp4.ex;have hTl:=a2.len;have hfew:=I.few;refine⟨_,rfl,.inl ⟨rfl,hp4.sq⟩,_,rfl,L,_,_,rfl,rfl,a1,by rw[Ai];exact TX.small' (by lia),?_⟩;have hTL:T1≠L:=fun z=>by subst z;rw[a1] at h41;cases h41
    refine⟨⟨e,s',ps++[p],some (.ref T1),rfl,(I.sm.trans sm4).put hL,⟨Ts++[T1],by rw[Bi];exact q0d,?_⟩,fun q hq=>?_,hel,by rw[Ae,Aq];lia,I.st.trans stp,prv,⟨(fun z=>by lia),(fun z=>by simp at z)⟩,?_⟩,?_⟩
    ·refine PTu.snoc (by rw[q0l hTL];exact h41) (a2.keep fun Tx xs e=>?_);rw[q0l (fun z=>by subst z;rw[a1] at e;cases e)];exact e
    ·rcases Bh.mp hq with hq|hq
     ·exact I.ok q hq
     ·rw[Au.mp hq];exact okp
    ·rw[hin,Mv];exact⟨(fun z=>by rw[z]),(fun z=>by injection z)⟩
    ·show l.length+1-((e:Nat):Int).toNat<l.length+1-((a:Nat):Int).toNat;lia
   ·have h1:¬((a:Nat):Int)<(((mk l).length:Nat):Int):=fun z=>h (decide_eq_true z);have hle:=I.le;have ea:a=l.length:=by lia
    subst ea;refine⟨fun b H'=>Same H3 H'/\(b=true↔st≠.beh),?_,?_⟩
    ·rintro b H' ⟨sm',hb⟩;refine iteB (fun hb1=>?_) (fun hb0=>?_)
     ·refine⟨_,rfl,_,_,rfl,⟨TX.small (by lia),rfl⟩,fun ea hea=>⟨ea,_,rfl,q0d,⟨l.length,by rw[hlen],by lia⟩,fun d hd hne=>⟨rfl,?_⟩⟩⟩;obtain⟨dd,r1,r2⟩:=raised1 (f := "at") (v:=.int (((mk l).length:Nat):Int)) hd hne;rw[hlen] at r2;refine⟨dd,by rw[hlen] at r1 ⊢;exact r1,?_⟩;have:=kE l.length (Ah _) ⟨st,I.st,.inl ⟨rfl,hb.mp hb1⟩⟩ ea _ (q2k (I.sm.trans sm') hea hd) ((I.sm.trans sm').free hea) r2;rw[hlen];exact this
     ·have hs:st=.beh:=Cv fun z=>by rw[hb.mpr z] at hb0;cases hb0
      have ist:=I.st;rw[hs] at ist;exact⟨_,rfl,k ist L H' hL (I.sm.trans sm')⟩
    ·refine⟨_,rfl,by show 0<=sizeLine;decide,fun E0 hE0=>?_⟩;have smE:Same H3 (upd H3 E0 (.lst [])):=(Same.refl H3).new hE0;have hpE:=I.hp.same smE;obtain⟨Us,b1,b2⟩:=hpE.ex;refine .inr ⟨_,_,.lst (SqL.of b1) b2.dts,.lst (SqL.of q0d) .nil,lays I.ok,rfl,?_,_,rfl,?_⟩
     ·refine Aw (Dm _ _) ?_;decide +kernel
     by_cases hne:ps=[]
     ·have h0:=I.nil.mpr hne;subst hne;have hs:st=.beg:=by
       rcases I.pr with⟨z,_⟩|⟨_,z,_⟩|⟨_,z,_⟩
       ·exact z
       ·lia
       ·lia
      have e1:Fl (.list (([]:List Pc).map fun p=>PyData.tuple p.ds)) (.list [])=true:=by simp[Fl,Na]
      rw[e1];exact iteT ⟨smE,⟨(fun _ z=>by rw[hs] at z;cases z),fun _=>rfl⟩⟩
     rw[q8y hne];refine iteF ?_;obtain⟨qs,q,hqs⟩:∃qs q,ps=qs++[q]:=⟨ps.dropLast,ps.getLast hne,(Bq hne).symm⟩
     have hUl:=b2.len;have hUne:Us≠[]:=fun z=>by rw[z] at hUl;rw[hqs] at hUl;simp at hUl
     have hUs:=(Bq hUne).symm;have hlast:Us[ps.length-1]?=some (Us.getLast hUne):=by rw[<- hUl];simp[Lc]
     obtain⟨q',hq1,hq2⟩:=b2.get hlast;have eq':q'=q:=by rw[hqs] at hq1;simp at hq1;exact hq1.symm
     subst eq';have hix:atI (Us.map V.ref) (-1)=some (.ref (Us.getLast hUne)):=by
      have:=q5v Us.dropLast (Us.getLast hUne)
      rwa [<- hUs] at this
     refine⟨_,rfl,_,rfl,.inl ⟨L,_,-1,_,rfl,rfl,SqL.of b1,hix,by show 1<=sizeLine;decide,fun T3 hT3=>?_⟩⟩;have sm3:Same (upd H3 E0 (.lst [])) (upd (upd H3 E0 (.lst [])) T3 (.tup [.str (Ab "into")])):=(Same.refl _).new hT3;have okq:=I.ok q' (by rw[hqs];simp);refine .inr ⟨_,_,.tup (SqT.of (sm3 _ _ hq2)) (Pc.dts _),.tup (SqT.of q0d) (.cons (.str _) .nil),Pc.lay okq,by decide +kernel,?_,_,rfl,smE.trans sm3,?_⟩
     ·refine Aw (Dm _ _) ?_;decide +kernel
     rw[x1h okq];have hla:=I.la;rw[hqs,Mv] at hla;have h00:l.length≠0:=fun z=>hne (I.nil.mp z);rcases I.pr with⟨_,z⟩|⟨rfl,_⟩|⟨rfl,_⟩
     ·exact absurd z h00
     ·exact⟨(fun _ z=>by cases z),(fun _=>by have:=hla.mp rfl;injection this)⟩
     ·exact⟨(fun z=>by rw[z] at hla;have:=hla.mpr rfl;cases this),fun z=>absurd rfl z⟩
  ·intro σ H Q Q' hq hw;obtain⟨x,e1,y,e2,n',z,e3,e4,a',b',e5,e6,c',e7,hh⟩:=hw;exact⟨x,e1,y,e2,n',z,e3,e4,a',b',e5,e6,c',e7,hq _ _ hh⟩
def Rul(Cr:Addr)(H:Hp)(E:XK):Prop:=∀ea H',Same H H'->H ea=none->H' ea=some (ExO (.ref Cr) none ea)->E (.ref ea) none H'
theorem Rul.same{H H1:Hp}{E:XK}{Cr:Addr}(h:Rul Cr H E)(s:Same H H1):Rul Cr H1 E:=fun ea H' sm hea r=>h ea H' (s.trans sm) (s.free hea) r
theorem Rul.up{H:Hp}{E:XK}{Cr:Addr}(h:Rul Cr H E):Rul Cr H (fun e _ H'=>∀ea,e=.ref ea->E (.ref ea) none H'):=fun ea H' sm hea r ea' ez=>by
 cases ez;exact h ea H' sm hea r
theorem Rul.go{H:Hp}{E:XK}{Cr:Addr}(h:Rul Cr H E){ea:Addr}(hea:H ea=none):E (.ref ea) none (upd (upd H ea (ExN (.ref Cr) none ea)) ea (ExO (.ref Cr) none ea)) :=
 h ea _ (fun b o e=>by
  have n:b≠ea:=fun z=>by rw[z,hea] at e;cases e
  rw[q0l n,q0l n];exact e) hea q0d
def Bdp(kd:Str)(gs:List Nat)(p:Pc):Prop:=(∃k,gapNo p=some k/\(gs.length<k\/(k<=gs.length/\isMo p=true/\gs[k-1]?≠some 35)))\/(p=.into/\kd≠Ab "slip")
theorem z3g{p:Pc}{k:Nat}(h:p.ok)(g:gapNo p=some k):1<=k/\k<=9:=by
 cases p<;>cases g
 ·exact h
 ·exact h
 ·exact h
 ·exact h.1
 ·exact h.1
theorem ask_or(kd:Str)(gs:List Nat){p:Pc}(h:p.ok):AskOk kd gs p\/Bdp kd gs p:=by
 by_cases hb:Bdp kd gs p
 ·exact .inr hb
 refine .inl ⟨fun k hk=>⟨(z3g h hk).1,Ie fun z=>hb (.inl ⟨k,hk,.inl z⟩)⟩,fun k m e=>Cv fun z=>?_,fun e=>Cv fun z=>hb (.inr ⟨e,z⟩)⟩;have hk:gapNo p=some k:=by rw[e];rfl
 by_cases hl:k<=gs.length
 ·exact hb (.inl ⟨k,hk,.inr ⟨hl,by rw[e];rfl,z⟩⟩)
 ·exact hb (.inl ⟨k,hk,.inl (by lia)⟩)
structure CallsG7 (K:Af) (mg:Str->Option Value) (Cr Dn:Addr):Prop where
 f_NoRule:ELaw0 K Cr Dn
 g_NoRule:mg "NoRule" = some (.ref Cr)
def spAskGapX(Cr:Addr):Sp:=fun vs H _ E=>∃T G p k gs,vs=[.ref T,.ref G]/\H T=some (.tup p.vs)/\gapNo p=some k/\1<=k/\k<=9/\H G=some (.lst (vG gs))/\gs.length<=3000/\(gs.length<k\/(k<=gs.length/\isMo p=true/\gs[k-1]?≠some 35))/\Rul Cr H E
theorem z1z{Cr Dn:Addr}(D:Df K mg "ask_gap" q3r ["piece", "gap_signs"])(T:Txt mg)(C:CallsG7 K mg Cr Dn):CalX P w K mg base "ask_gap" 1 ["piece", "gap_signs"] (spAskGapX Cr):=by
 refine D.calX sc_ask_gap (fun vs H Q E h=>?_) (fun f cdv A outer s H vs Q E hr h=>?_)
 ·obtain⟨T1,G,p,k,gs,rfl,_⟩:=h;rfl
 ·obtain⟨T1,G,p,n,gs,rfl,hT,hg,hn1,hn9,hG,hgl,hb,k⟩:=h;refine⟨_,(q0c (q0k (i:=2) sc_ask_gap.nd rfl (by trivial) (q0x (ix_k K rfl) (pv 0) q0f (fun _ _=>rfl))) (q0c (q0k (i:=3) sc_ask_gap.nd rfl (by trivial) (q0x (ix_k K rfl) (pv 0) q0f (fun _ _=>rfl))) (q0c (q0v (q0h q3v (pv 3) (q0n (q1q K rfl) (by rfl) T.b_len Ax (q0a (pv 1) q0b)) (nomark _)) (q0e (q3j C.f_NoRule accX rfl C.g_NoRule (q0a (q8n q6r (z2z (pv 3)) q8o) q0b))) q0i) (q0e (q0v (pt_j (@PW.pt _ _ _ (q1p (q0h (eq_k K rfl hr) (pv 2) q0g (nomark _)) (q1l (q0h (ne_k K rfl hr) (q0x (ix_k K rfl) (pv 1) (q0p q3t (pv 3) q0f) (fun _ _=>rfl)) q0g (nomark _)))))) (q0e (q3j C.f_NoRule accX rfl C.g_NoRule (q0a (q8n q6r (z2z (pv 3)) (q8p q6r q8o)) q0b))) q0i))))),?_⟩;have ln:=q4t 12 n (by lia);have l1:(Ab "there is no gap ").length<=100:=by decide +kernel
  have l2:(Ab "gap ").length<=100:=by decide +kernel
  have l3:(Ab " is no number").length<=100:=by decide +kernel
  have l0:Lg.length=0:=by decide +kernel
  have e1:(Ab (toString (n:Int))).length<=13:=by rw[z3y,q0r];exact ln
  refine⟨_,rfl,.inr (.inl ⟨T1,_,0,_,rfl,rfl,SqT.of hT,pw0 p,?_⟩)⟩;refine⟨_,rfl,.inr (.inl ⟨T1,_,1,_,rfl,rfl,SqT.of hT,q5y hg,?_⟩)⟩;refine⟨_,rfl,_,rfl,_,_,rfl,.inl ⟨_,SqL.of hG,rfl⟩,_,_,rfl,rfl,_,rfl,?_⟩;rw[Ai];refine ite2 (fun h=>?_) (fun h=>?_)
  ·refine⟨TX.small (by rw[q0q];lia),_,rfl,.inr ⟨n,rfl,by lia,TX.small (by rw[q0q,q0q];lia),TX.small (by rw[q0q,q0q];lia),by show 1<=100;decide,fun ea hea=>k.go hea⟩⟩
  have hle:n<=gs.length:=Ie fun z=>h (decide_eq_true (by lia));obtain⟨_,hm,hne⟩:n<=gs.length/\isMo p=true/\gs[n-1]?≠some 35:=by
   rcases hb with z|z
   ·lia
   ·exact z
  refine⟨fun bb H'=>bb=true/\H'=H,?_,?_⟩
  ·rintro bb H' ⟨rfl,rfl⟩;exact iteT ⟨TX.small (by rw[q0q];lia),_,rfl,.inr ⟨n,rfl,by lia,TX.small (by rw[q0q,q0q];lia),TX.small (by rw[q0q,q0q,q0q];lia),TX.small (by rw[q0q,q0q,q0q];lia),by show 1<=100;decide,fun ea hea=>k.go hea⟩⟩
  refine⟨_,rfl,.inl ⟨rfl,_,rfl,?_⟩⟩;rw[pwM,hm];refine iteT ?_;have hd:gs[n-1]?=some gs[n-1]:=Ap (by lia);refine⟨_,rfl,_,rfl,_,_,rfl,rfl,.inl ⟨G,_,_,_,rfl,rfl,SqL.of hG,x1c hn1 hd,.inl ⟨rfl,_,rfl,?_,rfl⟩⟩⟩;have:decide (V.str (mk [gs[n-1]])=V.str (Ab "#"))=false:=by
   refine decide_eq_false fun z=>hne ?_;injection z with z;have:=congrArg tl z;rw[q0z,show tl (Ab "#")=[35] by decide +kernel] at this;injection this with h1 _;rw[hd,h1]
  rw[this];rfl
structure CallsR7 (P:Program) (w:World) (K:Af) (mg:Str->Option Value) (base:Heap) (Cr Dn:Addr):Prop where
 ask_gap:CalX P w K mg base "ask_gap" 1 ["piece", "gap_signs"] (spAskGapX Cr)
 of_a_gap:∃d,mg "OF_A_GAP" = some (.ref d)/\∀H,SqT K H d ofGap
 f_NoRule:ELaw0 K Cr Dn
 g_NoRule:mg "NoRule" = some (.ref Cr)
def spAskPieceX(Cr:Addr):Sp:=fun vs H _ E=>∃T G p gs kd,vs=[.ref T,.str kd,.ref G]/\H T=some (.tup p.vs)/\p.ok/\H G=some (.lst (vG gs))/\gs.length<=3000/\Bdp kd gs p/\Rul Cr H E
theorem q9g{Cr Dn:Addr}(D:Df K mg "ask_piece" q2r ["piece", "kind", "gap_signs"])(T:Txt mg)(C:CallsR7 P w K mg base Cr Dn):CalX P w K mg base "ask_piece" 2 ["piece", "kind", "gap_signs"] (spAskPieceX Cr):=by
 refine D.calX sc_ask_piece (fun vs H Q E h=>?_) (fun f cdv A outer s H vs Q E hr h=>?_)
 ·obtain⟨T1,G,p,gs,kd,rfl,_⟩:=h;rfl
 ·obtain⟨T1,G,p,gs,kd,rfl,hT,pok,hG,hgl,bd,k⟩:=h;obtain⟨d_OF_A_GAP,g_OF_A_GAP,hd⟩:=C.of_a_gap;refine⟨_,(q0c (q0k (i:=3) sc_ask_piece.nd rfl (by trivial) (q0x (ix_k K rfl) (pv 0) q0f (fun _ _=>rfl))) (q1g (q0v (q0h (in_k K rfl) (pv 3) (q0t (v:=.ref d_OF_A_GAP) (by rfl) g_OF_A_GAP rfl) (by with_unfolding_all rfl)) (q0e (q0y (q1z C.ask_gap hr accX (q0a (pv 0) (q0a (pv 2) q0b))))) q0i) (q0e (q0v (pt_j (@PW.pt _ _ _ (q1p (q0h (eq_k K rfl hr) (pv 3) q0g (nomark _)) (q1l (q0h (ne_k K rfl hr) (pv 1) q0g (nomark _)))))) (q0e (q3j C.f_NoRule accX rfl C.g_NoRule (q0a q0g q0b))) q0i)))),?_⟩;refine⟨_,rfl,.inr (.inl ⟨T1,_,0,_,rfl,rfl,SqT.of hT,pw0 p,?_⟩)⟩;refine⟨fun σ' H'=>σ'=[some (.ref T1),some (.str kd),some (.ref G),some (.str (pcWd p))]/\H'=H/\gapNo p=none,?_,?_⟩;rotate_left
  ·refine⟨_,rfl,.inr ⟨d_OF_A_GAP,_,rfl,.inr (hd H),rfl,by decide +kernel,_,rfl,?_⟩⟩;show if inV (.str (pcWd p)) ofGap=true then _ else _
   rw[inGap];refine ite2 (fun h=>?_) (fun h=>⟨rfl,rfl,by simpa using h⟩);obtain⟨n,hn⟩:=Ei.mp h;obtain⟨h1,h9⟩:=z3g pok hn;rcases bd with⟨n',hn',bd⟩|⟨e,_⟩
   ·rw[hn] at hn';cases hn';exact⟨_,rfl,_,rfl,T1,G,p,n,gs,rfl,hT,hn,h1,h9,hG,hgl,bd,k.up⟩
   ·rw[e] at hn;cases hn
  rintro σ' H' ⟨rfl,rfl,hn⟩;obtain⟨hi,hk⟩:p=.into/\kd≠Ab "slip" := by
   rcases bd with⟨n',hn',_⟩|z
   ·rw[hn] at hn';cases hn'
   ·exact z
  refine⟨fun bb H2=>bb=true/\H2=H',?_,?_⟩
  ·rintro bb H2 ⟨rfl,rfl⟩;exact iteT ⟨by show 1<=100;decide,fun ea hea=>k.go hea⟩
  refine⟨_,rfl,.inl ⟨rfl,_,rfl,?_⟩⟩;rw[pwI,hi];refine iteT ⟨_,rfl,.inl ⟨rfl,_,rfl,?_,rfl⟩⟩;rw[decide_eq_false (fun z=>hk (by injection z))];rfl
def NoGo(kd:Str)(l:List Nat)(qs:List Pc)(st:Int):Prop:=inV (.str kd) kinds3=false\/(∃q∈qs,Bdp kd (gsOf (parse [] l)) q)\/st<0\/1000000000<st
structure CallsS7 (P:Program) (w:World) (K:Af) (mg:Str->Option Value) (base:Heap) (Cp Ct Cr Dn:Addr):Prop where
 parts_of:Cal P w K mg base "parts_of" 2 ["pattern"] spPartsOf
 parts_ofX:CalX P w K mg base "parts_of" 4 ["pattern"] (spPartsX Cp)
 pieces_of:Cal P w K mg base "pieces_of" 6 ["template"] spPieces
 pieces_ofX:CalX P w K mg base "pieces_of" 8 ["template"] (spPiecesX Ct)
 ask_piece:Cal P w K mg base "ask_piece" 2 ["piece", "kind", "gap_signs"] spAskPiece
 ask_pieceX:CalX P w K mg base "ask_piece" 2 ["piece", "kind", "gap_signs"] (spAskPieceX Cr)
 kinds:∃d,mg "KINDS" = some (.ref d)/\∀H,SqT K H d kinds3
 f_NoRule:ELaw0 K Cr Dn
 g_NoRule:mg "NoRule" = some (.ref Cr)
def BadR(Cp Ct Cr:Addr)(kd:Str)(l tt:List Nat)(st:Int)(H:Hp)(E:XK):Prop :=
 (∃i,WrongAt l i/\RE H E Cp i)\/(Good l/\∃i,i<=tt.length/\Refu tt 0 .beg i/\RE H E Ct i)\/(Good l/\∃qs,tt=flatP qs/\WP qs/\NoGo kd l qs st/\Rul Cr H E)
theorem BadR.up{Cp Ct Cr:Addr}{kd:Str}{l tt:List Nat}{st:Int}{H:Hp}{E:XK}(h:BadR Cp Ct Cr kd l tt st H E):BadR Cp Ct Cr kd l tt st H (fun e _ H'=>∀ea,e=.ref ea->E (.ref ea) none H'):=by
 rcases h with⟨i,a,r⟩|⟨g,i,a,b,r⟩|⟨g,qs,a,b,c,r⟩
 ·exact .inl ⟨i,a,r.up⟩
 ·exact .inr (.inl ⟨g,i,a,b,r.up⟩)
 ·exact .inr (.inr ⟨g,qs,a,b,c,r.up⟩)
def spAskRuleX(Cp Ct Cr:Addr):Sp:=fun vs H _ E=>∃R kd l tt st,vs=[.ref R]/\H R=some (.tup [.str kd,.str (mk l),.str (mk tt),.int st])/\l.length<=1000/\tt.length<=500/\BadR Cp Ct Cr kd l tt st H E
theorem z4f{l:List Nat}{i j:Nat}(h:WrongAt l i)(g:WrongAt l j):i=j:=by
 rcases h with⟨e,rfl⟩|⟨e,h1,h2⟩<;>rcases g with⟨e',rfl⟩|⟨e',g1,g2⟩
 ·rfl
 ·exact absurd e e'
 ·exact absurd e' e
 ·refine Nat.le_antisymm (Ie fun z=>g1 (h2 _ z)) (Ie fun z=>h1 (g2 _ z))
theorem z0w{Cp Ct Cr Dn:Addr}(D:Df K mg "ask_rule" q3b ["rule"])(T:Txt mg)(C:CallsS7 P w K mg base Cp Ct Cr Dn)(hgw:∀l i,Good l->WrongAt l i->False):CalX P w K mg base "ask_rule" 9 ["rule"] (spAskRuleX Cp Ct Cr):=by
 refine D.calX sc_ask_rule (fun vs H Q E h=>?_) (fun f cdv A outer s H vs Q E hr h=>?_)
 ·obtain⟨R,kd,l,tt,st,rfl,_⟩:=h;rfl
 ·obtain⟨R,kd,l,tt,st,rfl,hR,hl,ht,bad⟩:=h;obtain⟨d_KINDS,g_KINDS,hd⟩:=C.kinds;obtain⟨_,g_MOST_START⟩:=T.MOST_START;refine⟨_,(q0c (q4e (pv 0) (@q2f _ _ _ _ (4) _ K rfl rfl (q0u (q0s (i:=1) sc_ask_rule.nd rfl (by trivial)) (q0u (q0s (i:=2) sc_ask_rule.nd rfl (by trivial)) (q0u (q0s (i:=3) sc_ask_rule.nd rfl (by trivial)) (q0u (q0s (i:=4) sc_ask_rule.nd rfl (by trivial)) q1o)))) (by rfl) (by rfl))) (q0c (q0k (i:=5) sc_ask_rule.nd rfl (by trivial) (q5f (pe_c C.parts_of hr (q0a (pv 2) q0b)) (q1z C.parts_ofX hr accX (q0a (pv 2) q0b)))) (q0c (q0k (i:=6) sc_ask_rule.nd rfl (by trivial) (q5f (pe_c C.pieces_of hr (q0a (pv 3) q0b)) (q1z C.pieces_ofX hr accX (q0a (pv 3) q0b)))) (q0c (q0v (q0h (z1h K rfl) (pv 1) (q0t (v:=.ref d_KINDS) (by rfl) g_KINDS rfl) (by with_unfolding_all rfl)) (q0e (q3j C.f_NoRule accX rfl C.g_NoRule (q0a q0g q0b))) q0i) (q0c (q8g (i:=7) ["sort", "what"] [] sc_ask_rule.nd rfl (by trivial) rfl (@q6n _ _ _ _ K rfl (pv 5)) (fun _ _ _ _ _=>(@q2f _ _ _ _ (2) _ K rfl rfl (q0u (q0s (i:=0) (show(["sort", "what"]:List Str).Nodup by decide +kernel) rfl (by trivial)) (q0u (q0s (i:=1) (show(["sort", "what"]:List Str).Nodup by decide +kernel) rfl (by trivial)) q1o)) (by rfl) (by rfl))) (fun _ _ _ _ _=>(q8e (q0h (eq_k K rfl hr) (pv 0) q0g (nomark _)))) (fun _ _ _ _ _=>(pv 1))) (q0c (q1y passDef rfl (@q6n _ _ _ _ K rfl (pv 6)) (q0s (i:=8) sc_ask_rule.nd rfl (by trivial)) (q0e (q0y (q5f (pe_c C.ask_piece hr (q0a (pv 8) (q0a (pv 1) (q0a (pv 7) q0b)))) (q1z C.ask_pieceX hr accX (q0a (pv 8) (q0a (pv 1) (q0a (pv 7) q0b)))))))) (q0c (q0v (pt_j (@PW.pt _ _ _ (q4d (q0h q6c (pv 4) q0f (nomark _)) (q3e (q0h q3v (pv 4) (q0t (v:=.int 1000000000) (by rfl) g_MOST_START ⟨_,rfl⟩) (nomark _)))))) (q0e (q3j C.f_NoRule accX rfl C.g_NoRule (q0a q0g q0b))) q0i) (q0e (q0m q2s))))))))),?_⟩;refine⟨_,rfl,R,_,rfl,SqT.of hR,rfl,_,_,rfl,_,_,rfl,_,_,rfl,_,_,rfl,rfl,?_⟩;rcases bad with⟨i,hw,re⟩|bad
  ·refine .inr ⟨_,rfl,l,rfl,hl,fun g=>(hgw l i g hw).elim,fun j hj=>?_⟩;cases z4f hw hj;exact re.up
  have good:Good l:=by
   rcases bad with⟨g,_⟩|⟨g,_⟩<;>exact g
  refine .inl ⟨_,rfl,l,rfl,good,fun L H1 hL sm1 hl1=>?_⟩;rcases bad with⟨_,i,hi,hw,re⟩|⟨_,qs,rfl,wp,ng,ru⟩
  ·refine .inr ⟨_,rfl,tt,rfl,ht,fun g=>(z8k hw g).elim,fun j _ hj=>?_⟩;cases z8j hw hj;exact(re.same sm1).up
  refine .inl ⟨_,rfl,qs,rfl,wp,fun M H2 hM sm2 hp2=>?_⟩;have ru2:=(ru.same sm1).same sm2;refine⟨_,rfl,.inr ⟨d_KINDS,_,rfl,.inr (hd H2),rfl,by decide +kernel,_,rfl,?_⟩⟩;show if (!inV (.str kd) kinds3)=true then _ else _
  refine ite2 (fun _=>⟨by show 1<=100;decide,fun ea hea=>ru2.go hea⟩) (fun hk=>?_);replace ng:(∃q∈qs,Bdp kd (gsOf (parse [] l)) q)\/st<0\/1000000000<st:=by
   rcases ng with z|z
   ·rw[z] at hk;exact absurd rfl hk
   ·exact z
  obtain⟨Ts,t1,t2⟩:=(hl1.same sm2).ex;have hTl:=t2.len;have hpl:=q6p l [];have hgl:=good.len;refine⟨_,rfl,.inl ⟨L,rfl,⟨_,SqL.of t1⟩,fun D hD=>?_⟩⟩;refine q4k (xs:=Ts.map V.ref) (fun i ys H'=>ys=vG (gsOf ((parse [] l).take i))/\Same H2 H'/\H' D=some (.lst ys)/\i<=(parse [] l).length) ⟨rfl,(Same.refl H2).new hD,q0d,Bg _⟩ (fun i ys H' ⟨_,sm,hHD,_⟩=>⟨hHD,SqL.of (sm _ _ t1)⟩) ?_ ?_
  ·rintro i ys H' x hx ⟨rfl,sm,hHD,hi⟩;obtain⟨T1,p,rfl,hp1,ht⟩:=t2.get hx;have hi':=(Ak.mp hp1).1;refine⟨T1,_,rfl,SqT.of (sm _ _ ht),rfl,_,_,rfl,_,_,rfl,rfl,q3p,?_⟩;refine⟨_,rfl,.inl ⟨rfl,_,rfl,?_⟩⟩;rw[wgg];have hg:=q3s ((parse [] l).take i);rw[Bk] at hg;cases p with
   |tx t =>
    refine iteF ⟨?_,sm,hHD,hi'⟩;rw[q2t hp1];show vG _=vG (_++[]);rw[Dd]
   |gp c =>
    refine iteT ⟨_,rfl,hHD,TX.small' (by rw[Ai];lia),?_,sm.put hD,q0d,hi'⟩;rw[q2t hp1];show _=(gsOf _++[c]).map _;rw[Bi];rfl
  rintro ys H3 ⟨rfl,sm3,hHD,_⟩;rw[Ai,hTl,Ep] at hHD;have ru3:=ru2.same sm3;have hp3:=hp2.same sm3;obtain⟨Us,u1,u2⟩:=hp3.ex;have hgp:=q3s (parse [] l);refine⟨_,rfl,.inl ⟨M,rfl,⟨_,SqL.of u1⟩,?_⟩⟩;refine q3o (xs:=Us.map V.ref) (fun i σ' H'=>∃x8,σ'=[some (.ref R),some (.str kd),some (.str (mk l)),some (.str (mk (flatP qs))),some (.int st),some (.ref L),some (.ref M),some (.ref D),x8]/\H'=H3/\∀j q,j<i->qs[j]?=some q->¬Bdp kd (gsOf (parse [] l)) q) ⟨none,rfl,rfl,fun j q z=>absurd z (Ll j)⟩ (fun i σ' H' _ ⟨_,_,e,_⟩=>by subst e;exact SqL.of u1) ?_ ?_
  ·rintro i x σ' H' hx ⟨x8,rfl,rfl,hpre⟩;obtain⟨T1,hT1,rfl⟩:∃T,Us[i]?=some T/\x=.ref T:=by
    rw[Cy] at hx;cases hz:Us[i]? with
    |none=>rw[hz] at hx;cases hx
    |some T=>rw[hz] at hx;cases hx;exact⟨T,rfl,rfl⟩
   obtain⟨p,hp1,ht⟩:=u2.get hT1;have pok:=wp.ok p (Am hp1);by_cases hb:Bdp kd (gsOf (parse [] l)) p
   ·exact .inr ⟨_,rfl,_,rfl,_,rfl,T1,D,p,gsOf (parse [] l),kd,rfl,ht,pok,hHD,by lia,hb,ru3.up⟩
   ·refine .inl ⟨_,rfl,_,rfl,_,rfl,T1,D,p,gsOf (parse [] l),kd,rfl,ht,hHD,by lia,(ask_or kd _ pok).resolve_right hb,⟨_,rfl,rfl,fun j q hj hq=>?_⟩⟩;rcases Nx (Oh hj) with z|z
    ·exact hpre j q z hq
    ·subst z;rw[hp1] at hq;cases hq;exact hb
  ·rintro σ' H' ⟨x8,rfl,rfl,hall⟩;have hst:st<0\/1000000000<st:=by
    rcases ng with⟨q,hq,hb⟩|z
    ·obtain⟨j,hj,e⟩:=Gx.mp hq;have hul:=u2.len;exact absurd hb (hall j q (by rw[Ai];lia) (by rw[Ap hj,e]))
    ·exact z
   refine⟨fun bb H4=>bb=true/\H4=H',?_,?_⟩
   ·rintro bb H4 ⟨rfl,rfl⟩;exact iteT ⟨by show 1<=100;decide,fun ea hea=>ru3.go hea⟩
   refine⟨_,rfl,_,_,rfl,rfl,_,rfl,?_⟩;refine iteB (fun h=>⟨rfl,rfl⟩) (fun h=>?_);refine⟨_,rfl,_,_,rfl,rfl,_,rfl,?_,rfl⟩;exact decide_eq_true (by have:=of_decide_eq_false h;lia)
structure CallsT7 (P:Program) (w:World) (K:Af) (mg:Str->Option Value) (base:Heap) (Cp Ct Cr:Addr):Prop where
 ask_rule:CalX P w K mg base "ask_rule" 9 ["rule"] (spAskRuleX Cp Ct Cr)
 reading:Cal P w K mg base "reading" 6 ["pattern", "name"] spReading
 pieces_of:Cal P w K mg base "pieces_of" 6 ["template"] spPieces
 pieces_ofX:CalX P w K mg base "pieces_of" 8 ["template"] (spPiecesX Ct)
 piece_text:Cal P w K mg base "piece_text" 3 ["piece", "gap_texts", "count"] spPieceText
def spTellsX(Cp Ct Cr:Addr):Sp:=fun vs H _ E=>∃R kd l tt st n c,vs=[.ref R,n,c]/\H R=some (.tup [.str kd,.str (mk l),.str (mk tt),.int st])/\l.length<=1000/\tt.length<=500/\BadR Cp Ct Cr kd l tt st H E
theorem z6t{Cp Ct Cr:Addr}(D:Df K mg "tells" q5z ["rule", "name", "count"])(T:Txt mg)(C:CallsT7 P w K mg base Cp Ct Cr):CalX P w K mg base "tells" 10 ["rule", "name", "count"] (spTellsX Cp Ct Cr):=by
 refine D.calX sc_tells (fun vs H Q E h=>?_) (fun f cdv A outer s H vs Q E hr h=>?_)
 ·obtain⟨R,kd,l,tt,st,n,c,rfl,_⟩:=h;rfl
 ·obtain⟨R,kd,l,tt,st,n,c,rfl,hR,hl,ht,bad⟩:=h;refine⟨_,(q0c (q0y (q1z C.ask_rule hr accX (q0a (pv 0) q0b))) (q0c (q0k (i:=3) sc_tells.nd rfl (by trivial) (pe_c C.reading hr (q0a (q0x (ix_k K rfl) (pv 0) q0f (fun _ _=>rfl)) (q0a (pv 1) q0b)))) (q0c (q0v (q9m (z8r (pv 3))) (q0e (q0m z4n)) q0i) (q0c (q0k (i:=4) sc_tells.nd rfl (by trivial) (q1b (q0a q0g q0b))) (q0c (q1y passDef rfl (@q6n _ _ _ _ K rfl (q5f (pe_c C.pieces_of hr (q0a (q0x (ix_k K rfl) (pv 0) q0f (fun _ _=>rfl)) q0b)) (q1z C.pieces_ofX hr accX (q0a (q0x (ix_k K rfl) (pv 0) q0f (fun _ _=>rfl)) q0b)))) (q0s (i:=5) sc_tells.nd rfl (by trivial)) (q0e (q0v (q0h (eq_k K rfl hr) (pv 5) (q0o (q0a q0g q0b)) (nomark _)) (q0e (q0y (@bm_k _ _ _ _ _ _ _ _ _ _ _ _ K rfl Bc Bv Bw q1j (pv 4) (q0a q0g q0b) (by rfl) (by rfl) (by rfl) (by rfl) (by rfl)))) (q0e (z4q (pv 4) (q7z q4g q0f) (get_k K rfl) (pe_c C.piece_text hr (q0a (pv 5) (q0a (pv 3) (q0a (pv 2) q0b)))) q6d q4h))))) (q0e (q0m (q1a (z5k K rfl) (by rfl) T.b_tuple (by decide +kernel) (q0a (pv 4) q0b))))))))),?_⟩;exact⟨_,rfl,R,kd,l,tt,st,rfl,hR,hl,ht,bad.up⟩
structure Calls2 (P:Program) (w:World) (K:Af) (mg:Str->Option Value) (base:Heap):Prop where
 draw:Cal P w K mg base "_law_draw" 1 ["_law_feed", "_law_many"] spDraw
 text:Cal P w K mg base "_law_text" 2 ["_law_feed", "_law_signs", "_law_size"] spText
 name_signs:Cal P w K mg base "_law_name_signs" 1 [] (spConst NSs)
def spParts:Sp:=fun vs H Q _=>∃a b,vs=[.ref a,.int 9]/\FeedAt H a b/\∀L ps H',WF ps->HL H' L ps->H L=none->Fd a b H H'->Q (.ref L) H'
abbrev q9h:Stmt:=top 56
theorem sc_parts:FnScope ["_law_feed", "_law_most", "_law_signs", "_law_parts_here", "_law_size", "_law_gaps", "_law_k", "_law_text_here", "_law_gap"] ["_law_feed", "_law_most"] (defScope q9h):=by trivial
theorem z8m(D:Df K mg "_law_parts" q9h ["_law_feed", "_law_most"])(T:Txt mg)(C:Calls2 P w K mg base):Cal P w K mg base "_law_parts" 3 ["_law_feed", "_law_most"] spParts:=by
 refine D.cal sc_parts (fun vs H Q E h=>?_) (fun f cdv A outer s H vs Q E hr h=>?_)
 ·obtain⟨a,b,rfl,_⟩:=h;rfl
 ·obtain⟨a,b,rfl,F,k⟩:=h;refine⟨_,(q0c (q0k (i:=2) sc_parts.nd rfl (by trivial) (q0x (ix_k K rfl) (q1b (q0a (pe_c0 C.name_signs hr) (q0a q0g q0b))) (pe_c C.draw hr (q0a (pv 0) (q0a q0f q0b))) (fun _ _=>rfl))) (q0c (q0k (i:=3) sc_parts.nd rfl (by trivial) (q1b q0b)) (q0c (q0k (i:=4) sc_parts.nd rfl (by trivial) q0f) (q0c (q0k (i:=5) sc_parts.nd rfl (by trivial) q0f) (q0c (q1y Ca rfl (q3h rfl T.b_range (q0a (q0p q0j q0f (pe_c C.draw hr (q0a (pv 0) (q0a q0f q0b)))) q0b)) (q0s (i:=6) sc_parts.nd rfl (by trivial)) (q0c (q0k (i:=7) sc_parts.nd rfl (by trivial) (pe_c C.text hr (q0a (pv 0) (q0a (pv 2) (q0a (q0p q0j q0f (pe_c C.draw hr (q0a (pv 0) (q0a q0f q0b)))) q0b))))) (q0c (q0k (i:=8) sc_parts.nd rfl (by trivial) (q0x (ix_k K rfl) q0g (pe_c C.draw hr (q0a (pv 0) (q0a q0f q0b))) (fun _ _=>rfl))) (q0e (q0v (pt_j (@PW.pt _ _ _ (q1p (q0h q6c (pe_c C.draw hr (q0a (pv 0) (q0a q0f q0b))) q0f (nomark _)) (q1p (q0h q6c (pv 5) (pv 1) (nomark _)) (q1l (q0h q6c (pv 4) q0f (nomark _))))))) (q0c (q0y (@bm_k _ _ _ _ _ _ _ _ _ _ _ _ K rfl Bc Bv Bw q1j (pv 3) (q0a (q0o (q0a q0g (q0a (pv 8) q0b))) q0b) (by rfl) (by rfl) (by rfl) (by rfl) (by rfl))) (q0c (q0k (i:=5) sc_parts.nd rfl (by trivial) (q0p q0j (pv 5) q0f)) (q0e (q0k (i:=4) sc_parts.nd rfl (by trivial) (q0p q0j (pv 4) q0f))))) (q0e (q0v (q0h op_le (q0p q0j (pv 4) (q0n (q1q K rfl) (by rfl) T.b_len Ax (q0a (pv 7) q0b))) q0f (nomark _)) (q0c (q0k (i:=4) sc_parts.nd rfl (by trivial) (q0p q0j (pv 4) (q0n (q1q K rfl) (by rfl) T.b_len Ax (q0a (pv 7) q0b)))) (q1g (q0v (pt_j (@PW.pt _ _ _ (q1p (q0h q3v (q0n (q1q K rfl) (by rfl) T.b_len Ax (q0a (pv 3) q0b)) q0f (nomark _)) (q1l (q0h (eq_k K rfl hr) (q0x (ix_k K rfl) (q0x (ix_k K rfl) (pv 3) (q7z q4g q0f) (fun _ _=>rfl)) q0f (fun _ _=>rfl)) q0g (nomark _)))))) (q0e (q0k (i:=7) sc_parts.nd rfl (by trivial) (q0p q0j (q0x (ix_k K rfl) (@z5l _ _ _ _ _ _ _ _ _ K rfl Bc Ml Mm z8x (pv 3) (by rfl) (by rfl)) q0f (fun _ _=>rfl)) (pv 7)))) q0i) (q0e (q0y (@bm_k _ _ _ _ _ _ _ _ _ _ _ _ K rfl Bc Bv Bw q1j (pv 3) (q0a (q0o (q0a q0g (q0a (pv 7) q0b))) q0b) (by rfl) (by rfl) (by rfl) (by rfl) (by rfl)))))) q0i))))))) (q0e (q0m (pv 3)))))))),?_⟩;refine⟨rfl,by show 2<=sizeLine;decide,fun l hl=>?_⟩;have F0:∀o,FeedAt (upd H l o) a b:=fun o=>F.upd (F.na hl) (F.nb hl)
  refine⟨_,rfl,a,b,2,rfl,F0 _,by decide,by decide,fun r H1 r0 r1 fd1=>?_⟩;have hl1:=fd1.at q0d (fun z=>F.na hl z.symm);obtain⟨x,hx1,hx2⟩:=q3f (xs:=[V.str NSs,V.str (Ab "ab1A")]) r0 (by simpa using r1);refine .inl ⟨l,_,r,x,rfl,rfl,SqL.of hl1,hx2,?_⟩;obtain⟨g,rfl,g0,g1,g2⟩:∃g:Str,x=.str g/\0<g.length/\g.length<=1000/\∀c∈tl g,c∈NS:=by
   have hx:=Am hx1;simp only[Bd,Br,or_false] at hx;rcases hx with rfl|rfl
   ·exact⟨_,rfl,by rw[z2q];decide,by rw[z2q];decide,fun c h=>h⟩
   ·exact⟨_,rfl,by decide +kernel,by decide +kernel,by decide +kernel⟩
  have fdA:Fd a b H H1:=((Fd.refl F).new hl).trans fd1;refine⟨by show 0<=sizeLine;decide,fun L hL=>?_⟩;have hL0:H L=none:=fdA.free hL;have hLa:L≠a:=fun z=>F.na hL0 z.symm;have fdB:Fd a b H (upd H1 L (.lst [])):=fdA.new hL;refine⟨_,rfl,a,b,10,rfl,fdB.feed,by decide,by decide,fun n H2 n0 n1 fd2=>.inl ⟨_,_,rfl,rfl,_,rfl,by lia,by lia,?_⟩⟩;have fdC:=fdB.trans fd2;refine q3i (fun i σ' H'=>∃ps x6 x7 x8,σ'=[some (.ref a),some (.int 9),some (.str g),some (.ref L),some (.int ((flat ps).length:Nat)),some (.int (gaps ps:Nat)),x6,x7,x8]/\Fd a b H H'/\HL H' L ps/\(∀p∈ps,p.ok)/\noTT ps=true/\gaps ps<=9/\(flat ps).length<=24/\ps.length<=i/\i<=20/\(1<=i->ps≠[]))
   ⟨[],none,none,none,rfl,fdC,⟨[],fd2.at q0d hLa,.nil⟩,fun _ h=>(nomatch h),rfl,by decide,by decide,Ah _,by decide,by lia⟩ ?_ ?_
  ·rintro i σ' H' hi ⟨ps,x6,x7,x8,rfl,fd,hl',hok,htt,hgp,hsz,hpl,hi20,hne⟩;have hi':i<11:=by lia
   refine⟨_,rfl,_,rfl,_,rfl,a,b,4,rfl,fd.feed,by decide,by decide,fun m H3 m0 m1 fd3=>.inl ⟨_,_,rfl,rfl,?_⟩⟩;refine⟨a,b,g,_,rfl,fd3.feed,g0,g1,by lia,by lia,fun t H4 ht hc fd4=>?_⟩;have hcN:∀c∈t,c∈NS:=fun c h=>g2 c (hc c h);have htl:1<=t.length/\t.length<=4:=by lia
   have hlen:(mk t).length=t.length:=by rw[len,q0z]
   refine⟨_,rfl,a,b,4,rfl,fd4.feed,by decide,by decide,fun r H5 r0 r1 fd5=>?_⟩;have e4:(tl GSs).length=4:=by rw[<- len];exact z8z
   obtain⟨c,hc1,hc2⟩:=q3f (xs:=tl GSs) r0 (by rw[e4];exact r1);have hcG:c∈GS:=Am hc1;refine .inr (.inr ⟨GSs,r,c,rfl,rfl,by rw[z8z];decide,hc2,?_⟩);have fdD:Fd a b H' H5:=(fd3.trans fd4).trans fd5;have fdE:Fd a b H H5:=fd.trans fdD;have hl5:HL H5 L ps:=hl'.fd fd.feed fdD hLa;refine⟨fun bb H6=>(bb=true->gaps ps<9/\(flat ps).length<24)/\Fd a b H H6/\HL H6 L ps,?_,?_⟩;rotate_left
   ·refine⟨_,rfl,a,b,5,rfl,fdE.feed,by decide,by decide,fun r5 H6 _ _ fd6=>⟨_,_,rfl,rfl,_,rfl,?_⟩⟩;have fd7:=fdE.trans fd6;have hl6:HL H6 L ps:=hl5.fd fdE.feed fd6 hLa;refine iteB (fun _=>⟨_,rfl,_,rfl,_,_,rfl,rfl,_,rfl,iteB (fun h=>⟨_,rfl,_,_,rfl,rfl,_,rfl,fun h2=>⟨?_,?_⟩,fd7,hl6⟩) (fun _=>⟨(fun z=>by cases z),fd7,hl6⟩)⟩) (fun _=>⟨(fun z=>by cases z),fd7,hl6⟩)
    ·have:=of_decide_eq_true h;lia
    ·have:=of_decide_eq_true h2;lia
   rintro bb H6 ⟨hb,fd6,hl6⟩;refine iteB (fun h=>?_) (fun h=>?_)
   ·obtain⟨hb1,hb2⟩:=hb h;obtain⟨Ts,h1,h2⟩:=hl6.ex;have hTl:=h2.len;refine⟨_,rfl,.inl ⟨rfl,hl6.sq⟩,_,rfl,by show 2<=sizeLine;decide,fun T1 hT1=>?_⟩;have hLT:L≠T1:=fun z=>by subst z;rw[hT1] at h1;cases h1
    refine⟨L,_,_,rfl,rfl,by rw[q0l hLT];exact h1,by rw[Ai];exact small' (by lia),?_⟩;refine⟨_,rfl,.inl ⟨_,_,rfl,rfl,?_⟩⟩;refine⟨_,rfl,.inl ⟨_,_,rfl,rfl,?_⟩⟩;have hT10:H T1=none:=fd6.free hT1;have es:flat (ps++[.gp c])=flat ps++[c]:=by rw[q4n];rfl
    have eg:gaps (ps++[.gp c])=gaps ps+1:=by rw[q5u];rfl
    refine⟨ps++[Pt.gp c],some (.int (0+(i:Nat))),some (.str (mk t)),some (.str ⟨#[c]⟩),?_,(fd6.new hT1).put F hL0,HL.snoc (p:=.gp c) h1 h2 hT1,fun p hp=>?_,z1j htt,by lia,by rw[es,Ae,Aq];lia,by rw[Ae,Aq];lia,by lia,fun _=>by simp⟩
    ·rw[es,eg,Ae,Aq];rfl
    ·rcases Bh.mp hp with z|z
     ·exact hok p z
     ·rw[Au.mp z];exact hcG
   refine⟨_,rfl,_,rfl,_,_,rfl,⟨small (by lia),rfl⟩,.inl ⟨_,_,rfl,rfl,_,_,rfl,rfl,_,rfl,?_⟩⟩;refine ite2 (fun h=>?_) (fun h=>?_);rotate_left
   ·refine⟨ps,_,_,_,rfl,fd6,hl6,hok,htt,hgp,hsz,by lia,by lia,fun _=>?_⟩;rintro rfl;refine h (decide_eq_true ?_);rw[hlen];show((([]:List Nat).length:Nat):Int)+_<=_;simp only[Iw];all_goals lia
   have hs24:=of_decide_eq_true h;refine⟨_,rfl,_,rfl,_,_,rfl,⟨small (by lia),rfl⟩,.inl ⟨_,_,rfl,rfl,?_⟩⟩;have hsum:((flat ps).length:Int)+((mk t).length:Int)=(((flat ps).length+t.length:Nat):Int):=by rw[hlen];lia
   refine⟨fun σ2 H7=>∃qs t',σ2=[some (.ref a),some (.int 9),some (.str g),some (.ref L),some (.int (((flat ps).length+t.length:Nat):Int)),some (.int (gaps ps:Nat)),some (.int (0+(i:Nat))),some (.str (mk t')),some (.str ⟨#[c]⟩)]/\Fd a b H H7/\HL H7 L qs/\(∀p∈qs++[.tx t'],p.ok)/\noTT (qs++[.tx t'])=true/\gaps (qs++[.tx t'])=gaps ps/\(flat (qs++[.tx t'])).length=(flat ps).length+t.length/\qs.length<=ps.length,?_,?_⟩
   ·rintro σ2 H7 ⟨qs,t',rfl,fd7,hl7,hok7,htt7,hg7,hf7,hq7⟩;obtain⟨Ts,h1,h2⟩:=hl7.ex;have hTl:=h2.len;refine⟨_,rfl,.inl ⟨rfl,hl7.sq⟩,_,rfl,by show 2<=sizeLine;decide,fun T1 hT1=>?_⟩;have hLT:L≠T1:=fun z=>by subst z;rw[hT1] at h1;cases h1
    refine⟨L,_,_,rfl,rfl,by rw[q0l hLT];exact h1,by rw[Ai];exact small' (by lia),?_⟩;refine⟨qs++[Pt.tx t'],some (.int (0+(i:Nat))),some (.str (mk t')),some (.str ⟨#[c]⟩),?_,(fd7.new hT1).put F hL0,HL.snoc (p:=.tx t') h1 h2 hT1,hok7,htt7,by lia,by lia,by rw[Ae,Aq];lia,by lia,fun _=>by simp⟩;rw[hf7,hg7];all_goals rfl
   have hokt:(Pt.tx t).ok:=⟨fun z=>by rw[z] at htl;simp at htl,hcN⟩
   rcases z7s ps with rfl|⟨qs,p,rfl⟩
   ·
    obtain⟨Ts,h1,h2⟩:=hl6.ex;have hTl:=h2.len;refine⟨fun b7 H7=>b7=false/\H7=H6,?_,?_⟩
    ·rintro b7 H7 ⟨rfl,rfl⟩;refine iteF ⟨[],t,?_,fd6,hl6,fun p hp=>?_,rfl,rfl,by simp[flat,Pt.fl],Ah _⟩
     ·rw[hsum];rfl
     ·rw[Au.mp hp];exact hokt
    ·refine⟨_,rfl,_,_,rfl,.inl ⟨_,SqL.of h1,rfl⟩,_,_,rfl,rfl,_,rfl,?_⟩;refine iteB (fun h=>?_) (fun h=>⟨rfl,rfl⟩);have:=of_decide_eq_true h;rw[Ai,hTl] at this;simp at this
   ·obtain⟨Ts,h1,h2⟩:=hl6.ex;obtain⟨Us,T1,rfl,h3,h4⟩:=Tups.last h2;have hTl:=h2.len;refine⟨fun b7 H7=>b7 = !p.isG/\H7=H6,?_,?_⟩;rotate_left
    ·refine⟨_,rfl,_,_,rfl,.inl ⟨_,SqL.of h1,rfl⟩,_,_,rfl,rfl,_,rfl,?_⟩;refine iteB (fun h=>?_) (fun h=>?_)
     ·refine⟨_,rfl,_,rfl,.inl ⟨L,_,-1,_,rfl,rfl,SqL.of h1,q5v Us T1,.inr (.inl ⟨T1,_,0,_,rfl,rfl,SqT.of h4,rfl,.inl ⟨rfl,_,rfl,?_,rfl⟩⟩)⟩⟩;cases p with
      |tx s=>exact decide_eq_true rfl
      |gp d=>show decide (V.str (Ab "gap")=V.str (Ab "text"))=false;decide +kernel
     ·have:=of_decide_eq_false h;rw[Ai] at this;simp at this;all_goals lia
    rintro b7 H7 ⟨rfl,rfl⟩;cases p with
    |gp d =>
     refine iteF ⟨qs++[.gp d],t,?_,fd6,hl6,fun p hp=>?_,z1k htt,by rw[q5u];rfl,by rw[q4n,Ae];simp[flat,Pt.fl],Ah _⟩
     ·rw[hsum];rfl
     ·rcases Bh.mp hp with z|z
      ·exact hok p z
      ·rw[Au.mp z];exact hokt
    |tx s0 =>
     have hs0:=hok (.tx s0) (by simp);have hs0l:s0.length<=24:=by
      rw[q4n,Ae] at hsz;simp[flat,Pt.fl] at hsz;all_goals lia
     refine iteT ?_;have hs0len:(mk s0).length=s0.length:=by rw[len,q0z]
     have hLT:T1≠L:=z4l h4 h1 (by intro z;cases z);refine⟨_,rfl,.inl ⟨rfl,hl6.sq⟩,L,_,_,rfl,rfl,h1,z5q Us T1,.inr (.inl ⟨T1,_,1,_,rfl,rfl,SqT.of (by rw[q0l hLT];exact h4),rfl,_,rfl,.inr (.inl ⟨_,_,rfl,rfl,small (by show(mk s0).length+_<=_;lia),?_⟩)⟩)⟩;have eT:mk s0++mk t=mk (s0++t):=by
      apply ext;rw[q1d];all_goals simp only[q0z]
     refine⟨qs,s0++t,?_,?_,⟨Us,?_,h3.keep ((TKeep.refl _).lst h1)⟩,fun p hp=>?_,z1l htt,?_,?_,?_⟩
     ·rw[hsum];show[_,_,_,_,_,_,_,some (V.str (mk s0++mk t)),_]=_;rw[eT];all_goals rfl
     ·exact fd6.put F hL0
     ·rw[q0d,z7r]
     ·rcases Bh.mp hp with z|z
      ·exact hok p (Dh _ z)
      ·rw[Au.mp z];refine⟨fun z=>hs0.1 (Hy.mp z).1,fun d hd=>?_⟩;rcases Bh.mp hd with z|z
       ·exact hs0.2 d z
       ·exact hcN d z
     ·rw[q5u,q5u];rfl
     ·rw[q4n,q4n,Ae,Ae];simp[flat,Pt.fl];all_goals lia
     ·rw[Ae,Aq];lia
  ·rintro σ' H' ⟨ps,x6,x7,x8,rfl,fd,hl',hok,htt,hgp,hsz,hpl,hi20,hne⟩;refine⟨_,rfl,?_⟩;exact k L ps H' ⟨hne (by lia),hok,htt,hgp,hsz⟩ hl' hL0 fd
theorem z4g{K:Af}{a:Addr}{xs:List V}{te:TE}{r:St}{D:Addr}{Fin:List V->Hp->Prop}{H1:Hp}(Pv:Nat->List V->Hp->Prop)(h0:Pv 0 [] (upd H1 D (.lst [])))(hl:∀i ys H,Pv i ys H->H D=some (.lst ys)/\SqL K H a xs)(hs:∀i ys H x,xs[i]?=some x->Pv i ys H->∃T v w,x=.ref T/\SqT K H T [v,w]/\te (some v::some w::r) H fun u H4=>H4 D=some (.lst ys)/\ys.length<sizeLine/\Pv (i+1) (ys++[u]) (upd H4 D (.lst (ys++[u]))))(hd:∀ys H,Pv xs.length ys H->Fin ys H):CompW (Itl K a) (gTup K 2 (gCons (gName 0) (gCons (gName 1) gNil))) tIf0 te (none::none::r) D Fin H1 :=
 q4k Pv h0 hl (fun i ys H x h p=>by
  obtain⟨T,v,w,rfl,hT,q⟩:=hs i ys H x h p;refine⟨T,_,rfl,hT,rfl,_,_,rfl,_,_,rfl,rfl,q3p,?_⟩;exact iteT (B:=Pv (i+1) ys H) q) hd
theorem z4h(ps:List Pt):PySem.Txt.join (Ab "") (ps.map fun p=>mk p.fl)=mk (flat ps):=by
 apply ext;rw[z5n,q0z,Hj];unfold flat;congr 1;all_goals exact List.map_congr_left fun p _=>q0z _
theorem z0x:∀ps:List Pt,((ps.map fun p=>mk p.fl).map (·.length)).sum=(flat ps).length
 |[]=>rfl
 |p::ps=>by
  rw[Cj,Cj,List.sum_cons,z0x ps,q4m,Ae];rw[len,q0z]
theorem z4i{K:Af}{M D:Addr}{ps:List Pt}{H1:Hp}{Fin:List V->Hp->Prop}(hM:HL H1 M ps)(hp:ps.length<=5000)(hD:H1 D=none)(k:∀ys H2,Same H1 H2->H2 D=some (.lst ((ps.map fun p=>mk p.fl).map V.str))->Fin ys H2):
  CompW (Itl K M) (gTup K 2 (gCons (gName 0) (gCons (gName 1) gNil))) tIf0 (tVar 1) [none,none] D Fin H1:=by
 obtain⟨Ts,h1,h2⟩:=hM.ex;have hTl:=h2.len;have hMD:M≠D:=q0w h1 hD;refine z4g (xs:=Ts.map V.ref) (fun i ys H'=>ys=(ps.take i).map (fun p=>V.str (mk p.fl))/\Same H1 H'/\H' D=some (.lst ys)/\i<=ps.length) ⟨rfl,(Same.refl H1).new hD,q0d,Bg _⟩ (fun i ys H' ⟨_,sm,hHD,_⟩=>⟨hHD,SqL.of (sm _ _ h1)⟩) ?_ ?_
 ·rintro i ys H' x hx ⟨rfl,sm,hHD,hi⟩;obtain⟨T,p,rfl,hp1,ht⟩:=h2.get hx;have hi':i<ps.length:=(Ak.mp hp1).1;refine⟨T,_,_,rfl,SqT.of (sm _ _ ht),_,rfl,hHD,small' (by rw[Ai,Bk];lia),?_,sm.put hD,q0d,hi'⟩;rw[q1e hp1,Bi];rfl
 ·rintro ys H' ⟨rfl,sm,hHD,hi⟩;have e:(ps.take (Ts.map V.ref).length).map (fun p=>V.str (mk p.fl))=(ps.map fun p=>mk p.fl).map V.str:=by
   rw[Ai,hTl,Ep,Hj];rfl
  rw[e] at hHD;exact k _ H' sm hHD
theorem z6u{ps:List Pt}(hz:(flat ps).length<=1000):((ps.map fun p=>mk p.fl).map (·.length)).sum+(ps.map fun p=>mk p.fl).length*(Ab "").length<=16777216:=by
 rw[z0x,Ai];have:(Ab "").length=0:=by decide +kernel
 rw[this];lia
theorem z8n{ps:List Pt}(w:WF ps):ps.length<=24:=by
 have h:=w.sz;have hok:=w.ok;clear w;have:∀qs:List Pt,(∀p∈qs,p.ok)->qs.length<=(flat qs).length:=by
  intro qs;induction qs with
  |nil=>intro _;exact Ah _
  |cons q r ih =>
   intro hq;have h1:=ih fun p hp=>hq p (Av _ hp);rw[q4m,Ae,Be];have h2:1<=q.fl.length:=by
    have:=hq q Bo;cases q with
    |gp c=>exact Ah _
    |tx l =>
     cases l with
     |nil=>exact absurd rfl this.1
     |cons c l=>simp[Pt.fl]
   lia
 have:=this ps hok;lia
abbrev PW(H:Hp):List Addr->List Pc->Prop:=Fg fun T p=>∃T1,H T=some (.tup [.ref T1,.str (mk p.wr)])/\H T1=some (.tup p.vs)
structure HPW (H:Hp) (L:Addr) (ps:List Pc):Prop where
 ex:∃Ts,H L=some (.lst (Ts.map V.ref))/\PW H Ts ps
def OneP(ps:List Pc):Prop:=(∃p,ps=[p]/\p.ok/\p≠.into/\p.wr.length<=30)\/∃t,ps=[.into,.tx t]/\(Pc.tx t).ok/\t.length<=4
abbrev vI(es:List Nat):List V:=es.map fun e:Nat=>V.int (e:Int)
structure PcIn (gm:Nat) (es:List Nat) (p:Pc):Prop where
 gp:∀k,gapNo p=some k->1<=k/\k<=gm
 mo:∀k m,p=.more k m->k∈es
def spPiece1:Sp:=fun vs H Q _=>∃a b M,∃gm:Nat,∃es,vs=[.ref a,.int (gm:Int),.ref M]/\FeedAt H a b/\H M=some (.lst (vI es))/\M≠a/\gm<=9/\es.length<=9/\(∀e∈es,1<=e/\e<=9)/\∀L ps H',OneP ps->(∀p∈ps,PcIn 9 es p)->HPW H' L ps->H L=none->Fd a b H H'->Q (.ref L) H'
structure CallsY (P:Program) (w:World) (K:Af) (mg:Str->Option Value) (base:Heap):Prop where
 draw:Cal P w K mg base "_law_draw" 1 ["_law_feed", "_law_many"] spDraw
 text:Cal P w K mg base "_law_text" 2 ["_law_feed", "_law_signs", "_law_size"] spText
 name_signs:Cal P w K mg base "_law_name_signs" 1 [] (spConst NSs)
theorem z9n(a b:List Nat):mk a++mk b=mk (a++b):=by apply ext;rw[q1d,q0z,q0z,q0z]
theorem hpw1{H:Hp}{p:Pc}{T1 T2 L:Addr}{s:Str}(h1:H T1=some (.tup p.vs))(h2:H T2=none)(h3:upd H T2 (.tup [.ref T1,.str s]) L=none)(hs:s=mk p.wr):
  HPW (upd (upd H T2 (.tup [.ref T1,.str s])) L (.lst [.ref T2])) L [p]:=by
 subst hs;have a:T1≠T2:=q0w h1 h2;have b:T2≠L:=q0w q0d h3;have c:T1≠L:=by
  intro z;subst z;rw[q0l a,h1] at h3;cases h3
 refine⟨[T2],q0d,.cons ⟨T1,?_,?_⟩ .nil⟩
 ·rw[q0l b];exact q0d
 ·rw[q0l c,q0l a];exact h1
theorem q6z{gm:Nat}{es:List Nat}{H Hx:Hp}{Q:VK}{a b:Addr}{p:Pc}{T1 T2 L:Addr}{s:Str}(k:∀L ps H',OneP ps->(∀p∈ps,PcIn gm es p)->HPW H' L ps->H L=none->Fd a b H H'->Q (.ref L) H')(fd:Fd a b H Hx)(h1:Hx T1=some (.tup p.vs))(h2:Hx T2=none)(h3:upd Hx T2 (.tup [.ref T1,.str s]) L=none)(hs:s=mk p.wr)(hok:p.ok)(hni:p≠.into)(hl:p.wr.length<=30)(hin:PcIn gm es p):Q (.ref L) (upd (upd Hx T2 (.tup [.ref T1,.str s])) L (.lst [.ref T2])) :=
 k L [p] _ (.inl ⟨p,rfl,hok,hni,hl⟩) (fun q hq=>by rw[Au.mp hq];exact hin) (hpw1 h1 h2 h3 hs) ((fd.new h2).free h3) ((fd.new h2).new h3)
theorem two_go{gm:Nat}{es:List Nat}{H Hx:Hp}{Q:VK}{a b:Addr}{t:List Nat}{T1 T2 T3 T4 L:Addr}{s:Str}(k:∀L ps H',OneP ps->(∀p∈ps,PcIn gm es p)->HPW H' L ps->H L=none->Fd a b H H'->Q (.ref L) H')(fd:Fd a b H Hx)(hs:s=mk [47])(h1:Hx T1=none)(h2:upd Hx T1 (.tup Pc.into.vs) T2=none)(h3:upd (upd Hx T1 (.tup Pc.into.vs)) T2 (.tup [.ref T1,.str s]) T3=none)(h4:upd (upd (upd Hx T1 (.tup Pc.into.vs)) T2 (.tup [.ref T1,.str s])) T3 (.tup (Pc.tx t).vs) T4=none)(h5:upd (upd (upd (upd Hx T1 (.tup Pc.into.vs)) T2 (.tup [.ref T1,.str s])) T3 (.tup (Pc.tx t).vs)) T4 (.tup [.ref T3,.str (mk t)]) L=none)(hok:(Pc.tx t).ok)(hl:t.length<=4):
  Q (.ref L) (upd (upd (upd (upd (upd Hx T1 (.tup Pc.into.vs)) T2 (.tup [.ref T1,.str s])) T3 (.tup (Pc.tx t).vs)) T4 (.tup [.ref T3,.str (mk t)])) L (.lst [.ref T2,.ref T4])):=by
 subst hs;generalize e1:upd Hx T1 (.tup Pc.into.vs)=H1 at *;have q1:H1 T1=some (.tup Pc.into.vs):=by rw[<- e1];exact q0d
 have f1:Fd a b H H1:=by rw[<- e1];exact fd.new h1
 generalize e2:upd H1 T2 (.tup [.ref T1,.str (mk [47])])=H2 at *;have q2:H2 T2=some (.tup [.ref T1,.str (mk [47])]):=by rw[<- e2];exact q0d
 have k2:Same H1 H2:=by rw[<- e2];exact(Same.refl _).new h2
 have f2:Fd a b H H2:=by rw[<- e2];exact f1.new h2
 generalize e3:upd H2 T3 (.tup (Pc.tx t).vs)=H3 at *;have q3:H3 T3=some (.tup (Pc.tx t).vs):=by rw[<- e3];exact q0d
 have k3:Same H2 H3:=by rw[<- e3];exact(Same.refl _).new h3
 have f3:Fd a b H H3:=by rw[<- e3];exact f2.new h3
 generalize e4:upd H3 T4 (.tup [.ref T3,.str (mk t)])=H4 at *;have q4:H4 T4=some (.tup [.ref T3,.str (mk t)]):=by rw[<- e4];exact q0d
 have k4:Same H3 H4:=by rw[<- e4];exact(Same.refl _).new h4
 have f4:Fd a b H H4:=by rw[<- e4];exact f3.new h4
 have k5:∀{o:HO},Same H4 (upd H4 L o):=(Same.refl _).new h5;refine k L [.into,.tx t] _ (.inr ⟨t,rfl,hok,hl⟩) (fun q hq=>by rcases Bd.mp hq with rfl|hq;exact⟨(fun k h=>by cases h),(fun k m h=>by cases h)⟩;rw[Au.mp hq];exact⟨(fun k h=>by cases h),(fun k m h=>by cases h)⟩) ⟨[T2,T4],q0d,.cons ⟨T1,?_,?_⟩ (.cons ⟨T3,?_,?_⟩ .nil)⟩ (f4.free h5) (f4.new h5)
 ·exact k5 _ _ (k4 _ _ (k3 _ _ q2))
 ·exact k5 _ _ (k4 _ _ (k3 _ _ (k2 _ _ q1)))
 ·exact k5 _ _ q4
 ·exact k5 _ _ (k4 _ _ q3)
theorem dgl(n:Nat):(Ab (toString (n:Int))).length=(dg n).length:=by rw[z3y,q0r]
theorem dg1{n:Nat}(h:n<=9):(Ab (toString (n:Int))).length=1:=by rw[dgl,q2g (by lia)];rfl
theorem t123:tl (Ab "{")=[123]:=by decide +kernel
theorem t125:tl (Ab "}")=[125]:=by decide +kernel
theorem t43:tl (Ab "+")=[43]:=by decide +kernel
theorem t122:tl (Ab "z")=[122]:=by decide +kernel
theorem t117:tl (Ab "u")=[117]:=by decide +kernel
theorem t108:tl (Ab "l")=[108]:=by decide +kernel
theorem t0:tl (Ab "")=[]:=by decide +kernel
theorem tn:tl (Ab "{n")=[123,110]:=by decide +kernel
theorem tdg{n:Nat}(h:n<=9):tl (Ab (toString (n:Int)))=[48+n]:=q2g (by lia)
theorem wne16{x y:String}(h:(Ab x==Ab y)=false):decide (V.str (Ab x)=V.str (Ab y))=false:=by rw[L2.dec_str];exact h
abbrev q9i:Stmt:=top 57
theorem sc_piece:FnScope ["_law_feed", "_law_gaps", "_law_more", "_law_way", "_law_signs", "_law_text_here", "_law_wide", "_law_sum_here", "_law_gap", "_law_word"] ["_law_feed", "_law_gaps", "_law_more"] (defScope q9i):=by trivial
theorem z8o(D:Df K mg "_law_piece" q9i ["_law_feed", "_law_gaps", "_law_more"])(T:Txt mg)(C:CallsY P w K mg base):Cal P w K mg base "_law_piece" 3 ["_law_feed", "_law_gaps", "_law_more"] spPiece1:=by
 refine D.cal sc_piece (fun vs H Q E h=>?_) (fun f cdv A outer s H vs Q E hr h=>?_)
 ·obtain⟨a,b,M,gm,es,rfl,_⟩:=h;rfl
 ·obtain⟨a,b,M,gm,es,rfl,F,hM,hMa,hgm,hesl,hes,k⟩:=h;refine⟨_,(q0c (q0k (i:=3) sc_piece.nd rfl (by trivial) (pe_c C.draw hr (q0a (pv 0) (q0a q0f q0b)))) (q0c (q0k (i:=4) sc_piece.nd rfl (by trivial) (q0x (ix_k K rfl) (q1b (q0a (pe_c0 C.name_signs hr) (q0a q0g q0b))) (pe_c C.draw hr (q0a (pv 0) (q0a q0f q0b))) (fun _ _=>rfl))) (q0c (q0k (i:=5) sc_piece.nd rfl (by trivial) (pe_c C.text hr (q0a (pv 0) (q0a (pv 4) (q0a (q0p q0j q0f (pe_c C.draw hr (q0a (pv 0) (q0a q0f q0b)))) q0b))))) (q0c (q0k (i:=6) sc_piece.nd rfl (by trivial) (q0p q0j q0f (pe_c C.draw hr (q0a (pv 0) (q0a q0f q0b))))) (q0c (q0k (i:=7) sc_piece.nd rfl (by trivial) (q0x (ix_k K rfl) (q1b (q0a (pe_c C.draw hr (q0a (pv 0) (q0a q0f q0b))) (q0a (pe_c C.draw hr (q0a (pv 0) (q0a (q0p q4f q0f q0f) q0b))) (q0a (q0p q3t (q0p q4f q0f q0f) q0f) q0b)))) (pe_c C.draw hr (q0a (pv 0) (q0a q0f q0b))) (fun _ _=>rfl))) (q0c (q0v (q0h (eq_k K rfl hr) (pv 3) q0f (nomark _)) (q0e (q0m (q1b (q0a (q0o (q0a (q0o (q0a q0g (q0a (pv 6) q0b))) (q0a (q0p q0j (q0p q0j q0g (q0x (ix_k K rfl) (q1b (q0a q0g (q0a (q1a q2b (by rfl) T.b_str (by decide +kernel) (q0a (pv 6) q0b)) q0b))) (q1a q1r (by rfl) T.b_int (by decide +kernel) (q0a (q5b q3v (pv 6) q0f (nomark _)) q0b)) (fun _ _=>rfl))) q0g) q0b))) q0b)))) q0i) (q0c (q0v (pt_j (@PW.pt _ _ _ (q1p (q0h (eq_k K rfl hr) (pv 3) q0f (nomark _)) (q1l (q0h q3v (q0n (q1q K rfl) (by rfl) T.b_len Ax (q0a (pv 2) q0b)) q0f (nomark _)))))) (q0c (q0k (i:=8) sc_piece.nd rfl (by trivial) (q0x (ix_k K rfl) (pv 2) (pe_c C.draw hr (q0a (pv 0) (q0a (q0n (q1q K rfl) (by rfl) T.b_len Ax (q0a (pv 2) q0b)) q0b))) (fun _ _=>rfl))) (q0e (q0m (q1b (q0a (q0o (q0a (q0o (q0a q0g (q0a (pv 8) (q0a (pv 7) q0b)))) (q0a (q0p q0j (q0p q0j (q0p q0j (q0p q0j q0g (q1a q2b (by rfl) T.b_str (by decide +kernel) (q0a (pv 8) q0b))) q0g) (q1a q2b (by rfl) T.b_str (by decide +kernel) (q0a (pv 7) q0b))) q0g) q0b))) q0b))))) q0i) (q0c (q0v (pt_j (@PW.pt _ _ _ (q1p (q0h q6c (pv 3) q0f (nomark _)) (q1p (q0h q3v (pv 1) q0f (nomark _)) (q1l (q0h q3v (pv 3) q0f (nomark _))))))) (q0c (q0k (i:=8) sc_piece.nd rfl (by trivial) (q0p q0j q0f (pe_c C.draw hr (q0a (pv 0) (q0a (pv 1) q0b))))) (q0c (q0k (i:=9) sc_piece.nd rfl (by trivial) (q0x (ix_k K rfl) (q1b (q0a q0g (q0a q0g (q0a q0g (q0a q0g q0b))))) (q0p q3t (pv 3) q0f) (fun _ _=>rfl))) (q0c (q0v (q0h (eq_k K rfl hr) (pv 9) q0g (nomark _)) (q0e (q0m (q1b (q0a (q0o (q0a (q0o (q0a (pv 9) (q0a (pv 8) (q0a (pv 6) q0b)))) (q0a (q0p q0j (q0p q0j (q0p q0j (q0p q0j q0g (q1a q2b (by rfl) T.b_str (by decide +kernel) (q0a (pv 8) q0b))) q0g) (q1a q2b (by rfl) T.b_str (by decide +kernel) (q0a (pv 6) q0b))) q0g) q0b))) q0b)))) q0i) (q0e (q0m (q1b (q0a (q0o (q0a (q0o (q0a (pv 9) (q0a (pv 8) q0b))) (q0a (q0p q0j (q0p q0j (q0p q0j q0g (q1a q2b (by rfl) T.b_str (by decide +kernel) (q0a (pv 8) q0b))) (q0x (ix_k K rfl) (q1b (q0a q0g (q0a q0g (q0a q0g q0b)))) (q0p q3t (pv 3) q0f) (fun _ _=>rfl))) q0g) q0b))) q0b))))))) q0i) (q0c (q0v (q0h (eq_k K rfl hr) (pv 3) q0f (nomark _)) (q0e (q0m (q1b (q0a (q0o (q0a (q0o (q0a q0g q0b)) (q0a q0g q0b))) (q0a (q0o (q0a (q0o (q0a q0g (q0a (pv 5) q0b))) (q0a (pv 5) q0b))) q0b))))) q0i) (q0e (q0m (q1b (q0a (q0o (q0a (q0o (q0a q0g (q0a (pv 5) q0b))) (q0a (pv 5) q0b))) q0b))))))))))))),?_⟩;refine⟨_,rfl,a,b,8,rfl,F,by decide,by decide,fun wy H1 w0 w1 fd1=>?_⟩;refine⟨rfl,by show 2<=sizeLine;decide,fun l hl=>?_⟩;have fdl:Fd a b H (upd H1 l (.lst [.str NSs,.str (Ab "a-0")])):=fd1.new hl;refine⟨_,rfl,a,b,2,rfl,fdl.feed,by decide,by decide,fun r H2 r0 r1 fd2=>?_⟩;have hla:l≠a:=fun z=>fd1.feed.na hl z.symm
  have hl1:=fd2.at q0d hla;obtain⟨x,hx1,hx2⟩:=q3f (xs:=[V.str NSs,V.str (Ab "a-0")]) r0 (by simpa using r1);refine .inl ⟨l,_,r,x,rfl,rfl,SqL.of hl1,hx2,?_⟩;obtain⟨g,rfl,g0,g1,g2⟩:∃g:Str,x=.str g/\0<g.length/\g.length<=1000/\∀c∈tl g,c∈NS:=by
   have hx:=Am hx1;simp only[Bd,Br,or_false] at hx;rcases hx with rfl|rfl
   ·exact⟨_,rfl,by rw[z2q];decide,by rw[z2q];decide,fun c h=>h⟩
   ·exact⟨_,rfl,by decide +kernel,by decide +kernel,by decide +kernel⟩
  have fdA:=fdl.trans fd2;refine⟨_,rfl,_,rfl,_,rfl,a,b,4,rfl,fdA.feed,by decide,by decide,fun m H3 m0 m1 fd3=>.inl ⟨_,_,rfl,rfl,?_⟩⟩;refine⟨a,b,g,_,rfl,fd3.feed,g0,g1,by lia,by lia,fun t H4 ht hc fd4=>?_⟩;have htok:(Pc.tx t).ok:=⟨fun z=>by rw[z] at ht;simp at ht;lia,fun c h=>g2 c (hc c h)⟩
  have htl:t.length<=4:=by lia
  have fdB:=(fdA.trans fd3).trans fd4;refine⟨_,rfl,a,b,9,rfl,fdB.feed,by decide,by decide,fun wd H5 wd0 wd1 fd5=>.inl ⟨_,_,rfl,rfl,?_⟩⟩;obtain⟨v,hv,hv1,hv9⟩:∃v:Nat,(1:Int)+wd=(v:Int)/\1<=v/\v<=9:=⟨(1+wd).toNat,by lia,by lia,by lia⟩
  rw[hv];have fdC:=fdB.trans fd5;refine⟨_,rfl,a,b,10,rfl,fdC.feed,by decide,by decide,fun s1 H6 s10 s11 fd6=>?_⟩;have fdD:=fdC.trans fd6;refine⟨_,rfl,_,_,rfl,rfl,⟨by decide,by decide,by decide⟩,a,b,_,rfl,fdD.feed,by decide,by decide,fun s2 H7 s20 s21 fd7=>?_⟩;have fdE:=fdD.trans fd7;refine⟨_,_,rfl,rfl,⟨by decide,by decide,by decide⟩,_,_,rfl,rfl,by show 3<=sizeLine;decide,fun l2 hl2=>?_⟩;have fdF:=fdE.new (o:=.lst [.int s1,.int s2,.int ((10:Int)^(9:Int).toNat-1)]) hl2;refine⟨_,rfl,a,b,3,rfl,fdF.feed,by decide,by decide,fun r3 H8 r30 r31 fd8=>?_⟩;have hl2a:l2≠a:=fun z=>fdE.feed.na hl2 z.symm;have hl28:=fd8.at q0d hl2a;obtain⟨y,hy1,hy2⟩:=q3f (xs:=[V.int s1,V.int s2,V.int ((10:Int)^(9:Int).toNat-1)]) r30 (by simpa using r31);refine .inl ⟨l2,_,r3,y,rfl,rfl,SqL.of hl28,hy2,?_⟩;have e9:((10:Int)^(9:Int).toNat)=1000000000:=by decide
  obtain⟨sm,rfl,hsm⟩:∃sm:Nat,y=.int (sm:Int)/\sm<10^9:=by
   have hy:=Am hy1;simp only[Bd,Br,or_false] at hy;rw[e9] at hy s21;rcases hy with rfl|rfl|rfl
   ·exact⟨s1.toNat,by congr 1;lia,by lia⟩
   ·exact⟨s2.toNat,by congr 1;lia,by lia⟩
   ·exact⟨999999999,rfl,by decide⟩
  have fdG:=fdF.trans fd8;have hM8:H8 M=some (.lst (vI es)):=fdG.at hM hMa;have pcg:∀{p:Pc} {n:Nat},gapNo p=some n->1<=n->n<=9->(∀k m,p≠.more k m)->PcIn 9 es p:=fun{p n} h1 h2 h3 h4=>⟨fun k h=>by rw[h1] at h;cases h;exact⟨h2,h3⟩,fun k m z=>absurd z (h4 k m)⟩
  have pcn:∀{p:Pc},gapNo p=none->PcIn 9 es p:=fun{p} h1=>⟨(fun k h=>by rw[h1] at h;cases h),(fun k m z=>by rw[z] at h1;cases h1)⟩
  have l123:(Ab "{").length=1:=by decide +kernel
  have l125:(Ab "}").length=1:=by decide +kernel
  have l43:(Ab "+").length=1:=by decide +kernel
  have l122:(Ab "z").length=1:=by decide +kernel
  have l117:(Ab "u").length=1:=by decide +kernel
  have l108:(Ab "l").length=1:=by decide +kernel
  have l0:(Ab "").length=0:=by decide +kernel
  have ln:(Ab "{n").length=2:=by decide +kernel
  have lv:=dg1 hv9;refine⟨_,rfl,.inl ⟨rfl,_,rfl,?_⟩⟩;refine ite2 (fun h6=>?_) (fun h6=>?_)
  ·refine⟨_,rfl,by show 2<=sizeLine;decide,fun T1 hT1=>⟨_,rfl,v,rfl,by lia,by show 2<=sizeLine;decide,fun l3 hl3=>?_⟩⟩;refine⟨_,rfl,_,_,rfl,rfl,.inl (.inr ⟨_,rfl,?_⟩)⟩;have fdT:=(fdG.new hT1).new (o:=.lst [.str (Ab ""),.str (Ab (toString (v:Int)))]) hl3;have q1:=((Same.refl _).new (o:=.lst [.str (Ab ""),.str (Ab (toString (v:Int)))]) hl3) T1 _ q0d;obtain⟨z,hz1,hz2,hz3⟩:∃z:Str,atI [V.str (Ab ""),V.str (Ab (toString (v:Int)))] (if decide ((1:Int)<(v:Int))=true then 1 else 0)=some (.str z)/\z.length<=1/\[123,110]++tl z++[125]=(Pc.cnt v).wr:=by
    by_cases hv2:v=1
    ·subst hv2;exact⟨Ab "",rfl,by rw[l0];decide,by rw[t0];rfl⟩
    ·refine⟨Ab (toString (v:Int)),?_,by lia,?_⟩
     ·rw[decide_eq_true (show(1:Int)<(v:Int) by lia)];rfl
     ·rw[tdg hv9];show _=123::110::cntW v;unfold cntW;rw[if_neg hv2];rfl
   refine .inl ⟨l3,_,_,_,rfl,rfl,SqL.of q0d,hz1,.inr (.inl ⟨_,_,rfl,rfl,TX.small (by lia),.inr (.inl ⟨_,_,rfl,rfl,TX.small (by rw[q0q];lia),?_⟩)⟩)⟩;refine⟨by show 2<=sizeLine;decide,fun T2 hT2=>⟨by show 1<=sizeLine;decide,fun L hL=>?_⟩⟩;refine q6z (p:=.cnt v) k fdT q1 hT2 hL ?_ ⟨hv1,hv9⟩ (fun h=>(by cases h)) ?_ (pcn rfl)
   ·apply ext;refine Ky ?_ (q0z _).symm;rw[q1d,q1d,tn,t125,hz3]
   ·rw[<- hz3,Ae,Ae,<- len];simp only[Be,Iw];lia
  refine⟨fun b H'=>H'=H8/\(b=true->0<es.length),?_,?_⟩;rotate_left
  ·refine⟨_,rfl,.inl ⟨rfl,_,rfl,?_⟩⟩;refine iteB (fun h=>?_) (fun h=>⟨rfl,fun z=>by cases z⟩);refine⟨_,rfl,_,_,rfl,.inl ⟨_,SqL.of hM8,rfl⟩,_,_,rfl,rfl,_,rfl,rfl,fun z=>?_⟩;have:=of_decide_eq_true z;rw[Ai] at this;lia
  rintro bb H9 ⟨rfl,hb5⟩;refine ite2 (fun h5=>?_) (fun h5=>?_)
  ·have hpos:=hb5 h5;refine⟨_,rfl,_,rfl,_,rfl,_,_,rfl,.inl ⟨_,SqL.of hM8,rfl⟩,a,b,_,rfl,fdG.feed,by rw[Ai];lia,by rw[Ai];lia,fun g0 H10 g00 g01 fd10=>?_⟩;obtain⟨y,hy1,hy2⟩:=q3f (xs:=vI es) g00 g01;refine .inl ⟨M,_,g0,y,rfl,rfl,SqL.of (fd10.at hM8 hMa),hy2,?_⟩;obtain⟨n,rfl,hne⟩:∃n:Nat,y=.int (n:Int)/\n∈es:=by
    obtain⟨n,h1,h2⟩:=Nr.mp (Am hy1);exact⟨n,h2.symm,h1⟩
   obtain⟨hn1,hng⟩:=hes n hne;have hn9:n<=9:=by lia
   have lg:=dg1 hn9;have lm:(Ab (toString (sm:Int))).length<=9:=by rw[dgl];exact q4t 8 sm hsm
   have fdH:=fdG.trans fd10;refine⟨_,rfl,_,rfl,by show 3<=sizeLine;decide,fun T1 hT1=>⟨_,rfl,n,rfl,by lia,.inr (.inl ⟨_,_,rfl,rfl,TX.small (by lia),.inr (.inl ⟨_,_,rfl,rfl,TX.small (by rw[q0q];lia),?_⟩)⟩)⟩⟩;refine⟨_,rfl,sm,rfl,by lia,.inr (.inl ⟨_,_,rfl,rfl,TX.small (by rw[q0q,q0q];lia),.inr (.inl ⟨_,_,rfl,rfl,TX.small (by rw[q0q,q0q,q0q];lia),?_⟩)⟩)⟩;refine⟨by show 2<=sizeLine;decide,fun T2 hT2=>⟨by show 1<=sizeLine;decide,fun L hL=>?_⟩⟩;refine q6z (p:=.more n sm) k (fdH.new hT1) q0d hT2 hL ?_ ⟨⟨hn1,hn9⟩,hsm⟩ (fun h=>(by cases h)) ?_ ⟨fun k h=>by cases h;exact⟨hn1,hng⟩,fun k m z=>by cases z;exact hne⟩
   ·apply ext;refine Ky ?_ (q0z _).symm;rw[q1d,q1d,q1d,q1d,t123,t43,t125,tdg hn9];rfl
   ·rw[dgl] at lm;show(123::(48+n)::43::(dg sm++[125])).length<=30;simp only[Be,Ae,Iw];lia
  refine⟨fun b H'=>H'=H9/\(b=true->(wy<5/\0<wy)/\0<gm),?_,?_⟩;rotate_left
  ·refine⟨_,rfl,_,_,rfl,rfl,_,rfl,?_⟩;refine iteB (fun h=>?_) (fun h=>⟨rfl,fun z=>by cases z⟩);refine⟨_,rfl,_,_,rfl,rfl,_,rfl,?_⟩;refine iteB (fun h2=>?_) (fun h2=>⟨rfl,fun z=>by cases z⟩);refine⟨_,rfl,_,_,rfl,rfl,_,rfl,rfl,fun z=>⟨⟨of_decide_eq_true h,of_decide_eq_true z⟩,?_⟩⟩;have:=of_decide_eq_true h2;lia
  rintro bb H10 ⟨rfl,hb4⟩;refine ite2 (fun h4=>?_) (fun h4=>?_)
  ·obtain⟨hw4,hg0⟩:=hb4 h4;refine⟨_,rfl,_,rfl,a,b,_,rfl,fdG.feed,by lia,by lia,fun g0 H11 g00 g01 fd11=>.inl ⟨_,_,rfl,rfl,?_⟩⟩;obtain⟨n,hn,hn1,hng⟩:∃n:Nat,(1:Int)+g0=(n:Int)/\1<=n/\n<=9:=⟨(1+g0).toNat,by lia,by lia,by lia⟩
   have hn9:n<=9:=by lia
   rw[hn];have lg:=dg1 hn9;have fdH:=fdG.trans fd11;refine⟨by show 4<=sizeLine;decide,fun l4 hl4=>⟨_,rfl,_,_,rfl,rfl,?_⟩⟩;have fdI:=fdH.new (o:=.lst [.str (Ab "gap"),.str (Ab "great"),.str (Ab "small"),.str (Ab "noughts")]) hl4;have hway:wy=1\/wy=2\/wy=3\/wy=4:=by lia
   rcases hway with rfl|rfl|rfl|rfl
   ·refine .inl ⟨l4,_,_,.str (Ab "gap"),rfl,rfl,SqL.of q0d,rfl,_,rfl,.inl ⟨rfl,_,rfl,?_⟩⟩;rw[wne16 (x := "gap") (y := "noughts") (by decide +kernel)];refine iteF ⟨_,rfl,_,rfl,by show 2<=sizeLine;decide,fun T1 hT1=>⟨_,rfl,n,rfl,by lia,.inr (.inl ⟨_,_,rfl,rfl,TX.small (by lia),by show 3<=sizeLine;decide,fun l5 hl5=>?_⟩)⟩⟩;refine⟨_,rfl,_,_,rfl,rfl,.inl ⟨l5,_,_,.str (Ab ""),rfl,rfl,SqL.of q0d,rfl,.inr (.inl ⟨_,_,rfl,rfl,TX.small (by rw[q0q];lia),.inr (.inl ⟨_,_,rfl,rfl,TX.small (by rw[q0q,q0q];lia),?_⟩)⟩)⟩⟩;refine⟨by show 2<=sizeLine;decide,fun T2 hT2=>⟨by show 1<=sizeLine;decide,fun L hL=>?_⟩⟩;refine q6z (p:=.gap n) k ((fdI.new hT1).new hl5) (((Same.refl _).new hl5) T1 _ q0d) hT2 hL ?_ ⟨hn1,hn9⟩ (fun h=>(by cases h)) (by show 3<=30;decide) (pcg rfl hn1 hng (fun _ _ z=>by cases z));apply ext;refine Ky ?_ (q0z _).symm;rw[q1d,q1d,q1d,t123,t0,t125,tdg hn9];rfl
   ·refine .inl ⟨l4,_,_,.str (Ab "great"),rfl,rfl,SqL.of q0d,rfl,_,rfl,.inl ⟨rfl,_,rfl,?_⟩⟩;rw[wne16 (x := "great") (y := "noughts") (by decide +kernel)];refine iteF ⟨_,rfl,_,rfl,by show 2<=sizeLine;decide,fun T1 hT1=>⟨_,rfl,n,rfl,by lia,.inr (.inl ⟨_,_,rfl,rfl,TX.small (by lia),by show 3<=sizeLine;decide,fun l5 hl5=>?_⟩)⟩⟩;refine⟨_,rfl,_,_,rfl,rfl,.inl ⟨l5,_,_,.str (Ab "u"),rfl,rfl,SqL.of q0d,rfl,.inr (.inl ⟨_,_,rfl,rfl,TX.small (by rw[q0q];lia),.inr (.inl ⟨_,_,rfl,rfl,TX.small (by rw[q0q,q0q];lia),?_⟩)⟩)⟩⟩;refine⟨by show 2<=sizeLine;decide,fun T2 hT2=>⟨by show 1<=sizeLine;decide,fun L hL=>?_⟩⟩;refine q6z (p:=.great n) k ((fdI.new hT1).new hl5) (((Same.refl _).new hl5) T1 _ q0d) hT2 hL ?_ ⟨hn1,hn9⟩ (fun h=>(by cases h)) (by show 4<=30;decide) (pcg rfl hn1 hng (fun _ _ z=>by cases z));apply ext;refine Ky ?_ (q0z _).symm;rw[q1d,q1d,q1d,t123,t117,t125,tdg hn9];rfl
   ·refine .inl ⟨l4,_,_,.str (Ab "small"),rfl,rfl,SqL.of q0d,rfl,_,rfl,.inl ⟨rfl,_,rfl,?_⟩⟩;rw[wne16 (x := "small") (y := "noughts") (by decide +kernel)];refine iteF ⟨_,rfl,_,rfl,by show 2<=sizeLine;decide,fun T1 hT1=>⟨_,rfl,n,rfl,by lia,.inr (.inl ⟨_,_,rfl,rfl,TX.small (by lia),by show 3<=sizeLine;decide,fun l5 hl5=>?_⟩)⟩⟩;refine⟨_,rfl,_,_,rfl,rfl,.inl ⟨l5,_,_,.str (Ab "l"),rfl,rfl,SqL.of q0d,rfl,.inr (.inl ⟨_,_,rfl,rfl,TX.small (by rw[q0q];lia),.inr (.inl ⟨_,_,rfl,rfl,TX.small (by rw[q0q,q0q];lia),?_⟩)⟩)⟩⟩;refine⟨by show 2<=sizeLine;decide,fun T2 hT2=>⟨by show 1<=sizeLine;decide,fun L hL=>?_⟩⟩;refine q6z (p:=.small n) k ((fdI.new hT1).new hl5) (((Same.refl _).new hl5) T1 _ q0d) hT2 hL ?_ ⟨hn1,hn9⟩ (fun h=>(by cases h)) (by show 4<=30;decide) (pcg rfl hn1 hng (fun _ _ z=>by cases z));apply ext;refine Ky ?_ (q0z _).symm;rw[q1d,q1d,q1d,t123,t108,t125,tdg hn9];rfl
   ·refine .inl ⟨l4,_,_,.str (Ab "noughts"),rfl,rfl,SqL.of q0d,rfl,_,rfl,.inl ⟨rfl,_,rfl,?_⟩⟩;rw[decide_eq_true rfl];refine iteT ⟨_,rfl,_,rfl,_,rfl,by show 3<=sizeLine;decide,fun T1 hT1=>⟨_,rfl,n,rfl,by lia,.inr (.inl ⟨_,_,rfl,rfl,TX.small (by lia),.inr (.inl ⟨_,_,rfl,rfl,TX.small (by rw[q0q];lia),?_⟩)⟩)⟩⟩;refine⟨_,rfl,v,rfl,by lia,.inr (.inl ⟨_,_,rfl,rfl,TX.small (by rw[q0q,q0q];lia),.inr (.inl ⟨_,_,rfl,rfl,TX.small (by rw[q0q,q0q,q0q];lia),?_⟩)⟩)⟩;refine⟨by show 2<=sizeLine;decide,fun T2 hT2=>⟨by show 1<=sizeLine;decide,fun L hL=>?_⟩⟩;refine q6z (p:=.nou n v) k (fdI.new hT1) q0d hT2 hL ?_ ⟨⟨hn1,hn9⟩,hv1,hv9⟩ (fun h=>(by cases h)) (by show 5<=30;decide) (pcg rfl hn1 hng (fun _ _ z=>by cases z));apply ext;refine Ky ?_ (q0z _).symm;rw[q1d,q1d,q1d,q1d,t123,t122,t125,tdg hn9,tdg hv9];rfl
  refine⟨_,rfl,.inl ⟨rfl,_,rfl,?_⟩⟩;refine ite2 (fun h7=>?_) (fun h7=>?_)
  ·refine⟨by show 1<=sizeLine;decide,fun T1 hT1=>⟨by show 2<=sizeLine;decide,fun T2 hT2=>⟨_,rfl,by show 2<=sizeLine;decide,fun T3 hT3=>⟨_,rfl,by show 2<=sizeLine;decide,fun T4 hT4=>⟨by show 2<=sizeLine;decide,fun L hL=>?_⟩⟩⟩⟩⟩;exact two_go k fdG (by apply ext;rw[q0z];decide +kernel) hT1 hT2 hT3 hT4 hL htok (by lia)
  refine⟨_,rfl,by show 2<=sizeLine;decide,fun T1 hT1=>⟨_,rfl,by show 2<=sizeLine;decide,fun T2 hT2=>⟨by show 1<=sizeLine;decide,fun L hL=>?_⟩⟩⟩;exact q6z (p:=.tx t) k (fdG.new hT1) q0d hT2 hL rfl htok (fun h=>(by cases h)) (by show t.length<=30;lia) (pcn rfl)
structure GP (qs:List Pc):Prop where
 ok:∀p∈qs,p.ok
 tt:∀i x y,qs[i]?=some (.tx x)->qs[i+1]?≠some (.tx y)
 ii:∀i,qs[i]?=some .into->1<=i/\qs[i-1]?≠some .into
 sz:(flatP qs).length<=56
theorem GP.nil:GP []:=⟨fun p h=>(by cases h),fun i x y h=>(by simp at h),fun i h=>(by simp at h),(by simp[flatP])⟩
theorem q5a(p:Pc):flatP [p]=p.wr:=by simp[flatP]
theorem GP.snoc{qs:List Pc}{p:Pc}(g:GP qs)(hok:p.ok)(ht:∀x y,p=.tx y->qs.getLast?≠some (.tx x))(hi:p=.into->qs≠[]/\qs.getLast?≠some .into)(hs:(flatP qs).length+p.wr.length<=56):GP (qs++[p]):=by
 refine⟨?_,?_,?_,?_⟩
 ·intro q hq;rcases Bh.mp hq with z|z
  ·exact g.ok q z
  ·rw[Au.mp z];exact hok
 ·intro i x y h1 h2;rcases Nat.lt_trichotomy (i+1) qs.length with z|z|z
  ·rw[Ba (by lia)] at h1;rw[Ba z] at h2;exact g.tt i x y h1 h2
  ·rw[Ba (by lia)] at h1;rw[Bl (by lia),show i+1-qs.length=0 by lia] at h2;have h3:p=.tx y:=by simpa using h2
   refine ht x y h3 ?_;rw[Hf,show qs.length-1=i by lia];exact h1
  ·rw[Ed (by simp;lia)] at h2;cases h2
 ·intro i h1;rcases Jc i qs.length with z|z
  ·rw[Ba z] at h1;obtain⟨a,b⟩:=g.ii i h1;exact⟨a,by rw[Ba (by lia)];exact b⟩
  ·have hlt:=(Ak.mp h1).1;rw[Ae,Aq] at hlt;have e:i=qs.length:=by lia
   subst e;rw[Bl (Ah _),Du] at h1;have hp:p=.into:=by simpa using h1
   obtain⟨a,b⟩:=hi hp;have:=Cw.mpr a;refine⟨this,?_⟩;rw[Ba (by lia),<- Hf];exact b
 ·rw[q2c,Ae,q5a];exact hs
theorem GP.init{qs:List Pc}{p:Pc}(g:GP (qs++[p])):GP qs:=by
 have lt:∀{i:Nat} {q:Pc},qs[i]?=some q->i<qs.length:=fun h=>(Ak.mp h).1;refine⟨fun q h=>g.ok q (Dh _ h),fun i x y h1 h2=>?_,fun i h=>?_,?_⟩
 ·exact g.tt i x y (by rw[Ba (lt h1)];exact h1) (by rw[Ba (lt h2)];exact h2)
 ·obtain⟨a,b⟩:=g.ii i (by rw[Ba (lt h)];exact h);have:=lt h;exact⟨a,by rwa [Ba (by lia)] at b⟩
 ·have:=g.sz;rw[q2c,Ae] at this;lia
theorem GP.merge{qs:List Pc}{x y:List Nat}(g:GP (qs++[.tx x]))(hy:(Pc.tx y).ok)(hs:(flatP (qs++[.tx x])).length+y.length<=56):GP (qs++[.tx (x++y)]):=by
 have hx:=g.ok (.tx x) (by simp);refine g.init.snoc ⟨fun z=>hx.1 (Hy.mp z).1,fun c hc=>?_⟩ (fun x' y' _ z=>?_) (fun h=>by cases h) ?_
 ·rcases Bh.mp hc with z|z
  ·exact hx.2 c z
  ·exact hy.2 c z
 ·rw[Hf] at z;have hlt:=(Ak.mp z).1;refine g.tt (qs.length-1) x' x (by rw[Ba hlt];exact z) ?_;rw[show qs.length-1+1=qs.length by lia,Bl (Ah _),Du];rfl
 ·rw[q2c,Ae,q5a] at hs;show(flatP qs).length+(x++y).length<=56;rw[Ae];have:(Pc.tx x).wr.length=x.length:=rfl;lia
def Pc.wd:Pc->Str
 |.tx _=>Ab "text"
 |.gap _=>Ab "gap"
 |.great _=>Ab "great"
 |.small _=>Ab "small"
 |.nou _ _=>Ab "noughts"
 |.more _ _=>Ab "more"
 |.cnt _=>Ab "count"
 |.into=>Ab "into"
def Pc.isI:Pc->Bool
 |.into=>true
 |_=>false
def Pc.isT:Pc->Bool
 |.tx _=>true
 |_=>false
theorem wd0(p:Pc):atI p.vs 0=some (.str p.wd):=by cases p<;>rfl
theorem wdI(p:Pc):decide (V.str p.wd=V.str (Ab "into"))=p.isI:=by
 rw[L2.dec_str];cases p<;>(simp only[Pc.wd,Pc.isI];decide +kernel)
theorem wdT(p:Pc):decide (V.str p.wd=V.str (Ab "text"))=p.isT:=by
 rw[L2.dec_str];cases p<;>(simp only[Pc.wd,Pc.isT];decide +kernel)
theorem z9o{p:Pc}(h:p.isT=true):∃x,p=.tx x:=by cases p<;>first|exact⟨_,rfl⟩|cases h
theorem z9p{p:Pc}(h:p.isI=true):p=.into:=by cases p<;>first|rfl|cases h
theorem isT_ne{p:Pc}(h:p.isT=false):∀x,p≠.tx x:=by intro x z;subst z;cases h
theorem HP.fd{a b L:Addr}{H H':Hp}{ps:List Pc}(h:HP H L ps)(F:FeedAt H a b)(fd:Fd a b H H')(hL:L≠a):HP H' L ps:=by
 obtain⟨Ts,h1,h2⟩:=h.ex;refine⟨Ts,fd.at h1 hL,h2.keep fun T xs e=>fd.at e fun z=>?_⟩;subst z;obtain⟨i,j,q⟩:=F.fa;rw[q] at e;cases e
theorem HP.last{H:Hp}{L:Addr}{qs:List Pc}{q:Pc}(h:HP H L (qs++[q])):∃Us U,H L=some (.lst ((Us++[U]).map V.ref))/\PTu H Us qs/\H U=some (.tup q.vs)/\atI ((Us++[U]).map V.ref) (-1)=some (.ref U):=by
 obtain⟨Ts,h1,h2⟩:=h.ex;have hl:=h2.len;have hne:Ts≠[]:=fun z=>by rw[z] at hl;simp at hl
 have e:=(Bq hne).symm;generalize Ts.dropLast=Us at e;generalize Ts.getLast hne=U at e;subst e;have hUl:Us.length=qs.length:=by simpa using hl
 refine⟨Us,U,h1,?_,?_,q5v Us U⟩
 ·have:∀{Us:List Addr} {qs:List Pc},Us.length=qs.length->PTu H (Us++[U]) (qs++[q])->PTu H Us qs:=by
   intro Us;induction Us with
   |nil=>intro qs hq _;cases qs with
    |nil=>exact .nil
    |cons _ _=>cases hq
   |cons A r ih=>intro qs hq hp;cases qs with
    |nil=>cases hq
    |cons p s=>cases hp with
     |cons x y=>exact .cons x (ih (by simpa using hq) y)
  exact this hUl h2
 ·obtain⟨p,p1,p2⟩:=h2.get (i:=Us.length) (T:=U) (by rw[Bl (Ah _),Du];rfl);rw[hUl,Bl (Ah _),Du] at p1;cases p1;exact p2
theorem HP.put{H:Hp}{L T:Addr}{qs:List Pc}{p:Pc}{Ts:List Addr}{xs:List V}(hL:H L=some (.lst xs))(h2:PTu H Ts qs)(hT:H T=some (.tup p.vs)):HP (upd H L (.lst ((Ts.map V.ref)++[.ref T]))) L (qs++[p]):=by
 refine⟨Ts++[T],by rw[Bi];exact q0d,PTu.snoc ?_ (h2.keep fun U ys e=>?_)⟩
 ·rw[q0l (fun z=>by subst z;rw[hL] at hT;cases hT)];exact hT
 ·rw[q0l (fun z=>by subst z;rw[hL] at e;cases e)];exact e
theorem q6a(qs:List Pc):Fl (.list (qs.map fun p=>.tuple p.ds)) (.list [])=decide (qs=[]):=by
 cases qs with
 |nil=>rfl
 |cons p r=>rw[q8y (by simp)];rfl
theorem z9q{qs:List Pc}(h:∀p∈qs,p.ok):qs.length<=(flatP qs).length:=by
 induction qs with
 |nil=>exact Ah _
 |cons q r ih =>
  have h1:=ih fun p hp=>h p (Av _ hp);have h2:=Cw.mpr (z6j (h q Bo));rw[q1s,Ae,Be];lia
theorem PW.get{H:Hp}:∀{Ts:List Addr} {ps:List Pc} {i:Nat} {T:Addr},PW H Ts ps->Ts[i]?=some T->∃p,ps[i]?=some p/\∃T1,H T=some (.tup [.ref T1,.str (mk p.wr)])/\H T1=some (.tup p.vs)
 |_,_,0,_,.cons h t,e=>by simp at e;subst e;exact⟨_,rfl,h⟩
 |_,_,i+1,_,.cons h t,e=>by
  obtain⟨p,h1,h2⟩:=PW.get t (by simpa using e);exact⟨p,by simpa using h1,h2⟩
structure CallsZ (P:Program) (w:World) (K:Af) (mg:Str->Option Value) (base:Heap):Prop where
 draw:Cal P w K mg base "_law_draw" 1 ["_law_feed", "_law_many"] spDraw
 piece:Cal P w K mg base "_law_piece" 3 ["_law_feed", "_law_gaps", "_law_more"] spPiece1
def spPiecesL:Sp:=fun vs H Q _=>∃a b M,∃gm:Nat,∃es,∃io:Bool,vs=[.ref a,.int (gm:Int),.ref M,.bl io]/\FeedAt H a b/\H M=some (.lst (vI es))/\M≠a/\gm<=9/\es.length<=9/\(∀e∈es,1<=e/\e<=9)/\∀T L ps H',WP ps->(∀q∈ps,PcIn 9 es q)->HP H' L ps->H' T=some (.tup [.ref L,.str (mk (flatP ps))])->H L=none->H T=none->Fd a b H H'->Q (.ref T) H'
def InP(gm:Nat)(es:List Nat)(ps:List Pc)(i:Nat)(qs:List Pc):Prop:=GP qs/\(qs.getLast?≠some .into\/(i=1/\ps.length=2/\(flatP qs).length<=51))/\∀q∈qs,PcIn 9 es q
theorem z6v(qs:List Pc):qs=[]\/∃rs q,qs=rs++[q]:=by
 by_cases h:qs=[]
 ·exact .inl h
 ·exact .inr ⟨qs.dropLast,qs.getLast h,(Bq h).symm⟩
theorem x1i{Ts:List Addr}{i:Nat}{x:V}(h:(Ts.map V.ref)[i]?=some x):∃T,Ts[i]?=some T/\x=.ref T:=by
 rw[Cy] at h;cases hz:Ts[i]? with
 |none=>rw[hz] at h;cases h
 |some T=>rw[hz] at h;cases h;exact⟨T,rfl,rfl⟩
theorem PW.keep{H H':Hp}(k:∀T xs,H T=some (.tup xs)->H' T=some (.tup xs)):∀{Ts:List Addr} {ps:List Pc},PW H Ts ps->PW H' Ts ps
 |_,_,.nil=>.nil
 |_,_,.cons ⟨T1,h1,h2⟩ t=>.cons ⟨T1,k _ _ h1,k _ _ h2⟩ (PW.keep k t)
theorem wp_x:WP [.tx [120]]:=by
 refine⟨by simp,fun p hp=>?_,fun i x y h1 h2=>?_,fun i h=>?_,fun q hq z=>?_,by decide⟩
 ·rw[Au.mp hp];exact⟨by simp,by decide +kernel⟩
 ·rw[Ed (by simp)] at h2;cases h2
 ·cases i with
  |zero=>cases h
  |succ i=>rw[Ed (by simp)] at h;cases h
 ·rw[z] at hq;cases hq
theorem z9r(rs:List Pc)(q:Pc):(rs++[q]).getLast?=some q:=by simp
abbrev q7a:Stmt:=top 58
theorem sc_pieces:FnScope ["_law_feed", "_law_gaps", "_law_more", "_law_intos", "_law_pieces_here", "_law_template", "_law_k", "_law_piece_here", "_law_text_here"] ["_law_feed", "_law_gaps", "_law_more", "_law_intos"] (defScope q7a):=by trivial
theorem z6w(D:Df K mg "_law_pieces" q7a ["_law_feed", "_law_gaps", "_law_more", "_law_intos"])(T:Txt mg)(C:CallsZ P w K mg base):Cal P w K mg base "_law_pieces" 4 ["_law_feed", "_law_gaps", "_law_more", "_law_intos"] spPiecesL:=by
 refine D.cal sc_pieces (fun vs H Q E h=>?_) (fun f cdv A outer s H vs Q E hr h=>?_)
 ·obtain⟨a,b,M,gm,es,io,rfl,_⟩:=h;rfl
 ·obtain⟨a,b,M,gm,es,io,rfl,F,hM,hMa,hgm,hesl,hes,k⟩:=h;refine⟨_,(q0c (q0k (i:=4) sc_pieces.nd rfl (by trivial) (q1b q0b)) (q0c (q0k (i:=5) sc_pieces.nd rfl (by trivial) q0g) (q0c (q1y Ca rfl (q3h rfl T.b_range (q0a (q0p q0j q0f (pe_c C.draw hr (q0a (pv 0) (q0a q0f q0b)))) q0b)) (q0s (i:=6) sc_pieces.nd rfl (by trivial)) (q0e (q1y Ca rfl (@q6n _ _ _ _ K rfl (pe_c C.piece hr (q0a (pv 0) (q0a (pv 1) (q0a (pv 2) q0b))))) (@q2f _ _ _ _ (2) _ K rfl rfl (q0u (q0s (i:=7) sc_pieces.nd rfl (by trivial)) (q0u (q0s (i:=8) sc_pieces.nd rfl (by trivial)) q1o)) (by rfl) (by rfl)) (q1g (q0v (pt_j (@PW.pt _ _ _ (q1p (q0h (eq_k K rfl hr) (q0x (ix_k K rfl) (pv 7) q0f (fun _ _=>rfl)) q0g (nomark _)) (q1l (pt_j (@PW.pt _ _ _ (q4d (q0h (eq_k K rfl hr) (pv 4) (q1b q0b) (nomark _)) (q4d (z8s (@z7o _ _ _ K rfl (pv 3) (fun _=>rfl))) (q3e (q0h q3v (q0n (q1q K rfl) (by rfl) T.b_len Ax (q0a (pv 5) q0b)) q0f (nomark _))))))))))) (q0e (q0k (i:=8) sc_pieces.nd rfl (by trivial) q0g)) q0i) (q1g (q0v (pt_j (@PW.pt _ _ _ (q1p (q0h (eq_k K rfl hr) (q0x (ix_k K rfl) (pv 7) q0f (fun _ _=>rfl)) q0g (nomark _)) (q1p (q0h (ne_k K rfl hr) (pv 4) (q1b q0b) (nomark _)) (q1l (q0h (eq_k K rfl hr) (q0x (ix_k K rfl) (q0x (ix_k K rfl) (pv 4) (q7z q4g q0f) (fun _ _=>rfl)) q0f (fun _ _=>rfl)) q0g (nomark _))))))) (q0e (q0k (i:=8) sc_pieces.nd rfl (by trivial) q0g)) q0i) (q0e (q0v (pt_j (@PW.pt _ _ _ (q1p (q0h op_le (q0p q0j (q0n (q1q K rfl) (by rfl) T.b_len Ax (q0a (pv 5) q0b)) (q0n (q1q K rfl) (by rfl) T.b_len Ax (q0a (pv 8) q0b))) q0f (nomark _)) (q1l (q0h (ne_k K rfl hr) (pv 8) q0g (nomark _)))))) (q0c (q0k (i:=5) sc_pieces.nd rfl (by trivial) (q0p q0j (pv 5) (pv 8))) (q1g (q0v (pt_j (@PW.pt _ _ _ (q1p (q0h (eq_k K rfl hr) (q0x (ix_k K rfl) (pv 7) q0f (fun _ _=>rfl)) q0g (nomark _)) (q1p (q0h (ne_k K rfl hr) (pv 4) (q1b q0b) (nomark _)) (q1l (q0h (eq_k K rfl hr) (q0x (ix_k K rfl) (q0x (ix_k K rfl) (pv 4) (q7z q4g q0f) (fun _ _=>rfl)) q0f (fun _ _=>rfl)) q0g (nomark _))))))) (q0e (q0k (i:=7) sc_pieces.nd rfl (by trivial) (q0o (q0a q0g (q0a (q0p q0j (q0x (ix_k K rfl) (@z5l _ _ _ _ _ _ _ _ _ K rfl Bc Ml Mm z8x (pv 4) (by rfl) (by rfl)) q0f (fun _ _=>rfl)) (q0x (ix_k K rfl) (pv 7) q0f (fun _ _=>rfl))) q0b))))) q0i) (q0e (q0y (@bm_k _ _ _ _ _ _ _ _ _ _ _ _ K rfl Bc Bv Bw q1j (pv 4) (q0a (pv 7) q0b) (by rfl) (by rfl) (by rfl) (by rfl) (by rfl)))))) q0i))))))) (q0c (q0v (q0h (eq_k K rfl hr) (pv 4) (q1b q0b) (nomark _)) (q0e (q0m (q0o (q0a (q1b (q0a (q0o (q0a q0g (q0a q0g q0b))) q0b)) (q0a q0g q0b))))) q0i) (q0e (q0m (q0o (q0a (pv 4) (q0a (pv 5) q0b))))))))),?_⟩;have e0:Ab "" = mk []:=by decide +kernel
  refine⟨by show 0<=sizeLine;decide,fun L hL=>?_⟩;have hLa:L≠a:=fun z=>F.na hL z.symm;have fdB:Fd a b H (upd H L (.lst [])):=(Fd.refl F).new hL;refine⟨_,rfl,a,b,9,rfl,fdB.feed,by decide,by decide,fun n H2 n0 n1 fd2=>.inl ⟨_,_,rfl,rfl,_,rfl,by lia,by lia,?_⟩⟩;have fdC:=fdB.trans fd2;refine q3i (fun i σ' H'=>∃qs x6 x7 x8,σ'=[some (.ref a),some (.int (gm:Int)),some (.ref M),some (.bl io),some (.ref L),some (.str (mk (flatP qs))),x6,x7,x8]/\Fd a b H H'/\HP H' L qs/\GP qs/\qs.getLast?≠some .into/\∀q∈qs,PcIn 9 es q)
   ⟨[],none,none,none,by rw[e0];rfl,fdC,⟨[],fd2.at q0d hLa,.nil⟩,GP.nil,by simp,fun _ h=>(nomatch h)⟩ ?_ ?_
  ·rintro i σ' H' hi ⟨qs0,x6,x7,x8,rfl,fd,hp0,gp0,gl0,pc0⟩;refine⟨_,rfl,_,rfl,_,rfl,a,b,M,gm,es,rfl,fd.feed,fd.at hM hMa,hMa,hgm,hesl,hes,fun L2 ps H3 hone hpin hpw hL2 fd3=>?_⟩;obtain⟨Ts,w1,w2⟩:=hpw.ex;have hL2a:L2≠a:=fun z=>fd.feed.na hL2 z.symm;have hLL:L2≠L:=fun z=>by
    obtain⟨Us,u1,_⟩:=hp0.ex;rw[z,u1] at hL2;cases hL2
   have hp3:=hp0.fd fd.feed fd3 hLa;refine .inl ⟨L2,rfl,⟨_,SqL.of w1⟩,?_⟩;refine q3o (xs:=Ts.map V.ref) (fun j σ2 H4=>∃qs x7 x8,σ2=[some (.ref a),some (.int (gm:Int)),some (.ref M),some (.bl io),some (.ref L),some (.str (mk (flatP qs))),some (.int (0+(i:Nat))),x7,x8]/\Fd a b H H4/\HP H4 L qs/\InP gm es ps j qs/\H4 L2=some (.lst (Ts.map V.ref))/\PW H4 Ts ps)
    ⟨qs0,x7,x8,rfl,fd.trans fd3,hp3,⟨gp0,.inl gl0,pc0⟩,w1,w2⟩ (fun j σ2 H4 _ ⟨_,_,_,_,_,_,_,z,_⟩=>SqL.of z) ?_ ?_
   ·rintro j x σ2 H4 hx ⟨qs,x7,x8,rfl,fd4,hp,hin,hl4,pw4⟩;obtain⟨T1,hx1,rfl⟩:=x1i hx;obtain⟨p,hp1,T2,ht1,ht2⟩:=pw4.get hx1;refine⟨T1,_,rfl,SqT.of ht1,rfl,_,_,rfl,_,_,rfl,rfl,?_⟩;have hgp:=hin.1;have hsz:=hgp.sz;have hql:=z9q hgp.ok;have hml:=q0r (flatP qs);have hwl:=q0r p.wr;have hST:∀t:List Nat,(List.length t=0↔t=[]):=fun t=>List.length_eq_zero_iff;have hJI:p=.into->qs.getLast?≠some .into:=by
     intro z;rcases hin.2.1 with h|⟨hj,hl,_⟩
     ·exact h
     ·rcases hone with⟨q,rfl,_⟩|⟨t,rfl,_⟩
      ·simp at hl
      ·subst hj;rw[z] at hp1;simp at hp1
    refine⟨fun σ3 H5=>∃t:List Nat,σ3=[some (.ref a),some (.int (gm:Int)),some (.ref M),some (.bl io),some (.ref L),some (.str (mk (flatP qs))),some (.int (0+(i:Nat))),some (.ref T2),some (.str (mk t))]/\Same H4 H5/\(t=p.wr\/t=[])/\(p≠.into->t=p.wr)/\(p=.into->t=p.wr->qs≠[]/\(flatP qs).length<=50),?_,?_⟩;rotate_left
    ·refine⟨fun bb H5=>Same H4 H5/\(p≠.into->bb=false)/\(p=.into->bb=false->qs≠[]/\(flatP qs).length<=50),?_,?_⟩
     ·rintro bb H5 ⟨sm5,hb0,hbb⟩;refine ite2 (fun h1=>⟨[],by rw[e0];rfl,sm5,.inr rfl,fun z=>?_,fun z1 z2=>?_⟩) (fun h1=>⟨p.wr,rfl,sm5,.inl rfl,fun _=>rfl,fun z1 _=>hbb z1 (by simpa using h1)⟩)
      ·rw[hb0 z] at h1;cases h1
      ·subst z1;cases z2
     refine⟨_,rfl,.inr (.inl ⟨T2,_,0,_,rfl,rfl,SqT.of ht2,wd0 p,.inl ⟨rfl,_,rfl,?_⟩⟩)⟩;rw[wdI];refine iteB (fun h=>?_) (fun h=>⟨Same.refl H4,fun _=>rfl,fun z=>(by subst z;cases h)⟩);have hpi:=z9p h;refine⟨fun bb H5=>Same H4 H5/\(bb=false->qs≠[]/\(flatP qs).length<=50),?_,?_⟩
     ·rintro bb H5 ⟨s5,hb⟩;exact⟨s5,fun z=>absurd hpi z,fun _=>hb⟩
     obtain⟨Us,b1,b2⟩:=hp.ex;refine⟨_,rfl,by show 0<=sizeLine;decide,fun E0 hE0=>?_⟩;have smE:Same H4 (upd H4 E0 (.lst [])):=(Same.refl H4).new hE0;obtain⟨Us,b1,b2⟩:=(hp.same smE).ex;refine .inr ⟨_,_,.lst (SqL.of b1) b2.dts,.lst (SqL.of q0d) .nil,lays hgp.ok,rfl,?_,_,rfl,?_⟩
     ·refine Aw (Dm _ _) ?_;decide +kernel
     rw[q6a];refine iteB (fun h2=>⟨smE,fun z=>(by cases z)⟩) (fun h2=>?_);refine⟨_,rfl,io,rfl,?_⟩;cases io
     ·exact iteT ⟨smE,fun z=>(by cases z)⟩
     refine iteF ⟨_,rfl,_,_,rfl,⟨TX.small (by lia),rfl⟩,_,_,rfl,rfl,_,rfl,smE,fun z=>⟨of_decide_eq_false h2,?_⟩⟩;have:=of_decide_eq_false z;lia
    rintro σ3 H5 ⟨t,rfl,sm5,ht,htN,htI⟩;have hp5:=hp.same sm5;have ht25:=sm5 _ _ ht2;refine⟨fun σ3 H6=>∃t:List Nat,σ3=[some (.ref a),some (.int (gm:Int)),some (.ref M),some (.bl io),some (.ref L),some (.str (mk (flatP qs))),some (.int (0+(i:Nat))),some (.ref T2),some (.str (mk t))]/\Same H4 H6/\(t=p.wr\/t=[])/\(p≠.into->t=p.wr)/\(p=.into->t=p.wr->qs≠[]/\(flatP qs).length<=50),?_,?_⟩;rotate_left
    ·refine⟨fun bb H6=>Same H4 H6/\(p≠.into->bb=false),?_,?_⟩
     ·rintro bb H6 ⟨sm6,hb0⟩;refine ite2 (fun h1=>⟨[],by rw[e0];rfl,sm6,.inr rfl,fun z=>?_,fun z1 z2=>?_⟩) (fun h1=>⟨t,rfl,sm6,ht,htN,htI⟩)
      ·rw[hb0 z] at h1;cases h1
      ·subst z1;cases z2
     refine⟨_,rfl,.inr (.inl ⟨T2,_,0,_,rfl,rfl,SqT.of ht25,wd0 p,.inl ⟨rfl,_,rfl,?_⟩⟩)⟩;rw[wdI];refine iteB (fun h=>?_) (fun h=>⟨sm5,fun _=>rfl⟩);have hpi:=z9p h;refine⟨_,rfl,by show 0<=sizeLine;decide,fun E0 hE0=>?_⟩;have smE:Same H5 (upd H5 E0 (.lst [])):=(Same.refl H5).new hE0;obtain⟨Us,b1,b2⟩:=(hp5.same smE).ex;refine .inr ⟨_,_,.lst (SqL.of b1) b2.dts,.lst (SqL.of q0d) .nil,lays hgp.ok,rfl,?_,_,rfl,?_⟩
     ·refine Aw (Dm _ _) ?_;decide +kernel
     rw[q6a];refine iteB (fun h2=>?_) (fun h2=>⟨sm5.trans smE,fun z=>absurd hpi z⟩);rcases z6v qs with z|⟨rs,q,hq⟩
     ·rw[decide_eq_true z] at h2;cases h2
     have hpE:=hp5.same smE;rw[hq] at hpE;obtain⟨Vs,U,c1,c2,c3,c4⟩:=hpE.last;refine⟨_,rfl,_,rfl,.inl ⟨L,_,-1,_,rfl,rfl,SqL.of c1,c4,.inr (.inl ⟨U,_,0,_,rfl,rfl,SqT.of c3,wd0 q,.inl ⟨rfl,_,rfl,sm5.trans smE,fun z=>absurd hpi z⟩⟩)⟩⟩
    rintro σ3 H6 ⟨t,rfl,sm6,ht,htN,htI⟩;have hp6:=hp.same sm6;have ht26:=sm6 _ _ ht2;have htl:t.length<=p.wr.length:=by
     rcases ht with z|z
     ·rw[z];exact Ah _
     ·rw[z];exact Bg _
    have hpw30:p.wr.length<=30/\p.ok:=by
     have hm:=Am hp1;rcases hone with⟨q,rfl,q1,_,q2⟩|⟨u,rfl,q1,q2⟩
     ·rw[Au.mp hm];exact⟨q2,q1⟩
     ·rcases Bd.mp hm with z|z
      ·rw[z];exact⟨by decide,trivial⟩
      ·rw[Au.mp z];exact⟨Aw q2 (by decide),q1⟩
    have hml2:=q0r t;refine⟨fun bb H7=>Same H4 H7/\(bb=true↔((flatP qs).length+t.length<=56/\t≠[])),?_,?_⟩;rotate_left
    ·refine⟨_,rfl,_,_,rfl,⟨TX.small (by lia),rfl⟩,_,rfl,_,_,rfl,⟨TX.small (by lia),rfl⟩,.inl ⟨_,_,rfl,rfl,_,_,rfl,rfl,_,rfl,?_⟩⟩;refine iteB (fun h=>?_) (fun h=>⟨sm6,?_⟩)
     ·have h':=of_decide_eq_true h;refine⟨_,rfl,.inl ⟨rfl,_,rfl,sm6,?_⟩⟩;rw[z0j,Bool.not_eq_true',decide_eq_false_iff_not];exact⟨fun z=>⟨by lia,z⟩,fun z=>z.2⟩
     ·have h':=of_decide_eq_false h;exact⟨fun z=>(by cases z),fun z=>absurd z.1 (by lia)⟩
    rintro bb H7 ⟨sm7,hbb⟩;have hp7:=hp.same sm7;have ht27:=sm7 _ _ ht2;refine ite2 (fun h1=>?_) (fun h1=>?_)
    ·obtain⟨hfit,hne⟩:=hbb.mp h1;have et:t=p.wr:=ht.resolve_right hne;subst et;refine⟨_,rfl,_,rfl,.inr (.inl ⟨_,_,rfl,rfl,TX.small (by lia),?_⟩)⟩;rw[z9n];refine⟨fun σ3 H8=>∃rs p' T5,σ3=[some (.ref a),some (.int (gm:Int)),some (.ref M),some (.bl io),some (.ref L),some (.str (mk (flatP qs++p.wr))),some (.int (0+(i:Nat))),some (.ref T5),some (.str (mk p.wr))]/\Fd a b H H8/\HP H8 L rs/\H8 T5=some (.tup p'.vs)/\GP (rs++[p'])/\(∀q∈rs++[p'],PcIn 9 es q)/\flatP (rs++[p'])=flatP qs++p.wr/\(p'=.into->p=.into)/\H8 L2=some (.lst (Ts.map V.ref))/\PW H8 Ts ps,?_,?_⟩
     ·rintro σ3 H8 ⟨rs,p',T5,rfl,fd8,hp8,hT5,gp8,pc8,hfl8,hi8,hl8,pw8⟩;obtain⟨Us,a1,a2⟩:=hp8.ex;have hUl:=a2.len;have hrl:=z9q gp8.ok;have hz8:=gp8.sz;rw[Ae,Aq] at hrl;refine⟨_,rfl,.inl ⟨rfl,hp8.sq⟩,_,rfl,L,_,_,rfl,rfl,a1,by rw[Ai];exact TX.small' (by lia),?_⟩;refine⟨rs++[p'],_,_,by rw[hfl8],fd8.put F hL,HP.put a1 a2 hT5,⟨gp8,?_,pc8⟩,by rw[q0l hLL];exact hl8,pw8.keep fun Tx xs e=>?_⟩
      ·by_cases hpi:p'=.into
       ·refine .inr ?_;have hz:=hi8 hpi;rcases hone with⟨q,rfl,_,q1,_⟩|⟨u,rfl,_⟩
        ·have:=Am hp1;rw[Au.mp this] at hz;exact absurd hz q1
        ·have hj:j=0:=by
          cases j with
          |zero=>rfl
          |succ j =>
           cases j with
           |zero=>rw[hz] at hp1;simp at hp1
           |succ j=>rw[Ed (by simp)] at hp1;cases hp1
         refine⟨by rw[hj],rfl,?_⟩;rw[hfl8,Ae];have:=(htI hz rfl).2;rw[hz];show(flatP qs).length+1<=51;lia
       ·refine .inl fun z=>hpi ?_;rw[z9r] at z;injection z
      ·rw[q0l (fun z=>by subst z;rw[a1] at e;cases e)];exact e
     refine⟨fun bb H8=>Same H4 H8/\(bb=true->(∃y,p=.tx y)/\∃rs x,qs=rs++[.tx x])/\(bb=false->∀x y,p=.tx y->qs.getLast?≠some (.tx x)),?_,?_⟩;rotate_left
     ·refine⟨_,rfl,.inr (.inl ⟨T2,_,0,_,rfl,rfl,SqT.of ht27,wd0 p,.inl ⟨rfl,_,rfl,?_⟩⟩)⟩;rw[wdT];refine iteB (fun h=>?_) (fun h=>⟨sm7,fun z=>(by cases z),fun _ x y z=>(by rw[z] at h;cases h)⟩);have hpt:=z9o h;refine⟨_,rfl,by show 0<=sizeLine;decide,fun E0 hE0=>?_⟩;have smE:Same H7 (upd H7 E0 (.lst [])):=(Same.refl H7).new hE0;obtain⟨Us,b1,b2⟩:=(hp7.same smE).ex;refine .inr ⟨_,_,.lst (SqL.of b1) b2.dts,.lst (SqL.of q0d) .nil,lays hgp.ok,rfl,?_,_,rfl,?_⟩
      ·refine Aw (Dm _ _) ?_;decide +kernel
      rw[q6a];rcases z6v qs with z|⟨rs,q,hq⟩
      ·rw[decide_eq_true z];refine iteF ⟨sm7.trans smE,fun z=>(by cases z),fun _ x y _ z2=>?_⟩;rw[z] at z2;cases z2
      rw[decide_eq_false (by rw[hq];simp)];refine iteT ?_;have hpE:=hp7.same smE;rw[hq] at hpE;obtain⟨Vs,U,c1,c2,c3,c4⟩:=hpE.last;refine⟨_,rfl,_,rfl,.inl ⟨L,_,-1,_,rfl,rfl,SqL.of c1,c4,.inr (.inl ⟨U,_,0,_,rfl,rfl,SqT.of c3,wd0 q,.inl ⟨rfl,_,rfl,sm7.trans smE,fun z=>?_,fun z x y _ z2=>?_⟩⟩)⟩⟩
      ·rw[wdT] at z;obtain⟨x,rfl⟩:=z9o z;exact⟨hpt,rs,x,hq⟩
      ·rw[wdT] at z;rw[hq,z9r] at z2;injection z2 with z2;exact isT_ne z x z2
     rintro bb H8 ⟨sm8,hT,hF⟩;have hp8:=hp.same sm8;have ht28:=sm8 _ _ ht2;refine ite2 (fun h2=>?_) (fun h2=>?_)
     ·obtain⟨⟨y,rfl⟩,rs,x,rfl⟩:=hT h2;obtain⟨Vs,U,c1,c2,c3,c4⟩:=hp8.last;have ho:=hgp.ok (.tx x) (by simp);have hx56:x.length<=56:=by
       have:=hgp.sz;rw[q2c,Ae,q5a] at this;have e:(Pc.tx x).wr.length=x.length:=rfl;lia
      have hLU:U≠L:=fun z=>by rw[z,c1] at c3;cases c3
      have hLT:T2≠L:=fun z=>by rw[z,c1] at ht28;cases ht28
      refine⟨_,rfl,.inl ⟨rfl,⟨_,SqL.of c1⟩⟩,L,_,.ref U,rfl,rfl,c1,by simp,.inr (.inl ⟨U,_,1,.str (mk x),rfl,rfl,SqT.of (by rw[q0l hLU];exact c3),rfl,?_⟩)⟩;refine⟨_,rfl,.inr (.inl ⟨T2,_,1,.str (mk y),rfl,rfl,SqT.of (by rw[q0l hLT];exact ht28),rfl,.inr (.inl ⟨_,_,rfl,rfl,TX.small (by rw[q0r,q0r];have:=hpw30.1;have e:(Pc.tx y).wr.length=y.length:=rfl;lia),by show 2<=sizeLine;decide,fun T5 hT5=>?_⟩)⟩)⟩;rw[z9n] at *;have edl:((Vs++[U]).map V.ref).dropLast=Vs.map V.ref:=by simp
      have kp:∀Tx xs,H8 Tx=some (.tup xs)->upd (upd H8 L (.lst (((Vs++[U]).map V.ref).dropLast))) T5 (.tup [.str (Ab "text"),.str (mk (x++y))]) Tx=some (.tup xs):=by
       intro Tx xs e;have hne:Tx≠L:=fun z=>by rw[z,c1] at e;cases e
       refine((Same.refl _).new hT5) _ _ ?_;rw[q0l hne];exact e
      refine⟨rs,.tx (x++y),T5,rfl,((fd4.same sm8).put F hL).new hT5,⟨Vs,?_,c2.keep kp⟩,q0d,hgp.merge hpw30.2 hfit,fun q hq=>?_,?_,fun z=>(by cases z),?_,?_⟩
      ·refine((Same.refl _).new hT5) _ _ ?_;rw[q0d,edl]
      ·rcases Bh.mp hq with z|z
       ·exact hin.2.2 q (Dh _ z)
       ·rw[Au.mp z];exact⟨(fun k h=>by cases h),(fun k m h=>by cases h)⟩
      ·simp[flatP,Pc.wr]
      ·refine((Same.refl _).new hT5) _ _ ?_;rw[q0l hLL];exact sm8 _ _ hl4
      ·exact(pw4.keep fun Tx xs e=>sm8 _ _ e).keep kp
     ·have h2':bb=false:=by simpa using h2
      refine⟨qs,p,T2,rfl,fd4.same sm8,hp8,ht28,hgp.snoc hpw30.2 (hF h2') (fun z=>⟨(htI z rfl).1,hJI z⟩) hfit,(fun q hq=>(Bh.mp hq).elim (fun z=>hin.2.2 q z) fun z=>by rw[Au.mp z];exact hpin p (Am hp1)),by rw[q2c,q5a],fun z=>z,sm8 _ _ hl4,pw4.keep fun Tx xs e=>sm8 _ _ e⟩
    ·refine⟨qs,_,_,rfl,fd4.same sm7,hp7,⟨hgp,?_,hin.2.2⟩,sm7 _ _ hl4,pw4.keep fun Tx xs e=>sm7 _ _ e⟩;rcases hin.2.1 with h|⟨hj,hl,hlen⟩
     ·exact .inl h
     ·exfalso;refine h1 (hbb.mpr ?_);rcases hone with⟨q,rfl,_⟩|⟨u,rfl,q1,q2⟩
      ·simp at hl
      ·subst hj;have hpu:p=.tx u:=by simpa using hp1.symm
       have:=htN (by rw[hpu];exact fun z=>(by cases z));rw[this,hpu];exact⟨by show(flatP qs).length+u.length<=56;lia,q1.1⟩
   ·rintro σ2 H4 ⟨qs,x7,x8,rfl,fd4,hp,hin,_,_⟩;refine⟨qs,_,_,_,rfl,fd4,hp,hin.1,?_,hin.2.2⟩;rcases hin.2.1 with h|⟨h1,h2,_⟩
    ·exact h
    ·have:=Fw w2;rw[Ai] at h1;lia
  ·rintro σ' H' ⟨qs,x6,x7,x8,rfl,fd,hp,gp,gl,pc⟩;have hgl:=gp.sz;refine⟨_,rfl,by show 0<=sizeLine;decide,fun E0 hE0=>?_⟩;have smE:Same H' (upd H' E0 (.lst [])):=(Same.refl H').new hE0;have hpE:=hp.same smE;obtain⟨Us,b1,b2⟩:=hpE.ex;refine .inr ⟨_,_,.lst (SqL.of b1) b2.dts,.lst (SqL.of q0d) .nil,lays gp.ok,rfl,?_,_,rfl,?_⟩
   ·refine Aw (Dm _ _) ?_;decide +kernel
   rw[q6a];have fdE:=fd.new (o:=.lst []) hE0;refine ite2 (fun h1=>?_) (fun h1=>?_)
   ·refine⟨by show 2<=sizeLine;decide,fun T1 hT1=>⟨by show 1<=sizeLine;decide,fun L2 hL2=>⟨by show 2<=sizeLine;decide,fun T3 hT3=>?_⟩⟩⟩;have ex:Ab "x" = mk (flatP [.tx [120]]):=by decide +kernel
    have s2:=(Same.refl _).new (o:=.lst [.ref T1]) hL2;have s3:=(Same.refl _).new (o:=.tup [.ref L2,.str (Ab "x")]) hT3;have fd1:=fdE.new (o:=.tup [.str (Ab "text"),.str (Ab "x")]) hT1;have fd2':=fd1.new (o:=.lst [.ref T1]) hL2;refine k T3 L2 [.tx [120]] _ wp_x (fun q hq=>by rw[Au.mp hq];exact⟨(fun k h=>by cases h),(fun k m h=>by cases h)⟩) ⟨[T1],?_,.cons ?_ .nil⟩ ?_ (fd1.free hL2) (fd2'.free hT3) (fd2'.new hT3)
    ·exact s3 _ _ q0d
    ·have e1:(Pc.tx [120]).vs=[.str (Ab "text"),.str (Ab "x")]:=by rw[ex];rfl
     rw[e1];exact s3 _ _ (s2 _ _ q0d)
    ·rw[<- ex];exact q0d
   ·have hne:qs≠[]:=fun z=>h1 (decide_eq_true z);refine⟨_,rfl,_,rfl,by show 2<=sizeLine;decide,fun T3 hT3=>?_⟩;refine k T3 L qs _ ⟨hne,gp.ok,gp.tt,gp.ii,fun q hq z=>?_,by lia⟩ pc ⟨Us,?_,?_⟩ q0d hL ?_ (fdE.new hT3)
    ·rw[z] at hq;exact gl hq
    ·exact((Same.refl _).new hT3) _ _ b1
    ·exact b2.keep fun Tx xs e=>((Same.refl _).new hT3) _ _ e
    ·exact fdE.free hT3
structure GoOk (kd:Str) (gs:List Nat) (qs:List Pc) (st:Int):Prop where
 kok:inV (.str kd) kinds3=true
 s0:0<=st
 s1:st<=1000000000
 ask:∀q∈qs,AskOk kd gs q
def NoGoG(kd:Str)(gs:List Nat)(qs:List Pc)(st:Int):Prop:=inV (.str kd) kinds3=false\/(∃q∈qs,Bdp kd gs q)\/st<0\/1000000000<st
def spGoes:Sp:=fun vs H Q _=>∃kd st L M ps qs,vs=[.str kd,.int st,.ref L,.ref M]/\HL H L ps/\ps.length<=100/\HP H M qs/\(∀q∈qs,q.ok) /\
 ∀(b:Bool) H',Same H H'->(b=true->GoOk kd (gsOf ps) qs st)->(b=false->NoGoG kd (gsOf ps) qs st)->Q (.bl b) H'
abbrev z2a:Stmt:=top 59
theorem sc_goes:FnScope ["_law_kind", "_law_start_here", "_law_parts_here", "_law_pieces_here", "_law_gaps", "_law_piece_here"] ["_law_kind", "_law_start_here", "_law_parts_here", "_law_pieces_here"] (defScope z2a):=by trivial
theorem x1j(D:Df K mg "_law_goes" z2a ["_law_kind", "_law_start_here", "_law_parts_here", "_law_pieces_here"])(T:Txt mg):Cal P w K mg base "_law_goes" 1 ["_law_kind", "_law_start_here", "_law_parts_here", "_law_pieces_here"] spGoes:=by
 refine D.cal sc_goes (fun vs H Q E h=>?_) (fun f cdv A outer s H vs Q E hr h=>?_)
 ·obtain⟨kd,st,L,M,ps,qs,rfl,_⟩:=h;rfl
 ·obtain⟨kd,st,L,M,ps,qs,rfl,hl1,hpl,hp2,qok,k⟩:=h;refine⟨_,(q0c (q8g (i:=4) ["_law_word", "_law_sign"] [] sc_goes.nd rfl (by trivial) rfl (@q6n _ _ _ _ K rfl (pv 2)) (fun _ _ _ _ _=>(@q2f _ _ _ _ (2) _ K rfl rfl (q0u (q0s (i:=0) (show(["_law_word", "_law_sign"]:List Str).Nodup by decide +kernel) rfl (by trivial)) (q0u (q0s (i:=1) (show(["_law_word", "_law_sign"]:List Str).Nodup by decide +kernel) rfl (by trivial)) q1o)) (by rfl) (by rfl))) (fun _ _ _ _ _=>(q8e (q0h (eq_k K rfl hr) (pv 0) q0g (nomark _)))) (fun _ _ _ _ _=>(pv 1))) (q0c (q0v (pt_j (@PW.pt _ _ _ (q4d (q0h (z1h K rfl) (pv 0) (q0o (q0a q0g (q0a q0g (q0a q0g q0b)))) (by with_unfolding_all rfl)) (q4d (q0h q6c (pv 1) q0f (nomark _)) (q3e (q0h q3v (pv 1) (q0p q4f q0f q0f) (nomark _))))))) (q0e (q0m q2s)) q0i) (q0c (q1y Ca rfl (@q6n _ _ _ _ K rfl (pv 3)) (q0s (i:=5) sc_goes.nd rfl (by trivial)) (q0c (q0v (pt_j (@PW.pt _ _ _ (q1p (q0h (eq_k K rfl hr) (q0x (ix_k K rfl) (pv 5) q0f (fun _ _=>rfl)) q0g (nomark _)) (q1l (q0h (ne_k K rfl hr) (pv 0) q0g (nomark _)))))) (q0e (q0m q2s)) q0i) (q0c (q0v (pt_j (@PW.pt _ _ _ (q1p (q0h (in_k K rfl) (q0x (ix_k K rfl) (pv 5) q0f (fun _ _=>rfl)) (q0o (q0a q0g (q0a q0g (q0a q0g (q0a q0g (q0a q0g q0b)))))) (by with_unfolding_all rfl)) (q1l (q0h q3v (q0x (ix_k K rfl) (pv 5) q0f (fun _ _=>rfl)) (q0n (q1q K rfl) (by rfl) T.b_len Ax (q0a (pv 4) q0b)) (nomark _)))))) (q0e (q0m q2s)) q0i) (q0e (q0v (pt_j (@PW.pt _ _ _ (q1p (q0h (eq_k K rfl hr) (q0x (ix_k K rfl) (pv 5) q0f (fun _ _=>rfl)) q0g (nomark _)) (q1l (q0h (ne_k K rfl hr) (q0x (ix_k K rfl) (pv 4) (q0p q3t (q0x (ix_k K rfl) (pv 5) q0f (fun _ _=>rfl)) q0f) (fun _ _=>rfl)) q0g (nomark _)))))) (q0e (q0m q2s)) q0i))))) (q0e (q0m q2s))))),?_⟩;have e9:((10:Int)^(9:Int).toNat)=1000000000:=by decide
  obtain⟨Ts,t1,t2⟩:=hl1.ex;have hTl:=t2.len;refine⟨_,rfl,.inl ⟨L,rfl,⟨_,SqL.of t1⟩,fun D hD=>?_⟩⟩;refine q4k (xs:=Ts.map V.ref) (fun i ys H'=>ys=vG (gsOf (ps.take i))/\Same H H'/\H' D=some (.lst ys)/\i<=ps.length) ⟨rfl,(Same.refl H).new hD,q0d,Bg _⟩ (fun i ys H' ⟨_,sm,hHD,_⟩=>⟨hHD,SqL.of (sm _ _ t1)⟩) ?_ ?_
  ·rintro i ys H' x hx ⟨rfl,sm,hHD,hi⟩;obtain⟨T1,p,rfl,hp1,ht⟩:=t2.get hx;have hi':=(Ak.mp hp1).1;refine⟨T1,_,rfl,SqT.of (sm _ _ ht),rfl,_,_,rfl,_,_,rfl,rfl,q3p,?_⟩;refine⟨_,rfl,.inl ⟨rfl,_,rfl,?_⟩⟩;rw[wgg];have hg:=q3s (ps.take i);rw[Bk] at hg;cases p with
   |tx t =>
    refine iteF ⟨?_,sm,hHD,hi'⟩;rw[q2t hp1];show vG _=vG (_++[]);rw[Dd]
   |gp c =>
    refine iteT ⟨_,rfl,hHD,TX.small' (by rw[Ai];lia),?_,sm.put hD,q0d,hi'⟩;rw[q2t hp1];show _=(gsOf _++[c]).map _;rw[Bi];rfl
  rintro ys H3 ⟨rfl,sm3,hHD,_⟩;rw[Ai,hTl,Ep] at hHD;have hgp:=q3s ps;generalize hgs:gsOf ps=gs at *;have hlen:∀n:Nat,True:=fun _=>trivial;refine⟨fun bb H'=>Same H3 H'/\(bb=true->NoGoG kd gs qs st)/\(bb=false->inV (.str kd) kinds3=true/\0<=st/\st<=1000000000),?_,?_⟩;rotate_left
  ·refine⟨_,rfl,by show 3<=sizeLine;decide,fun T3 hT3=>.inr ⟨T3,_,rfl,.inr (SqT.of q0d),rfl,by decide +kernel,_,rfl,?_⟩⟩;have s4:=(Same.refl H3).new (o:=.tup kinds3) hT3;show if (!inV (.str kd) kinds3)=true then _ else _
   refine ite2 (fun h=>⟨s4,fun _=>.inl (by simpa using h),fun z=>(by cases z)⟩) (fun h=>?_);have hk:inV (.str kd) kinds3=true:=by simpa using h
   refine⟨_,rfl,_,_,rfl,rfl,_,rfl,?_⟩;refine iteB (fun h=>⟨s4,fun _=>.inr (.inr (.inl (of_decide_eq_true h))),fun z=>(by cases z)⟩) (fun h0=>?_);refine⟨_,rfl,_,_,rfl,rfl,⟨by decide,by decide,by decide⟩,_,_,rfl,rfl,_,rfl,s4,fun z=>.inr (.inr (.inr ?_)),fun z=>⟨hk,?_,?_⟩⟩
   ·have:=of_decide_eq_true z;rw[e9] at this;exact this
   ·have:=of_decide_eq_false h0;lia
   ·have:=of_decide_eq_false z;rw[e9] at this;lia
  rintro bb H4 ⟨s4,hbT,hbF⟩;refine ite2 (fun h=>k false _ (sm3.trans s4) (fun z=>by cases z) (fun _=>hbT h)) (fun h=>?_);obtain⟨hk,h0,h1⟩:=hbF (by simpa using h);have hD4:=s4 _ _ hHD;have hp4:=(hp2.same sm3).same s4;obtain⟨Us,u1,u2⟩:=hp4.ex;have hul:=u2.len;refine⟨_,rfl,.inl ⟨M,rfl,⟨_,SqL.of u1⟩,?_⟩⟩;refine q3o (xs:=Us.map V.ref) (fun i σ' H'=>∃x5,σ'=[some (.str kd),some (.int st),some (.ref L),some (.ref M),some (.ref D),x5]/\Same H4 H'/\∀j q,j<i->qs[j]?=some q->AskOk kd gs q) ⟨none,rfl,Same.refl H4,fun j q z=>absurd z (Ll j)⟩ (fun i σ' H' _ ⟨_,_,e,_⟩=>SqL.of (e _ _ u1)) ?_ ?_
  ·rintro i x σ' H' hx ⟨x5,rfl,s5,hpre⟩;obtain⟨T1,hT1,rfl⟩:∃T,Us[i]?=some T/\x=.ref T:=by
    rw[Cy] at hx;cases hz:Us[i]? with
    |none=>rw[hz] at hx;cases hx
    |some T=>rw[hz] at hx;cases hx;exact⟨T,rfl,rfl⟩
   obtain⟨p,hp1,ht⟩:=u2.get hT1;have hpm:=Am hp1;have pok:=qok p hpm;have ht5:=s5 _ _ ht;have hD5:=s5 _ _ hD4;have kF:∀H'',Same H' H''->Bdp kd gs p->Q (.bl false) H'':=fun H'' s6 bd=>k false _ ((sm3.trans s4).trans (s5.trans s6)) (fun z=>by cases z) (fun _=>.inr (.inl ⟨p,hpm,bd⟩))
   refine⟨fun bb H6=>H6=H'/\(bb=true->p=.into/\kd≠Ab "slip")/\(bb=false->p=.into->kd=Ab "slip"),?_,?_⟩;rotate_left
   ·refine⟨_,rfl,.inr (.inl ⟨T1,_,0,_,rfl,rfl,SqT.of ht5,pw0 p,.inl ⟨rfl,_,rfl,?_⟩⟩)⟩;rw[pwI];refine iteB (fun h=>?_) (fun h=>⟨rfl,fun z=>(by cases z),fun _ z=>(by rw[z] at h;cases h)⟩);have hi:p=.into:=by cases p<;>first|rfl|cases h
    refine⟨_,rfl,.inl ⟨rfl,_,rfl,rfl,fun z=>⟨hi,fun y=>?_⟩,fun z _=>?_⟩⟩
    ·rw[y,decide_eq_true rfl] at z;cases z
    ·exact Cv fun y=>by rw[decide_eq_false (fun q=>y (by injection q))] at z;cases z
   rintro bb H6 ⟨rfl,hbT,hbF⟩;refine ite2 (fun h=>kF _ (Same.refl _) (.inr (hbT h))) (fun h=>?_);have hio:=hbF (by simpa using h);refine⟨fun bb H7=>Same H6 H7/\(bb=true->∃n,gapNo p=some n/\gs.length<n)/\(bb=false->∀n,gapNo p=some n->n<=gs.length),?_,?_⟩;rotate_left
   ·refine⟨_,rfl,.inr (.inl ⟨T1,_,0,_,rfl,rfl,SqT.of ht5,pw0 p,by show 5<=sizeLine;decide,fun T5 hT5=>.inr ⟨T5,_,rfl,.inr (SqT.of q0d),rfl,by decide +kernel,_,rfl,?_⟩⟩)⟩;have s7:=(Same.refl H6).new (o:=.tup ofGap) hT5;show if inV (.str (pcWd p)) ofGap=true then _ else _
    rw[inGap];refine ite2 (fun h=>?_) (fun h=>⟨s7,fun z=>(by cases z),fun _ n hn=>(by rw[hn] at h;exact absurd rfl h)⟩);obtain⟨n,hn⟩:=Ei.mp h;refine⟨_,rfl,.inr (.inl ⟨T1,_,1,_,rfl,rfl,SqT.of (s7 _ _ ht5),q5y hn,_,rfl,_,_,rfl,.inl ⟨_,SqL.of (s7 _ _ hD5),rfl⟩,_,_,rfl,rfl,_,rfl,s7,fun z=>⟨n,hn,?_⟩,fun z n' hn'=>?_⟩)⟩
    ·rw[Ai] at z;have:=of_decide_eq_true z;lia
    ·rw[Ai] at z;rw[hn] at hn';cases hn';have:=of_decide_eq_false z;lia
   rintro bb H7 ⟨s7,hgT,hgF⟩;refine ite2 (fun h=>kF _ s7 (let ⟨n,a,b⟩:=hgT h;.inl ⟨n,a,.inl b⟩)) (fun h=>?_);have hle:=hgF (by simpa using h);refine⟨fun bb H8=>H8=H7/\(bb=true->∃n,gapNo p=some n/\isMo p=true/\gs[n-1]?≠some 35)/\(bb=false->∀n m,p=.more n m->gs[n-1]?=some 35),?_,?_⟩;rotate_left
   ·refine⟨_,rfl,.inr (.inl ⟨T1,_,0,_,rfl,rfl,SqT.of (s7 _ _ ht5),pw0 p,.inl ⟨rfl,_,rfl,?_⟩⟩)⟩;rw[pwM];refine iteB (fun h=>?_) (fun h=>⟨rfl,fun z=>(by cases z),fun _ n m z=>(by rw[z] at h;cases h)⟩);obtain⟨n,m,hpe⟩:∃n m,p=.more n m:=by cases p<;>first|exact⟨_,_,rfl⟩|cases h
    have hn:gapNo p=some n:=by rw[hpe];rfl
    obtain⟨hn1,_⟩:=z3g pok hn;have hnl:=hle n hn;have hd:gs[n-1]?=some gs[n-1]:=Ap (by lia);have key:decide (V.str (mk [gs[n-1]])=V.str (Ab "#"))=decide (gs[n-1]?=some 35):=by
     refine decide_eq_decide.mpr ⟨fun z=>?_,fun z=>?_⟩
     ·injection z with z;have:=congrArg tl z;rw[q0z,show tl (Ab "#")=[35] by decide +kernel] at this;injection this with h1 _;rw[hd,h1]
     ·rw[hd] at z;injection z with z;rw[z];exact congrArg V.str (by decide +kernel)
    refine⟨_,rfl,_,rfl,.inr (.inl ⟨T1,_,1,_,rfl,rfl,SqT.of (s7 _ _ ht5),q5y hn,_,_,rfl,rfl,.inl ⟨D,_,_,_,rfl,rfl,SqL.of (s7 _ _ hD5),x1c hn1 hd,.inl ⟨rfl,_,rfl,rfl,fun z=>⟨n,hn,by rw[hpe];rfl,fun y=>?_⟩,fun z n' m' e=>?_⟩⟩⟩)⟩
    ·rw[key,y] at z;cases z
    ·rw[hpe] at e;cases e;rw[key] at z;exact of_decide_eq_true (by simpa using z)
   rintro bb H8 ⟨rfl,hmT,hmF⟩;refine ite2 (fun h=>kF _ s7 (let ⟨n,a,b,c⟩:=hmT h;.inl ⟨n,a,.inr ⟨hle n a,b,c⟩⟩)) (fun h=>?_);have hmo:=hmF (by simpa using h);refine⟨_,rfl,s5.trans s7,fun j q hj hq=>?_⟩;rcases Nx (Oh hj) with z|z
   ·exact hpre j q z hq
   ·subst z;rw[hp1] at hq;cases hq;exact⟨fun n hn=>⟨(z3g pok hn).1,hle n hn⟩,hmo,hio⟩
  ·rintro σ' H' ⟨x5,rfl,s5,hall⟩;refine k true _ ((sm3.trans s4).trans s5) (fun _=>⟨hk,h0,h1,fun q hq=>?_⟩) (fun z=>by cases z);obtain⟨j,hj,e⟩:=Gx.mp hq;exact hall j q (by rw[Ai];lia) (by rw[Ap hj,e])
structure CallsSt7 (P:Program) (w:World) (K:Af) (mg:Str->Option Value) (base:Heap):Prop where
 draw:Cal P w K mg base "_law_draw" 1 ["_law_feed", "_law_many"] spDrawB
def spStart:Sp:=fun vs H Q _=>∃a b,vs=[.ref a]/\FeedAt H a b/\∀(st:Int) H',Fd a b H H'->Q (.int st) H'
abbrev q9j:Stmt:=top 60
theorem sc_start:FnScope ["_law_feed", "_law_some"] ["_law_feed"] (defScope q9j):=by trivial
theorem z8p(D:Df K mg "_law_start" q9j ["_law_feed"])(T:Txt mg)(C:CallsSt7 P w K mg base):Cal P w K mg base "_law_start" 2 ["_law_feed"] spStart:=by
 refine D.cal sc_start (fun vs H Q E h=>?_) (fun f cdv A outer s H vs Q E hr h=>?_)
 ·obtain⟨a,b,rfl,_⟩:=h;rfl
 ·obtain⟨a,b,rfl,F,k⟩:=h;refine⟨_,(q0c (q0k (i:=1) sc_start.nd rfl (by trivial) (q1b (q0a q0f (q0a (q0p q4f q0f q0f) (q0a (pe_c C.draw hr (q0a (pv 0) (q0a q0f q0b))) (q0a (pe_c C.draw hr (q0a (pv 0) (q0a (q0p q0j (q0p q4f q0f q0f) q0f) q0b))) (q0a (q0p q3t (q7z q4g q0f) (pe_c C.draw hr (q0a (pv 0) (q0a (q0p q4f q0f q0f) q0b)))) (q0a (q0p q0j (q0p q0j (q0p q4f q0f q0f) q0f) (pe_c C.draw hr (q0a (pv 0) (q0a (q0p q4f q0f q0f) q0b)))) q0b)))))))) (q0e (q0m (q0x (ix_k K rfl) (pv 1) (pe_c C.draw hr (q0a (pv 0) (q0a q0f q0b))) (fun _ _=>rfl))))),?_⟩;refine⟨_,_,rfl,rfl,⟨by decide,by decide,by decide⟩,?_⟩;refine⟨_,rfl,a,b,10,rfl,F,by decide,by decide,fun r1 H1 _ _ fd1=>?_⟩;refine⟨_,rfl,_,_,rfl,rfl,⟨by decide,by decide,by decide⟩,.inl ⟨_,_,rfl,rfl,a,b,_,rfl,fd1.feed,by decide,by decide,fun r2 H2 _ _ fd2=>?_⟩⟩;have fdA:=fd1.trans fd2;refine⟨_,rfl,_,rfl,_,_,rfl,rfl,⟨by decide,by decide,by decide⟩,a,b,_,rfl,fdA.feed,by decide,by decide,fun r3 H3 _ _ fd3=>⟨_,_,rfl,rfl,?_⟩⟩;have fdB:=fdA.trans fd3;refine⟨_,_,rfl,rfl,⟨by decide,by decide,by decide⟩,.inl ⟨_,_,rfl,rfl,_,rfl,_,_,rfl,rfl,⟨by decide,by decide,by decide⟩,a,b,_,rfl,fdB.feed,by decide,by decide,fun r4 H4 _ _ fd4=>.inl ⟨_,_,rfl,rfl,by show 6<=sizeLine;decide,fun L hL=>?_⟩⟩⟩;have fdC:=fdB.trans fd4;generalize hxs:[V.int 0,V.int ((10:Int)^(9:Int).toNat),V.int r1,V.int r2,_,_]=xs;have fdD:=fdC.new (o:=.lst xs) hL;have hLa:L≠a:=fun z=>fdC.feed.na hL z.symm
  refine⟨_,rfl,_,rfl,a,b,6,rfl,fdD.feed,by decide,by decide,fun r5 H5 r50 r51 fd5=>?_⟩;obtain⟨y,hy1,hy2⟩:=q3f (xs:=xs) r50 (by subst hxs;simpa using r51);refine .inl ⟨L,_,r5,y,rfl,rfl,SqL.of (fd5.at q0d hLa),hy2,?_⟩;obtain⟨i,rfl⟩:∃i,y=.int i:=by
   have hy:=Am hy1;subst hxs;simp only[Bd,Br,or_false] at hy;rcases hy with rfl|rfl|rfl|rfl|rfl|rfl<;>exact⟨_,rfl⟩
  exact k i _ (fdD.trans fd5)
theorem q7g{l:List Nat}{i:Nat}(h:WrongAt l i)(g:Good l):False:=by
 rcases h with⟨h,_⟩|⟨_,h,_⟩
 ·exact g.ne h
 ·refine h fun c hc=>⟨?_,g.sg c (Am hc)⟩
  exact Aw (Ia ((Fh _ _).filter _)) g.gp
inductive Run:Sx->List Nat->Sx->Prop
 |nil {s:Sx}:Run s [] s
 |cons {s s1 s2:Sx} {c:Nat} {r:List Nat}:nx s c=some s1->Run s1 r s2->Run s (c::r) s2
theorem Run.app{s t u:Sx}{x y:List Nat}(h:Run s x t)(g:Run t y u):Run s (x++y) u:=by
 induction h with
 |nil=>exact g
 |cons a _ ih=>exact .cons a (ih g)
theorem Run.stp{s t:Sx}{x:List Nat}(h:Run s x t):∀(l:List Nat) (a:Nat),(∀j,j<x.length->l[a+j]?=x[j]?)->Stp l a s (a+x.length) t:=by
 induction h with
 |nil=>intro l a _;exact .refl
 | @cons s s1 s2 c r e _ ih =>
  intro l a hl;have h0:l[a]?=some c:=hl 0 (by simp);have h1:=ih l (a+1) fun j hj=>by
   have:=hl (j+1) (by simpa using hj);rw[show a+1+j=a+(j+1) by lia,this];rfl
  rw[Be,show a+(r.length+1)=a+1+r.length by lia];exact .step h0 e h1
theorem Run.all{t:Sx}{x r:List Nat}(h:Run .beg x t):Stp (x++r) 0 .beg x.length t:=by
 have:=h.stp (x++r) 0 fun j hj=>by rw[Nat.zero_add,Ba hj]
 rwa [Nat.zero_add] at this
theorem q5m{s:Sx}(hs:s=.beg\/s=.into\/s=.beh):nx s 123=some .opn:=by
 rcases hs with rfl|rfl|rfl<;>(simp only[nx];rw[if_neg no123];rfl)
theorem z9s:∀{l:List Nat} {s:Sx},l≠[]->(∀c∈l,c∈NS)->(s=.beg\/s=.into\/s=.beh)->Run s l .beh
 |[c],s,_,h,hs=>.cons (z8l hs (h c (by simp))) .nil
 |c::d::r,s,_,h,hs=>.cons (z8l hs (h c (by simp))) (z9s (l:=d::r) (by simp) (fun x hx=>h x (Av _ hx)) (.inr (.inr rfl)))
theorem d1_of:∀v,v<10->1<=v->48+v∈D1/\48+v≠110:=by decide +kernel
theorem d2_of:∀v,v<10->2<=v->48+v∈D2:=by decide +kernel
theorem q7v{v:Nat}(h:v<10)(h1:1<=v):nx .opn (48+v)=some .gap:=by
 obtain⟨a,b⟩:=d1_of v h h1;show(if _ then _ else _)=_;rw[if_neg b,if_pos a]
theorem dg_d9{m:Nat}:∀c∈dg m,c∈D9:=by
 intro c hc;exact(by decide +kernel:∀v∈FI,v∈D9) c (z9e m c hc)
theorem z3h:∀(l:List Nat) (k:Nat),(∀c∈l,c∈D9)->k+1+l.length<=9->Run (.sum (k+1)) l (.sum (k+1+l.length))
 |[],k,_,_=>.nil
 |c::r,k,h,hl=>by
  rw[Be] at hl;refine .cons (s1:=.sum (k+2)) ?_ ?_
  ·show(if _ then _ else _)=_;rw[if_pos ⟨h c (by simp),by lia⟩]
  ·have:=z3h r (k+1) (fun x hx=>h x (Av _ hx)) (by lia);rw[Be,show k+1+(r.length+1)=k+1+1+r.length by lia];exact this
theorem nx_end{k:Nat}:nx (.sum (k+1)) 125=some .beh:=by
 have h:(125:Nat)∉D9:=by decide +kernel
 simp[nx,h]
theorem x1k{m:Nat}(h:m<10^9):Run (.sum 0) (dg m++[125]) .beh:=by
 by_cases hm:m=0
 ·subst hm;rw[show dg 0=[48] by decide +kernel];exact .cons (s1:=.cls) rfl (.cons rfl .nil)
 ·have hl:=q4t 8 m h;have hd:=dg_d9 (m:=m);obtain⟨d,r,e,hd10,hd0⟩:=z1p m;rw[e] at hl hd ⊢;rw[Be] at hl;refine .cons (s1:=.sum 1) ?_ ((z3h r 0 (fun x hx=>hd x (Av _ hx)) (by lia)).app (.cons ?_ .nil))
  ·have h1:¬48+d=48:=fun z=>hm (hd0 (by lia)).1;have h2:=hd (48+d) (by simp);show(if 48+d=48 then _ else if 48+d∈D9 then _ else _)=_;rw[if_neg h1,if_pos h2]
  ·rw[show 0+1+r.length=r.length+1 by lia];exact nx_end
theorem run_pc{p:Pc}(h:p.ok)(hi:p≠.into){s:Sx}(hs:s=.beg\/s=.into\/s=.beh):Run s p.wr .beh:=by
 cases p with
 |tx l=>exact z9s h.1 h.2 hs
 |gap k=>exact .cons (q5m hs) (.cons (q7v (by have:=h.2;lia) h.1) (.cons rfl .nil))
 |great k=>exact .cons (q5m hs) (.cons (q7v (by have:=h.2;lia) h.1) (.cons (s1:=.cls) rfl (.cons rfl .nil)))
 |small k=>exact .cons (q5m hs) (.cons (q7v (by have:=h.2;lia) h.1) (.cons (s1:=.cls) rfl (.cons rfl .nil)))
 |nou k w =>
  refine .cons (q5m hs) (.cons (q7v (by have:=h.1.2;lia) h.1.1) (.cons (s1:=.nou) rfl (.cons (s1:=.cls) ?_ (.cons rfl .nil))));show(if _ then _ else _)=_;rw[if_pos (d1_of w (by have:=h.2.2;lia) h.2.1).1]
 |more k m=>exact .cons (q5m hs) (.cons (q7v (by have:=h.1.2;lia) h.1.1) (.cons (s1:=.sum 0) rfl (x1k h.2)))
 |cnt v =>
  refine .cons (q5m hs) (.cons (s1:=.cnt) rfl ?_);unfold cntW;by_cases hv:v=1
  ·rw[if_pos hv];exact .cons rfl .nil
  ·rw[if_neg hv];refine .cons (s1:=.cls) ?_ (.cons rfl .nil);show(if _ then _ else _)=_;rw[if_pos (d2_of v (by have:=h.2;lia) (by have:=h.1;lia))]
 |into=>exact absurd rfl hi
theorem z6x:∀(qs:List Pc) (s:Sx),(∀p∈qs,p.ok)->(∀i,qs[i]?=some .into->(i=0->s=.beh)/\(1<=i->qs[i-1]?≠some .into))->(s=.beg\/s=.into\/s=.beh) ->
  ∃t,Run s (flatP qs) t/\(qs=[]->t=s)/\(∀q,qs.getLast?=some q->q≠.into->t=.beh)
 |[],s,_,_,_=>⟨s,.nil,fun _=>rfl,fun q h=>by cases h⟩
 |p::r,s,hok,hii,hs=>by
  obtain⟨t1,r1,ht1,ht2⟩:∃t1,Run s p.wr t1/\(t1=.beg\/t1=.into\/t1=.beh)/\(p≠.into->t1=.beh):=by
   by_cases hp:p=.into
   ·subst hp;have:=(hii 0 rfl).1 rfl;subst this;exact⟨.into,.cons (s1:=.into) (by simp only[nx];rw[if_neg no47];rfl) .nil,.inr (.inl rfl),fun z=>absurd rfl z⟩
   ·exact⟨.beh,run_pc (hok p (by simp)) hp hs,.inr (.inr rfl),fun _=>rfl⟩
  obtain⟨t,r2,e1,e2⟩:=z6x r t1 (fun q hq=>hok q (Av _ hq)) (fun i hi=>⟨fun h0=>ht2 fun z=>by
    subst h0;exact(hii 1 hi).2 (by lia) (by rw[z];rfl),fun h1=>by
    have:=(hii (i+1) hi).2 (by lia)
    rwa [show i+1-1=(i-1)+1 by lia] at this⟩) ht1
  refine⟨t,(by rw[q1s];exact r1.app r2),(fun z=>by cases z),fun q hq hn=>?_⟩;cases r with
  |nil =>
   rw[e1 rfl];have:p=q:=by simpa using hq
   exact ht2 (by rw[this];exact hn)
  |cons a b=>exact e2 q (by simpa using hq) hn
theorem z9t{qs:List Pc}(w:WP qs):Run .beg (flatP qs) .beh:=by
 obtain⟨t,r,_,h⟩:=z6x qs .beg w.ok (fun i hi=>⟨fun z=>by have:=(w.ii i hi).1;lia,fun _=>(w.ii i hi).2⟩) (.inl rfl);have hq:qs.getLast?=some (qs.getLast w.ne):=Je w.ne;rw[h _ hq (w.la _ hq)] at r;exact r
theorem q9k{qs:List Pc}(w:WP qs){e:List Nat}{t:Sx}(r:Run .beh e t)(ht:t≠.beh):Refu (flatP qs++e) 0 .beg (flatP qs++e).length:=by
 have:=((z9t w).app r).all (r:=[]);rw[Dd] at this;exact⟨t,this,.inl ⟨rfl,ht⟩⟩
theorem x1l{qs:List Pc}(w:WP qs){c:Nat}(h:nx .beh c=none):Refu (flatP qs++[c]) 0 .beg (flatP qs).length :=
 ⟨.beh,(z9t w).all,.inr ⟨c,by rw[Bl (Ah _),Du];rfl,h⟩⟩
theorem z6y{l0:List Nat}(g:Good l0){n a c:Nat}(ha:a<=(l0.take n).length)(hc:¬c∈GS/\¬c∈NS):WrongAt ((l0.take n).take a++[c]++(l0.take n).drop a) a:=by
 have hla:((l0.take n).take a).length=a:=by rw[Bk];lia
 refine .inr ⟨by simp,fun h=>?_,fun j hj d hd=>?_⟩
 ·have:=(h c (by rw[Ek,Bl (by lia),hla,Du];rfl)).2;rcases this with z|z
  ·exact hc.1 z
  ·exact hc.2 z
 ·have e1:((l0.take n).take a++[c]++(l0.take n).drop a).take (j+1)=((l0.take n).take a).take (j+1):=by
   rw[Ek,List.take_append_of_le_length (by lia)]
  rw[Ek,Ba (by lia)] at hd;have hm:d∈l0:=Jd (Jd (Am hd));rw[e1];refine⟨Aw (Ia (((Fh _ _).trans ((Fh _ _).trans (Fh _ _))).filter _)) g.gp,g.sg d hm⟩
inductive Vd where
 |ok|pat (i:Nat)|tem (i:Nat)|rul
def Vd.is(kd:Str)(l tt:List Nat)(st:Int):Vd->Prop
 |.ok=>Good l/\∃qs,tt=flatP qs/\WP qs/\GoOk kd (gsOf (parse [] l)) qs st
 |.pat i=>WrongAt l i
 |.tem i=>Good l/\i<=tt.length/\Refu tt 0 .beg i
 |.rul=>Good l/\∃qs,tt=flatP qs/\WP qs/\NoGoG kd (gsOf (parse [] l)) qs st
def Vd.vs:Vd->List V
 |.ok=>[.str (Ab "let by")]
 |.pat i=>[.str (Ab "pattern"),.int (i:Int),.bl true,.bl false]
 |.tem i=>[.str (Ab "template"),.int (i:Int),.bl true,.bl false]
 |.rul=>[.str (Ab "rule"),.int 0,.bl true,.bl false]
theorem q7b{c:Addr}{bm:List Value}:subE c bm c=true:=by unfold subE;rw[Ex];simp
theorem z2b{c d e:Addr}(hc:Fe K (.ref c) [.ref e]=some false)(hd:Dy K (.ref c) (.ref d)=some true):subE c (.ref d::bmV) e=false:=by
 have n1:c≠e:=fun z=>by subst z;simp[Fe,Dy] at hc
 have n2:d≠e:=fun z=>by subst z;simp[Fe,hd] at hc
 unfold subE;simp[bmV,Cu n1,Cu n2]
structure CallsTo7 (P:Program) (w:World) (K:Af) (mg:Str->Option Value) (base:Heap) (Cp Ct Cr Dn Cm:Addr) (bm:List Value):Prop where
 ask_rule:Cal P w K mg base "ask_rule" 7 ["rule"] (spAskRule K)
 ask_ruleX:CalX P w K mg base "ask_rule" 9 ["rule"] (spAskRuleX Cp Ct Cr)
 tells:Cal P w K mg base "tells" 8 ["rule", "name", "count"] (spTells K)
 tellsX:CalX P w K mg base "tells" 10 ["rule", "name", "count"] (spTellsX Cp Ct Cr)
 g_HallError:mg "HallError" = some (.ref Dn)
 g_NoPattern:mg "NoPattern" = some (.ref Cp)
 g_NoTemplate:mg "NoTemplate" = some (.ref Ct)
 g_NoRule:mg "NoRule" = some (.ref Cr)
 g_TooMuch:mg "TooMuch" = some (.ref Cm)
 e_NoPattern:ECls K Cp bm
 e_NoTemplate:ECls K Ct bm
 e_NoRule:ECls K Cr bm
 sTP:subE Ct bm Cp=false
 sRP:subE Cr bm Cp=false
 sRT:subE Cr bm Ct=false
 isiP:EIsi K Cp
 isiT:EIsi K Ct
 isiR:EIsi K Cr
 getP:EGet K Cp "at"
 getT:EGet K Ct "at"
 oneP:Dy K (.ref Cp) (.ref Dn)=some true
 oneT:Dy K (.ref Ct) (.ref Dn)=some true
 oneR:Dy K (.ref Cr) (.ref Dn)=some true
 valP:Dy K (.ref Cp) (.type "ValueError")=some true
 valT:Dy K (.ref Ct) (.type "ValueError")=some true
 valR:Dy K (.ref Cr) (.type "ValueError")=some true
 anyP:Fe K (.ref Cp) ([Ct,Cr,Cm].map Value.ref)=some false
 anyT:Fe K (.ref Ct) ([Cp,Cr,Cm].map Value.ref)=some false
 anyR:Fe K (.ref Cr) ([Cp,Ct,Cm].map Value.ref)=some false
def spToldOf:Sp:=fun vs H Q _=>∃R kd l tt st n b v,vs=[.ref R,.str (mk n),.bl b]/\H R=some (.tup [.str kd,.str (mk l),.str (mk tt),.int st])/\l.length<=1000/\tt.length<=500/\n.length<=12/\(∀c∈n,c<128)/\Vd.is kd l tt st v /\
 ∀T H',Same H H'->H' T=some (.tup v.vs)->Q (.ref T) H'
theorem z9u{Cp Ct Cr:Addr}{kd:Str}{l tt:List Nat}{st:Int}{H:Hp}{E:XK}{v:Vd}(h:Vd.is kd l tt st v)(hn:v≠.ok)(hP:∀i,v=.pat i->RE H E Cp i)(hT:∀i,v=.tem i->RE H E Ct i)(hR:v=.rul->Rul Cr H E):BadR Cp Ct Cr kd l tt st H E:=by
 cases v with
 |ok=>exact absurd rfl hn
 |pat i=>exact .inl ⟨i,h,hP i rfl⟩
 |tem i=>exact .inr (.inl ⟨h.1,i,h.2.1,h.2.2,hT i rfl⟩)
 |rul=>obtain⟨g,qs,a,b,c⟩:=h;exact .inr (.inr ⟨g,qs,a,b,c,hR rfl⟩)
abbrev q5i:Stmt:=top 61
theorem sc_told_of:FnScope ["_law_rule", "_law_name", "_law_by_name", "_law_found", "e"] ["_law_rule", "_law_name", "_law_by_name"] (defScope q5i):=by trivial
theorem z4j{Cp Ct Cr Dn Cm:Addr}{bm:List Value}(D:Df K mg "_law_told_of" q5i ["_law_rule", "_law_name", "_law_by_name"])(T:Txt mg)(C:CallsTo7 P w K mg base Cp Ct Cr Dn Cm bm):Cal P w K mg base "_law_told_of" 11 ["_law_rule", "_law_name", "_law_by_name"] spToldOf:=by
 refine D.cal sc_told_of (fun vs H Q E h=>?_) (fun f cdv A outer s H vs Q E hr h=>?_)
 ·obtain⟨R,kd,l,tt,st,n,b,v,rfl,_⟩:=h;rfl
 ·obtain⟨R,kd,l,tt,st,n,b,v,rfl,hR,hl,ht,hn,hn1,hv,k⟩:=h;have g_HallError:=C.g_HallError;have g_NoPattern:=C.g_NoPattern;have g_NoTemplate:=C.g_NoTemplate;have g_NoRule:=C.g_NoRule;have g_TooMuch:=C.g_TooMuch;have e_NoPattern:=C.e_NoPattern;have e_NoTemplate:=C.e_NoTemplate;have e_NoRule:=C.e_NoRule;revert g_HallError g_NoPattern g_NoTemplate g_NoRule g_TooMuch e_NoPattern e_NoTemplate e_NoRule;generalize hDn:Dn=c_HallError;generalize hCm:Cm=c_TooMuch;generalize hCp:Cp=c_NoPattern;generalize hCt:Ct=c_NoTemplate;generalize hCr:Cr=c_NoRule;intro g_HallError g_NoPattern g_NoTemplate g_NoRule g_TooMuch e_NoPattern e_NoTemplate e_NoRule;refine⟨_,(q0c (q0k (i:=3) sc_told_of.nd rfl (by trivial) (q0o (q0a q0g q0b))) (q0c (x0q rfl rfl (fun _ _=>(q0e (q0v (@z7o _ _ _ K rfl (pv 2) (fun _=>rfl)) (q0e (q0y (q5f (pe_c C.tells hr (q0a (pv 0) (q0a (pv 1) (q0a q0f q0b)))) (q1z C.tellsX hr AccX.of (q0a (pv 0) (q0a (pv 1) (q0a q0f q0b))))))) (q0e (q0v (q9m (x0s (q5f (pe_c C.ask_rule hr (q0a (pv 0) q0b)) (q1z C.ask_ruleX hr AccX.of (q0a (pv 0) q0b))))) (q0e (q0k (i:=3) sc_told_of.nd rfl (by trivial) (q0o (q0a q0g q0b)))) q0i)))))
    (x0r (i:=4) K rfl sc_told_of.nd rfl rfl rfl g_NoPattern e_NoPattern (fun _=>(q0e (q0k (i:=3) sc_told_of.nd rfl (by trivial) (q0o (q0a q0g (q0a (z9h K rfl (pv 4)) (q0a (pe_j (z2g (q0n (q4u K rfl) (by rfl) T.b_isinstance (by decide +kernel) (q0a (pv 4) (q0a (q0t (v:=.ref c_HallError) (by rfl) g_HallError rfl) q0b))) (z2f (q0n (q4u K rfl) (by rfl) T.b_isinstance (by decide +kernel) (q0a (pv 4) (q0a (z1b (by rfl) T.b_ValueError (by decide +kernel) (show RelV (.ty "ValueError") _ from rfl)) q0b)))))) (q0a (q0n (q4u K rfl) (by rfl) T.b_isinstance (by decide +kernel) (q0a (pv 4) (q0a (q0o (q0a (q0t (v:=.ref c_NoTemplate) (by rfl) g_NoTemplate rfl) (q0a (q0t (v:=.ref c_NoRule) (by rfl) g_NoRule rfl) (q0a (q0t (v:=.ref c_TooMuch) (by rfl) g_TooMuch rfl) q0b)))) q0b))) q0b)))))))) (x0r (i:=4) K rfl sc_told_of.nd rfl rfl rfl g_NoTemplate e_NoTemplate (fun _=>(q0e (q0k (i:=3) sc_told_of.nd rfl (by trivial) (q0o (q0a q0g (q0a (z9h K rfl (pv 4)) (q0a (pe_j (z2g (q0n (q4u K rfl) (by rfl) T.b_isinstance (by decide +kernel) (q0a (pv 4) (q0a (q0t (v:=.ref c_HallError) (by rfl) g_HallError rfl) q0b))) (z2f (q0n (q4u K rfl) (by rfl) T.b_isinstance (by decide +kernel) (q0a (pv 4) (q0a (z1b (by rfl) T.b_ValueError (by decide +kernel) (show RelV (.ty "ValueError") _ from rfl)) q0b)))))) (q0a (q0n (q4u K rfl) (by rfl) T.b_isinstance (by decide +kernel) (q0a (pv 4) (q0a (q0o (q0a (q0t (v:=.ref c_NoPattern) (by rfl) g_NoPattern rfl) (q0a (q0t (v:=.ref c_NoRule) (by rfl) g_NoRule rfl) (q0a (q0t (v:=.ref c_TooMuch) (by rfl) g_TooMuch rfl) q0b)))) q0b))) q0b)))))))) (x0r (i:=4) K rfl sc_told_of.nd rfl rfl rfl g_NoRule e_NoRule (fun _=>(q0e (q0k (i:=3) sc_told_of.nd rfl (by trivial) (q0o (q0a q0g (q0a q0f (q0a (pe_j (z2g (q0n (q4u K rfl) (by rfl) T.b_isinstance (by decide +kernel) (q0a (pv 4) (q0a (q0t (v:=.ref c_HallError) (by rfl) g_HallError rfl) q0b))) (z2f (q0n (q4u K rfl) (by rfl) T.b_isinstance (by decide +kernel) (q0a (pv 4) (q0a (z1b (by rfl) T.b_ValueError (by decide +kernel) (show RelV (.ty "ValueError") _ from rfl)) q0b)))))) (q0a (q0n (q4u K rfl) (by rfl) T.b_isinstance (by decide +kernel) (q0a (pv 4) (q0a (q0o (q0a (q0t (v:=.ref c_NoPattern) (by rfl) g_NoPattern rfl) (q0a (q0t (v:=.ref c_NoTemplate) (by rfl) g_NoTemplate rfl) (q0a (q0t (v:=.ref c_TooMuch) (by rfl) g_TooMuch rfl) q0b)))) q0b))) q0b)))))))) ph_nil)))) (q0e (q0m (pv 3))))),?_⟩
  subst hDn hCm hCp hCt hCr;refine⟨by show 1<=sizeLine;decide,fun T0 hT0=>?_⟩;have s0:=(Same.refl H).new (o:=.tup [.str (Ab "let by")]) hT0;have hT00:upd H T0 (.tup [.str (Ab "let by")]) T0=some (.tup [.str (Ab "let by")]):=q0d;generalize upd H T0 (.tup [.str (Ab "let by")])=H0 at s0 hT00;have hR0:=s0 _ _ hR;refine⟨fun ea σ' H'=>σ'=[some (.ref R),some (.str (mk n)),some (.bl b),some (.ref T0),none]/\Same H0 H'/\((∃i:Nat,v=.pat i/\Rfd H' ea Cp "at" (.int (i:Int)))\/(∃i:Nat,v=.tem i/\Rfd H' ea Ct "at" (.int (i:Int)))\/(v=.rul/\H' ea=some (ExO (.ref Cr) none ea))),?_,?_⟩
  ·rintro ea σ' H' ⟨rfl,sm,⟨i,rfl,rf⟩|⟨i,rfl,rf⟩|⟨rfl,rf⟩⟩
   ·obtain⟨de,q1,q2⟩:=rf.ex;refine⟨Cp,_,some de,q1,C.e_NoPattern,?_⟩;rw[q7b];refine iteT ⟨_,rfl,ea,Cp,de,_,_,rfl,.inl q1,q2,C.getP,rfl,?_⟩;refine⟨fun v H2=>v=.bl true/\H2=H',?_,⟨_,rfl,ea,Cp,true,⟨_,rfl,.inl ⟨Dn,rfl,C.oneP⟩⟩,rf.err,C.isiP,true,rfl,iteT ⟨_,rfl,ea,Cp,true,⟨_,rfl,.inr (.inl ⟨_,rfl,C.valP⟩)⟩,rf.err,C.isiP,rfl,rfl⟩⟩⟩;rintro v H2 ⟨rfl,rfl⟩;refine⟨_,rfl,by show 3<=sizeLine;decide,fun U1 hU1=>?_⟩;have s2:=(Same.refl H2).new (o:=.tup [.ref Ct,.ref Cr,.ref Cm]) hU1;refine⟨ea,Cp,false,⟨_,rfl,.inr (.inr ⟨U1,[Ct,Cr,Cm],rfl,SqT.of q0d,C.anyP⟩)⟩,rf.err.same s2,C.isiP,by show 4<=sizeLine;decide,fun T1 hT1=>?_⟩;exact⟨_,rfl,k T1 _ ((s0.trans sm).trans (s2.new hT1)) q0d⟩
   ·obtain⟨de,q1,q2⟩:=rf.ex;refine⟨Ct,_,some de,q1,C.e_NoTemplate,?_⟩;rw[C.sTP];refine iteF ⟨Ct,_,some de,q1,C.e_NoTemplate,?_⟩;rw[q7b];refine iteT ⟨_,rfl,ea,Ct,de,_,_,rfl,.inl q1,q2,C.getT,rfl,?_⟩;refine⟨fun v H2=>v=.bl true/\H2=H',?_,⟨_,rfl,ea,Ct,true,⟨_,rfl,.inl ⟨Dn,rfl,C.oneT⟩⟩,rf.err,C.isiT,true,rfl,iteT ⟨_,rfl,ea,Ct,true,⟨_,rfl,.inr (.inl ⟨_,rfl,C.valT⟩)⟩,rf.err,C.isiT,rfl,rfl⟩⟩⟩;rintro v H2 ⟨rfl,rfl⟩;refine⟨_,rfl,by show 3<=sizeLine;decide,fun U1 hU1=>?_⟩;have s2:=(Same.refl H2).new (o:=.tup [.ref Cp,.ref Cr,.ref Cm]) hU1;refine⟨ea,Ct,false,⟨_,rfl,.inr (.inr ⟨U1,[Cp,Cr,Cm],rfl,SqT.of q0d,C.anyT⟩)⟩,rf.err.same s2,C.isiT,by show 4<=sizeLine;decide,fun T1 hT1=>?_⟩;exact⟨_,rfl,k T1 _ ((s0.trans sm).trans (s2.new hT1)) q0d⟩
   ·have er:∀{H2:Hp},Same H' H2->Err H2 ea Cr:=fun{H2} s=>⟨none,.inl (s _ _ rf),.inl rfl⟩
    refine⟨Cr,_,none,rf,C.e_NoRule,?_⟩;rw[C.sRP];refine iteF ⟨Cr,_,none,rf,C.e_NoRule,?_⟩;rw[C.sRT];refine iteF ⟨Cr,_,none,rf,C.e_NoRule,?_⟩;rw[q7b];refine iteT ⟨fun v H2=>v=.bl true/\H2=H',?_,⟨_,rfl,ea,Cr,true,⟨_,rfl,.inl ⟨Dn,rfl,C.oneR⟩⟩,er (Same.refl _),C.isiR,true,rfl,iteT ⟨_,rfl,ea,Cr,true,⟨_,rfl,.inr (.inl ⟨_,rfl,C.valR⟩)⟩,er (Same.refl _),C.isiR,rfl,rfl⟩⟩⟩;rintro v H2 ⟨rfl,rfl⟩;refine⟨_,rfl,by show 3<=sizeLine;decide,fun U1 hU1=>?_⟩;have s2:=(Same.refl H2).new (o:=.tup [.ref Cp,.ref Ct,.ref Cm]) hU1;refine⟨ea,Cr,false,⟨_,rfl,.inr (.inr ⟨U1,[Cp,Ct,Cm],rfl,SqT.of q0d,C.anyR⟩)⟩,er s2,C.isiR,by show 4<=sizeLine;decide,fun T1 hT1=>?_⟩;exact⟨_,rfl,k T1 _ ((s0.trans sm).trans (s2.new hT1)) q0d⟩
  ·have rP:∀{Hx:Hp} (i:Nat),Hx=H0->v=.pat i->RE Hx (fun e _ H'=>∀ea,e=.ref ea->[some (V.ref R),some (.str (mk n)),some (.bl b),some (.ref T0),none]=[some (V.ref R),some (.str (mk n)),some (.bl b),some (.ref T0),none]/\Same H0 H'/\((∃i:Nat,v=.pat i/\Rfd H' ea Cp "at" (.int (i:Int)))\/(∃i:Nat,v=.tem i/\Rfd H' ea Ct "at" (.int (i:Int)))\/(v=.rul/\H' ea=some (ExO (.ref Cr) none ea)))) Cp i:=fun{Hx} i e hv ea H' s' _ r ea' ez=>by
    cases ez;subst e;exact⟨rfl,s',.inl ⟨i,hv,r⟩⟩
   have rT:∀{Hx:Hp} (i:Nat),Hx=H0->v=.tem i->RE Hx (fun e _ H'=>∀ea,e=.ref ea->[some (V.ref R),some (.str (mk n)),some (.bl b),some (.ref T0),none]=[some (V.ref R),some (.str (mk n)),some (.bl b),some (.ref T0),none]/\Same H0 H'/\((∃i:Nat,v=.pat i/\Rfd H' ea Cp "at" (.int (i:Int)))\/(∃i:Nat,v=.tem i/\Rfd H' ea Ct "at" (.int (i:Int)))\/(v=.rul/\H' ea=some (ExO (.ref Cr) none ea)))) Ct i:=fun{Hx} i e hv ea H' s' _ r ea' ez=>by
    cases ez;subst e;exact⟨rfl,s',.inr (.inl ⟨i,hv,r⟩)⟩
   have rR:∀{Hx:Hp},Hx=H0->v=.rul->Rul Cr Hx (fun e _ H'=>∀ea,e=.ref ea->[some (V.ref R),some (.str (mk n)),some (.bl b),some (.ref T0),none]=[some (V.ref R),some (.str (mk n)),some (.bl b),some (.ref T0),none]/\Same H0 H'/\((∃i:Nat,v=.pat i/\Rfd H' ea Cp "at" (.int (i:Int)))\/(∃i:Nat,v=.tem i/\Rfd H' ea Ct "at" (.int (i:Int)))\/(v=.rul/\H' ea=some (ExO (.ref Cr) none ea)))):=fun{Hx} e hv ea H' s' _ r ea' ez=>by
    cases ez;subst e;exact⟨rfl,s',.inr (.inr ⟨hv,r⟩)⟩
   refine⟨_,rfl,_,rfl,?_⟩;by_cases hok:v=.ok
   ·subst hok;obtain⟨gl,qs,rfl,wp,go⟩:=hv;have ru:RuleAt K H0 R kd l qs st:=⟨hR0,go.kok,gl,wp,go.s0,go.s1,go.ask⟩
    refine ite2 (fun hb=>?_) (fun hb=>?_)
    ·refine .inl ⟨_,rfl,_,rfl,R,kd,l,qs,st,n,1,rfl,ru,hn,fun t ht c hc=>hn1 c (z9k _ _ t ht c hc),by decide,fun _ H1 s1=>?_,fun _ T1 H1 _ s1 _=>?_⟩
     ·exact⟨_,rfl,k T0 _ (s0.trans s1) (s1 _ _ hT00)⟩
     ·exact⟨_,rfl,k T0 _ (s0.trans s1) (s1 _ _ hT00)⟩
    ·refine .inl ⟨_,rfl,R,kd,l,qs,st,rfl,ru,fun H1 s1=>⟨true,rfl,false,rfl,iteF ⟨_,rfl,k T0 _ (s0.trans s1) (s1 _ _ hT00)⟩⟩⟩
   ·refine ite2 (fun hb=>?_) (fun hb=>?_)
    ·exact .inr ⟨_,rfl,_,rfl,R,kd,l,tt,st,_,_,rfl,hR0,hl,ht,z9u hv hok (fun i e=>rP i rfl e) (fun i e=>rT i rfl e) (fun e=>rR rfl e)⟩
    ·exact .inr ⟨_,rfl,R,kd,l,tt,st,rfl,hR0,hl,ht,z9u hv hok (fun i e=>rP i rfl e) (fun i e=>rT i rfl e) (fun e=>rR rfl e)⟩
theorem z0y{l:List Nat}{j:Int}(h0:0<=j):Iz (mk l) none (some j)=mk (l.take j.toNat):=by
 by_cases h:j<=(l.length:Int)
 ·rw[z2n h0 (by rw[q0z];exact h),q0z]
 ·have e:Bs (mk l) none (some j)=Bs (mk l) none (some (((mk l).length:Nat):Int)):=by
   unfold Bs;rw[q4r none (mk l).length (j:=j) (by rw[q0r];lia)]
  show Bs (mk l) none (some j)=_;rw[e];have z:=z2n (x:=mk l) (j:=(((mk l).length:Nat):Int)) (by lia) (by rw[q0r,q0z];exact Int.le_refl _);refine z.trans ?_;rw[q0z,q0r,Cs (by lia),Cs (by lia)]
theorem z2c(u:Option Int)(len:Nat){j:Int}(h:(len:Int)<=j):De (some j) u 1 len=De (some (len:Int)) u 1 len:=by
 have a:¬(j<0):=by lia
 have b:¬((len:Int)<0):=by lia
 have c:min j (len:Int)=(len:Int):=by lia
 simp[De,a,b,c]
theorem z2d{l:List Nat}{j:Int}(h0:0<=j):Iz (mk l) (some j) none=mk (l.drop j.toNat):=by
 by_cases h:j<=(l.length:Int)
 ·rw[q3q h0 (by rw[q0z];exact h),q0z]
 ·have e:Bs (mk l) (some j) none=Bs (mk l) (some (((mk l).length:Nat):Int)) none:=by
   unfold Bs;rw[z2c none (mk l).length (j:=j) (by rw[q0r];lia)]
  show Bs (mk l) (some j) none=_;rw[e];have z:=q3q (x:=mk l) (i:=(((mk l).length:Nat):Int)) (by lia) (by rw[q0r,q0z];exact Int.le_refl _)
  refine z.trans ?_;rw[q0z,q0r,Gf (by lia),Gf (by lia)]
def Vd.d:Vd->PyData
 |.ok=>.tuple [.str (Ab "let by")]
 |.pat i=>.tuple [.str (Ab "pattern"),.int (i:Int),.bool true,.bool false]
 |.tem i=>.tuple [.str (Ab "template"),.int (i:Int),.bool true,.bool false]
 |.rul=>.tuple [.str (Ab "rule"),.int 0,.bool true,.bool false]
theorem Vd.dt{H:Hp}{T:Addr}{v:Vd}(h:H T=some (.tup v.vs)):Dt K H (.ref T) v.d:=by
 cases v with
 |ok=>exact .tup (SqT.of h) (.cons (.str _) .nil)
 |pat i=>exact .tup (SqT.of h) (.cons (.str _) (.cons (.int _) (.cons (.bl _) (.cons (.bl _) .nil))))
 |tem i=>exact .tup (SqT.of h) (.cons (.str _) (.cons (.int _) (.cons (.bl _) (.cons (.bl _) .nil))))
 |rul=>exact .tup (SqT.of h) (.cons (.str _) (.cons (.int _) (.cons (.bl _) (.cons (.bl _) .nil))))
theorem Vd.lay(v:Vd):v.d.canLay0=true:=by
 have h1:Bp (Ab "let by")=true:=by decide +kernel
 have h2:Bp (Ab "pattern")=true:=by decide +kernel
 have h3:Bp (Ab "template")=true:=by decide +kernel
 have h4:Bp (Ab "rule")=true:=by decide +kernel
 cases v<;>simp only[Vd.d,Cq,Bj,h1,h2,h3,h4,Dv]
theorem Vd.dep(v:Vd):v.d.depth<=100:=by
 cases v<;>simp[Vd.d,Pq.depth,Pq.depthAll]
theorem z6z{H:Hp}{a b T:Addr}{xs:List V}(F:FeedAt H a b)(h:H T=some (.tup xs)):T≠a:=fun z=>by
 obtain⟨⟨i,j,ha⟩,_⟩:=F;subst z;rw[h] at ha;cases ha
structure CallsL (P:Program) (w:World) (K:Af) (mg:Str->Option Value) (base:Heap):Prop where
 draw:Cal P w K mg base "_law_draw" 1 ["_law_feed", "_law_many"] spDraw
 parts:Cal P w K mg base "_law_parts" 3 ["_law_feed", "_law_most"] spParts
 pieces:Cal P w K mg base "_law_pieces" 4 ["_law_feed", "_law_gaps", "_law_more", "_law_intos"] spPiecesL
 start:Cal P w K mg base "_law_start" 2 ["_law_feed"] spStart
 goes:Cal P w K mg base "_law_goes" 1 ["_law_kind", "_law_start_here", "_law_parts_here", "_law_pieces_here"] spGoes
 told_of:Cal P w K mg base "_law_told_of" 11 ["_law_rule", "_law_name", "_law_by_name"] spToldOf
def spLaw(K:Af):Sp:=fun vs H Q _=>∃(a:Addr) (ns:List Int),vs=[.ref a]/\SqL K H a (ns.map V.int)/\ns.length<=63/\∀H',Q (.bl true) H'
theorem ends7{qs:List Pc}(w:WP qs){y:V}(h:y∈[V.str (Ab "/"),.str (Ab "{"),.str (Ab " "),.str (Ab "{1z")]):
  ∃(e:List Nat) (c:Nat),y=.str (mk e)/\e.getLast?=some c/\e.length<=3/\(c≠32->Refu (flatP qs++e) 0 .beg (flatP qs++e).length)/\(c=32->Refu (flatP qs++e) 0 .beg (flatP qs).length):=by
 simp only[Bd,Br,or_false] at h;rcases h with rfl|rfl|rfl|rfl
 ·exact⟨[47],47,congrArg V.str (by decide +kernel),rfl,by decide,fun _=>q9k w (.cons (s1:=.into) (by simp only[nx];rw[if_neg no47];rfl) .nil) (fun z=>by cases z),fun z=>by cases z⟩
 ·exact⟨[123],123,congrArg V.str (by decide +kernel),rfl,by decide,fun _=>q9k w (.cons (q5m (.inr (.inr rfl))) .nil) (fun z=>by cases z),fun z=>by cases z⟩
 ·refine⟨[32],32,congrArg V.str (by decide +kernel),rfl,by decide,fun z=>absurd rfl z,fun _=>x1l w ?_⟩;have h1:(32:Nat)∉NS:=by decide +kernel
  simp only[nx];rw[if_neg h1];rfl
 ·refine⟨[123,49,122],122,congrArg V.str (by decide +kernel),rfl,by decide,fun _=>q9k w (.cons (q5m (.inr (.inr rfl))) (.cons (q7v (v:=1) (by decide) (by decide)) (.cons (s1:=.nou) rfl .nil))) (fun z=>by cases z),fun z=>by cases z⟩
theorem z2e(a b:List Nat):mk a++mk b=mk (a++b):=by apply ext;rw[q1d,q0z,q0z,q0z]
theorem sp4:∀c∈tl (Ab " /{}"),¬c∈GS/\¬c∈NS:=by decide +kernel
theorem x1m{x e:List Nat}{c:Nat}(h:e.getLast?=some c):atI ((tl (mk (x++e)))) (-1)=some c:=by
 rw[q0z];obtain⟨i,rfl⟩:∃i,e=i++[c]:=by
  have hne:e≠[]:=fun z=>by rw[z] at h;cases h
  refine⟨e.dropLast,?_⟩;have:=Bq hne;rw[Je hne] at h;injection h with h;rw[h] at this;exact this.symm
 rw[<- Ek];generalize x++i=z;unfold atI ixN;rw[if_neg (by decide),if_pos (by rw[Ae,Aq];lia)];have h:((-1:Int)+((z++[c]).length:Int)).toNat=z.length:=by rw[Ae,Aq];lia
 show(z++[c])[((-1:Int)+((z++[c]).length:Int)).toNat]?=_;rw[h,Bl (Ah _),Du];rfl
abbrev q3m:Stmt:=top 62
theorem sc_law:FnScope ["_law_script", "_law_feed", "_law_k", "_law_kind", "_law_parts_here", "_law_figures", "_law_pieces_here", "_law_template", "_law_pattern", "_law_start_here", "_law_due", "_law_at", "_law_by_name", "_law_found"] ["_law_script"] (defScope q3m):=by trivial
theorem z8q (T : Txt mg) (C : CallsL P w K mg base) (f : Addr) (cdv : Value) (A : Around) (outer : List Env) (s : Ag) (H : Hp) (vs : List V) (Q : VK) (E : XK) (hr : Room 11 (A.deeper (PyProof.Rows.envOfC "law" (defScope q3m) s.heap.objs.size f cdv))) (h : spLaw K vs H Q E) :
    ∃ t, PSs (cxOf CX0 P w K mg base ["_law_script", "_law_feed", "_law_k", "_law_kind", "_law_parts_here", "_law_figures", "_law_pieces_here", "_law_template", "_law_pattern", "_law_start_here", "_law_due", "_law_at", "_law_by_name", "_law_found"] "law" (defScope q3m) f cdv A outer s H E).nox (defBody q3m) t ∧ t { nx := fun _ H' => Q .non H', rt := Q } (L2.start ["_law_script", "_law_feed", "_law_k", "_law_kind", "_law_parts_here", "_law_figures", "_law_pieces_here", "_law_template", "_law_pattern", "_law_start_here", "_law_due", "_law_at", "_law_by_name", "_law_found"] vs) H := by
    obtain ⟨sc, ns, rfl, hS, hns, k⟩ := h;refine ⟨_, (q0c (q0k (i := 1) sc_law.nd rfl (by first | exact Or.inl rfl | exact Or.inr rfl) (q1b (q0a (q1a (list_k K rfl) (by rfl) T.b_list (by decide +kernel) (q0a (pv 0) q0b)) (q0a q0f (q0a q0f q0b))))) (q0c (q1y Ca rfl (q3h rfl T.b_range (q0a (q0n (z4u rfl) (by rfl) T.b_max (by decide +kernel) (q0a q0f (q0a (q0n (q9p rfl) (by rfl) T.b_min (by decide +kernel) (q0a q0f (q0a (q0n (q1q K rfl) (by rfl) T.b_len Ax (q0a (pv 0) q0b)) q0b))) q0b))) q0b)) (q0s (i := 2) sc_law.nd rfl (by first | exact Or.inl rfl | exact Or.inr rfl)) (q0c (q0k (i := 3) sc_law.nd rfl (by first | exact Or.inl rfl | exact Or.inr rfl) (q0x (ix_k K rfl) (q1b (q0a q0g (q0a q0g (q0a q0g (q0a q0g q0b))))) (pe_c C.draw hr (q0a (pv 1) (q0a q0f q0b))) (fun _ _ => rfl))) (q1g (q0v (q0h (eq_k K rfl hr) (pe_c C.draw hr (q0a (pv 1) (q0a q0f q0b))) q0f (nomark _)) (q0e (q0k (i := 3) sc_law.nd rfl (by first | exact Or.inl rfl | exact Or.inr rfl) (q0x (ix_k K rfl) (q1b (q0a q0g (q0a q0g (q0a q0g (q0a q0g (q0a q0g q0b)))))) (pe_c C.draw hr (q0a (pv 1) (q0a q0f q0b))) (fun _ _ => rfl)))) q0i) (q0c (q0k (i := 4) sc_law.nd rfl (by first | exact Or.inl rfl | exact Or.inr rfl) (pe_c C.parts hr (q0a (pv 1) (q0a q0f q0b)))) (q0c (q8g (i := 5) ["_law_at"] [("_law_feed", 1)] sc_law.nd rfl (by first | exact Or.inl rfl | exact Or.inr rfl) rfl (q9o rfl T.b_range (q0a q0f (q0a q0f q0b))) (fun _ _ _ _ _ => (q0s (i := 0) (show (["_law_at", "_law_feed"] : List Str).Nodup by decide +kernel) rfl (by first | exact Or.inl rfl | exact Or.inr rfl))) (fun _ _ _ _ _ => (q8e (q0h (eq_k K rfl hr) (pe_c C.draw hr (q0a (pv 1) (q0a q0f q0b))) q0f (nomark _)))) (fun _ _ _ _ _ => (pv 0))) (q0c (q4e (pe_c C.pieces hr (q0a (pv 1) (q0a (q0x (ix_k K rfl) (q1b (q0a q0f (q0a q0f (q0a q0f q0b)))) (pe_c C.draw hr (q0a (pv 1) (q0a q0f q0b))) (fun _ _ => rfl)) (q0a (pv 5) (q0a (q5b (eq_k K rfl hr) (pe_c C.draw hr (q0a (pv 1) (q0a q0f q0b))) q0f (nomark _)) q0b))))) (@q2f _ _ _ _ (2) _ K rfl rfl (q0u (q0s (i := 6) sc_law.nd rfl (by first | exact Or.inl rfl | exact Or.inr rfl)) (q0u (q0s (i := 7) sc_law.nd rfl (by first | exact Or.inl rfl | exact Or.inr rfl)) q1o)) (by rfl) (by rfl))) (q0c (q0k (i := 8) sc_law.nd rfl (by first | exact Or.inl rfl | exact Or.inr rfl) (@bm_k _ _ _ _ _ _ _ _ _ _ _ _ K rfl Eu Mi Mj (z8y K rfl) q0g (q0a (q8f ["_law_word", "_law_text_here"] [] rfl (@q6n _ _ _ _ K rfl (pv 4)) (fun _ _ _ _ _ => (@q2f _ _ _ _ (2) _ K rfl rfl (q0u (q0s (i := 0) (show (["_law_word", "_law_text_here"] : List Str).Nodup by decide +kernel) rfl (by first | exact Or.inl rfl | exact Or.inr rfl)) (q0u (q0s (i := 1) (show (["_law_word", "_law_text_here"] : List Str).Nodup by decide +kernel) rfl (by first | exact Or.inl rfl | exact Or.inr rfl)) q1o)) (by rfl) (by rfl))) (fun _ _ _ _ _ => z1d) (fun _ _ _ _ _ => (pv 1))) q0b) (by rfl) (by rfl) (by rfl) (by rfl) (by rfl))) (q0c (q0k (i := 9) sc_law.nd rfl (by first | exact Or.inl rfl | exact Or.inr rfl) (pe_c C.start hr (q0a (pv 1) q0b))) (q0c (q0k (i := 10) sc_law.nd rfl (by first | exact Or.inl rfl | exact Or.inr rfl) (q0o (q0a q0g q0b))) (q1g (q0v (z8s (@z7o _ _ _ K rfl (pe_c C.goes hr (q0a (pv 3) (q0a (pv 9) (q0a (pv 4) (q0a (pv 6) q0b))))) (fun _ => rfl))) (q0e (q0k (i := 10) sc_law.nd rfl (by first | exact Or.inl rfl | exact Or.inr rfl) (q0o (q0a q0g (q0a q0f (q0a q2s (q0a q2s q0b))))))) q0i) (q1g (q0v (q0h (eq_k K rfl hr) (pe_c C.draw hr (q0a (pv 1) (q0a q0f q0b))) q0f (nomark _)) (q0c (q0k (i := 10) sc_law.nd rfl (by first | exact Or.inl rfl | exact Or.inr rfl) (q0o (q0a q0g (q0a (q0n (q1q K rfl) (by rfl) T.b_len Ax (q0a (pv 7) q0b)) (q0a q2s (q0a q2s q0b)))))) (q0c (q0k (i := 7) sc_law.nd rfl (by first | exact Or.inl rfl | exact Or.inr rfl) (q0p q0j (pv 7) (q0x (ix_k K rfl) (q1b (q0a q0g (q0a q0g (q0a q0g (q0a q0g q0b))))) (pe_c C.draw hr (q0a (pv 1) (q0a q0f q0b))) (fun _ _ => rfl)))) (q0e (q0v (q0h (ne_k K rfl hr) (q0x (ix_k K rfl) (pv 7) (q7z q4g q0f) (fun _ _ => rfl)) q0g (nomark _)) (q0e (q0k (i := 10) sc_law.nd rfl (by first | exact Or.inl rfl | exact Or.inr rfl) (q0o (q0a q0g (q0a (q0n (q1q K rfl) (by rfl) T.b_len Ax (q0a (pv 7) q0b)) (q0a q2s (q0a q2s q0b))))))) q0i)))) q0i) (q1g (q0v (q0h (eq_k K rfl hr) (pe_c C.draw hr (q0a (pv 1) (q0a q0f q0b))) q0f (nomark _)) (q0c (q0k (i := 8) sc_law.nd rfl (by first | exact Or.inl rfl | exact Or.inr rfl) (q1n (sl_k K rfl) (pv 8) q6f (q1f q0f))) (q0c (q0k (i := 11) sc_law.nd rfl (by first | exact Or.inl rfl | exact Or.inr rfl) (pe_c C.draw hr (q0a (pv 1) (q0a (q0p q0j (q0n (q1q K rfl) (by rfl) T.b_len Ax (q0a (pv 8) q0b)) q0f) q0b)))) (q0c (q0k (i := 8) sc_law.nd rfl (by first | exact Or.inl rfl | exact Or.inr rfl) (q0p q0j (q0p q0j (q1n (sl_k K rfl) (pv 8) q6f (q1f (pv 11))) (q0x (ix_k K rfl) q0g (pe_c C.draw hr (q0a (pv 1) (q0a q0f q0b))) (fun _ _ => rfl))) (q1n (sl_k K rfl) (pv 8) (q1f (pv 11)) q6f))) (q0e (q0k (i := 10) sc_law.nd rfl (by first | exact Or.inl rfl | exact Or.inr rfl) (q0o (q0a q0g (q0a (pv 11) (q0a q2s (q0a q2s q0b)))))))))) q0i) (q0e (q1y Ca rfl (@lst_k _ _ _ _ K rfl (q1b (q0a q2s (q0a q2s q0b)))) (q0s (i := 12) sc_law.nd rfl (by first | exact Or.inl rfl | exact Or.inr rfl)) (q0c (q0k (i := 13) sc_law.nd rfl (by first | exact Or.inl rfl | exact Or.inr rfl) (pe_c C.told_of hr (q0a (q0o (q0a (pv 3) (q0a (pv 8) (q0a (pv 7) (q0a (pv 9) q0b))))) (q0a q0g (q0a (pv 12) q0b))))) (q0e (q0v (q0h (ne_k K rfl hr) (pv 13) (pv 10) (nomark _)) (q0e (q0m q2s)) q0i))))))))))))))))) (q0e (q0m q2s)))), ?_⟩;have ea1 : Ab "a1" = mk [97, 49] := by decide +kernel
    refine ⟨_, rfl, sc, _, rfl, .inl hS, fun b hb => ⟨by show 3 ≤ sizeLine; decide, fun a ha => ?_⟩⟩;have nba : b ≠ a := q0w q0d ha;have F : FeedAt (upd (upd H b (.lst (ns.map V.int))) a (.lst [.ref b, .int 0, .int 0])) a b := ⟨⟨0, 0, q0d⟩, ns, by rw [q0l nba]; exact q0d⟩
    have sS : Same H (upd (upd H b (.lst (ns.map V.int))) a (.lst [.ref b, .int 0, .int 0])) := ((Same.refl H).new hb).new ha;generalize hH1 : upd (upd H b _) a _ = H1;rw [hH1] at F sS;refine ⟨_, rfl, _, _, rfl, .inl ⟨_, sS.seq hS, rfl⟩, ?_⟩;refine ⟨_, _, rfl, _, _, rfl, _, rfl, ?_, ?_, q3i (fun i σ' H' => ∃ x2 x3 x4 x5 x6 x7 x8 x9 x10 x11 x12 x13, σ' = [some (.ref sc), some (.ref a), x2, x3, x4, x5, x6, x7, x8, x9, x10, x11, x12, x13] ∧ Fd a b H1 H') ⟨none, none, none, none, none, none, none, none, none, none, none, none, rfl, Fd.refl F⟩ ?_ ?_⟩
    · rw [Ai]; split <;> split <;> lia
    · rw [Ai]; split <;> split <;> lia
    · rintro i σ' H' hi ⟨x2, x3, x4, x5, x6, x7, x8, x9, x10, x11, x12, x13, rfl, fd⟩;refine ⟨by show 4 ≤ sizeLine; decide, fun l1 hl1 => ?_⟩;have fd1 := fd.new (o := .lst [.str (Ab "slip"), .str (Ab "slip"), .str (Ab "drawer"), .str (Ab "all")]) hl1;have hl1a : l1 ≠ a := fun z => fd.feed.na hl1 z.symm;refine ⟨_, rfl, a, b, 4, rfl, fd1.feed, by decide, by decide, fun r1 H2 r10 r11 fd2 => ?_⟩;obtain ⟨y, hy1, hy2⟩ := q3f (xs := [V.str (Ab "slip"), .str (Ab "slip"), .str (Ab "drawer"), .str (Ab "all")]) r10 (by simpa using r11);refine .inl ⟨l1, _, r1, y, rfl, rfl, SqL.of (fd2.at q0d hl1a), hy2, ?_⟩;obtain ⟨kd0, rfl⟩ : ∃ kd, y = .str kd := by
        have hy := Am hy1;simp only [Bd, Br, or_false] at hy;rcases hy with rfl | rfl | rfl | rfl <;> exact ⟨_, rfl⟩
      have fdA := fd1.trans fd2;refine ⟨fun σ' H' => ∃ kd, σ' = [some (.ref sc), some (.ref a), some (.int (0 + (i : Int))), some (.str kd), x4, x5, x6, x7, x8, x9, x10, x11, x12, x13] ∧ Fd a b H1 H', ?_, ?_⟩;rotate_left
      · refine ⟨_, rfl, a, b, 4, rfl, fdA.feed, by decide, by decide, fun r H3 _ _ fd3 => .inl ⟨rfl, _, rfl, ite2 (fun h => ?_) (fun h => ⟨kd0, rfl, fdA.trans fd3⟩)⟩⟩;have fdB := fdA.trans fd3;refine ⟨by show 5 ≤ sizeLine; decide, fun l2 hl2 => ?_⟩;have fd4 := fdB.new (o := .lst [.str (Ab ""), .str (Ab "slips"), .str (Ab "Slip"), .str (Ab "drawer "), .str (Ab "rule")]) hl2;have hl2a : l2 ≠ a := fun z => fdB.feed.na hl2 z.symm;refine ⟨_, rfl, a, b, 5, rfl, fd4.feed, by decide, by decide, fun r5 H5 r50 r51 fd5 => ?_⟩;obtain ⟨y, hy1, hy2⟩ := q3f (xs := [V.str (Ab ""), .str (Ab "slips"), .str (Ab "Slip"), .str (Ab "drawer "), .str (Ab "rule")]) r50 (by simpa using r51);refine .inl ⟨l2, _, r5, y, rfl, rfl, SqL.of (fd5.at q0d hl2a), hy2, ?_⟩;obtain ⟨kd1, rfl⟩ : ∃ kd, y = .str kd := by
          have hy := Am hy1;simp only [Bd, Br, or_false] at hy;rcases hy with rfl | rfl | rfl | rfl | rfl <;> exact ⟨_, rfl⟩
        exact ⟨kd1, rfl, fd4.trans fd5⟩
      clear fdA fd2 fd1 hy1 hy2 r10 r11 hl1 hl1a;rintro σ' H2 ⟨kd, rfl, fdA⟩;refine ⟨_, rfl, a, b, rfl, fdA.feed, fun L ps H3 wf hlL hL fd3 => ?_⟩;have fdB := fdA.trans fd3;have hLa : L ≠ a := fun z => fdA.feed.na hL z.symm;have hpl := z8n wf;have hz := wf.sz;refine ⟨1, 10, rfl, ⟨by decide, by decide, by decide, by decide⟩, fun M hM => ?_⟩;have hMa : M ≠ a := fun z => fdB.feed.na hM z.symm;refine q7l (n := ((10 : Int) - 1).toNat) (fun j ys H' => ∃ es : List Nat, ys = vI es ∧ Fd a b H3 H' ∧ H' M = some (.lst ys) ∧ es.length ≤ j ∧ j ≤ 9 ∧ ∀ e ∈ es, 1 ≤ e ∧ e ≤ 9) ⟨[], rfl, (Fd.refl fdB.feed).new hM, q0d, Bg _, Bg _, fun _ h => (nomatch h)⟩ (fun j ys H' ⟨_, _, _, h, _⟩ => h) ?_ ?_
      · rintro j ys H' hj ⟨es, rfl, fdc, hHM, hel, hj9, hes⟩
        have hj' : j < 9 := by have : ((10 : Int) - 1).toNat = 9 := by decide
                               lia
        refine ⟨q5c, _, rfl, a, b, 2, rfl, fdc.feed, by decide, by decide, fun r H5 _ _ fd5 => .inl ⟨rfl, _, rfl, ?_⟩⟩;have hM5 := fd5.at hHM hMa;refine iteB (fun hb => ?_) (fun _ => ⟨es, rfl, fdc.trans fd5, hM5, by lia, by lia, hes⟩);refine ⟨_, rfl, hM5, TX.small' (by rw [Ai]; lia), es ++ [j + 1], ?_, (fdc.trans fd5).put fdB.feed hM, q0d, by rw [Ae, Aq]; lia, by lia, fun e he => ?_⟩
        · show _ = (es ++ [j + 1]).map _;rw [Bi, List.map_singleton];congr 3;lia
        · rcases Bh.mp he with z | z
          · exact hes e z
          · rw [Au.mp z]; lia
      rintro ys H4 ⟨es, rfl, fdc, hM4, hel, _, hes⟩;rw [show ((10 : Int) - 1).toNat = 9 by decide] at hel;have hlL4 := hlL.fd fdB.feed fdc hLa;have fdC := fdB.trans fdc;refine ⟨_, rfl, by show 3 ≤ sizeLine; decide, fun l3 hl3 => ?_⟩;have fd4 := fdC.new (o := .lst [.int 9, .int 3, .int 1]) hl3;have hl3a : l3 ≠ a := fun z => fdC.feed.na hl3 z.symm;have s43 := (Same.refl H4).new (o := .lst [V.int 9, .int 3, .int 1]) hl3;refine ⟨_, rfl, a, b, 3, rfl, fd4.feed, by decide, by decide, fun r3 H5 r30 r31 fd5 => ?_⟩;obtain ⟨y, hy1, hy2⟩ := q3f (xs := [V.int 9, .int 3, .int 1]) r30 (by simpa using r31);refine .inl ⟨l3, _, r3, y, rfl, rfl, SqL.of (fd5.at q0d hl3a), hy2, ?_⟩;obtain ⟨gm, rfl, hgm⟩ : ∃ gm : Nat, y = .int (gm : Int) ∧ gm ≤ 9 := by
        have hy := Am hy1;simp only [Bd, Br, or_false] at hy;rcases hy with rfl | rfl | rfl
        · exact ⟨9, rfl, by decide⟩
        · exact ⟨3, rfl, by decide⟩
        · exact ⟨1, rfl, by decide⟩
      have fdD := fd4.trans fd5;have hM5 := fd5.at (s43 _ _ hM4) hMa;have hlL5 := (hlL4.same s43).fd fd4.feed fd5 hLa;refine ⟨_, rfl, _, rfl, a, b, 3, rfl, fdD.feed, by decide, by decide, fun r6 H6 _ _ fd6 => .inl ⟨rfl, ?_⟩⟩;have hM6 := fd6.at hM5 hMa;have hlL6 := hlL5.fd fdD.feed fd6 hLa;have fdE := fdD.trans fd6;refine ⟨a, b, M, gm, es, _, rfl, fdE.feed, hM6, hMa, hgm, hel, hes, fun T7 N qs H7 wp _ hp7 hT7 hN _ fd7 => ?_⟩;have hlL7 := hlL6.fd fdE.feed fd7 hLa;have fdF := fdE.trans fd7;have hNa : N ≠ a := fun z => fdE.feed.na hN z.symm;refine ⟨T7, _, rfl, SqT.of hT7, rfl, _, _, rfl, _, _, rfl, rfl, ?_⟩;have hqz := wp.sz;refine ⟨rfl, _, rfl, .inl ⟨L, rfl, hlL7.sq, fun D hD => z4i hlL7 (by lia) hD fun ys8 H8 sm8 hj8 => ?_⟩⟩;refine ⟨_, D, ps.map fun p => mk p.fl, rfl, rfl, .inl (SqL.of hj8), z6u (by lia), ?_⟩;rw [z4h];have fdG := fdF.same sm8;have hlL8 := hlL7.same sm8;have hp8 := hp7.same sm8;refine ⟨_, rfl, a, b, rfl, fdG.feed, fun st H9 fd9 => ?_⟩;have fdH := fdG.trans fd9;have hlL9 := hlL8.fd fdG.feed fd9 hLa;have hp9 := hp8.fd fdG.feed fd9 hNa;have epf : parse [] (flat ps) = ps := q5e ps wf.ok wf.tt;refine ⟨by show 1 ≤ sizeLine; decide, fun T0 hT0 => ?_⟩;have s10 := (Same.refl H9).new (o := .tup Vd.ok.vs) hT0;have hT00 : upd H9 T0 (.tup Vd.ok.vs) T0 = some (.tup Vd.ok.vs) := q0d;refine ⟨fun σ' H' => ∃ Td v, σ' = [some (.ref sc), some (.ref a), some (.int (0 + (i : Int))), some (.str kd), some (.ref L), some (.ref M), some (.ref N), some (.str (mk (flatP qs))), some (.str (mk (flat ps))), some (.int st), some (.ref Td), x11, x12, x13] ∧ Fd a b H1 H' ∧ H' Td = some (.tup (Vd.vs v)) ∧ Vd.is kd (flat ps) (flatP qs) st v, ?_, ?_⟩;rotate_left
      · refine ⟨_, rfl, _, rfl, _, rfl, _, rfl, kd, st, L, N, ps, qs, rfl, hlL9.same s10, by lia, hp9.same s10, wp.ok, fun go H11 s11 hgT hgF => ?_⟩;refine ⟨go, rfl, ?_⟩;cases go
        · refine iteT ⟨by show 4 ≤ sizeLine; decide, fun T1 hT1 => ?_⟩;exact ⟨T1, .rul, rfl, (fdH.same (s10.trans s11)).new hT1, q0d, wf.good, qs, rfl, wp, by rw [epf]; exact hgF rfl⟩
        · exact iteF ⟨T0, .ok, rfl, fdH.same (s10.trans s11), s11 _ _ hT00, wf.good, qs, rfl, wp, by rw [epf]; exact hgT rfl⟩
      clear hT0 s10 hT00 hp9 hlL9 hp8 hlL8 hp7 hlL7 hlL6 hlL5 hlL4 hM6 hM5 hM4;rintro σ' H10 ⟨Td, v, rfl, fdI, hTd, hv⟩;refine ⟨fun σ' H' => ∃ Td v tt, σ' = [some (.ref sc), some (.ref a), some (.int (0 + (i : Int))), some (.str kd), some (.ref L), some (.ref M), some (.ref N), some (.str (mk tt)), some (.str (mk (flat ps))), some (.int st), some (.ref Td), x11, x12, x13] ∧ Fd a b H1 H' ∧ H' Td = some (.tup (Vd.vs v)) ∧ Vd.is kd (flat ps) tt st v ∧ tt.length ≤ 200, ?_, ?_⟩;rotate_left
      · refine ⟨_, rfl, a, b, 4, rfl, fdI.feed, by decide, by decide, fun r H11 _ _ fd11 => .inl ⟨rfl, _, rfl, ite2 (fun h => ?_) (fun h => ⟨Td, v, flatP qs, rfl, fdI.trans fd11, fd11.at hTd (z6z fdI.feed hTd), hv, by lia⟩)⟩⟩;have fdJ := fdI.trans fd11;refine ⟨_, rfl, _, _, rfl, ⟨TX.small (by rw [q0r]; lia), rfl⟩, by show 4 ≤ sizeLine; decide, fun T1 hT1 => ?_⟩;have eT1 : ∀ (n : Nat), [V.str (Ab "template"), .int ((n : Nat) : Int), .bl true, .bl false] = Vd.vs (.tem n) := fun _ => rfl;rw [q0r, eT1];have fd12 := fdJ.new (o := .tup (Vd.vs (.tem (flatP qs).length))) hT1;have hT1' : upd H11 T1 (.tup (Vd.vs (.tem (flatP qs).length))) T1 = some (.tup (Vd.vs (.tem (flatP qs).length))) := q0d;generalize upd H11 T1 (.tup (Vd.vs (.tem (flatP qs).length))) = H12 at fd12 hT1';refine ⟨_, rfl, by show 4 ≤ sizeLine; decide, fun l4 hl4 => ?_⟩;have s13 := (Same.refl H12).new (o := .lst [V.str (Ab "/"), .str (Ab "{"), .str (Ab " "), .str (Ab "{1z")]) hl4;have fd13 := fd12.same s13;have hl4a : l4 ≠ a := fun z => fd12.feed.na hl4 z.symm;refine ⟨_, rfl, a, b, 4, rfl, fd13.feed, by decide, by decide, fun r6 H14 r60 r61 fd14 => ?_⟩;obtain ⟨y, hy1, hy2⟩ := q3f (xs := [V.str (Ab "/"), .str (Ab "{"), .str (Ab " "), .str (Ab "{1z")]) r60 (by simpa using r61);obtain ⟨e, c, rfl, hlast, hel3, hA, hB⟩ := ends7 wp (Am hy1);refine .inl ⟨l4, _, r6, _, rfl, rfl, SqL.of (fd14.at q0d hl4a), hy2, .inr (.inl ⟨_, _, rfl, rfl, TX.small (by rw [q0r, q0r]; lia), ?_⟩)⟩;rw [z2e];have hT14 := fd14.at (s13 _ _ hT1') (z6z fd13.feed (s13 _ _ hT1'));have fdK := fd13.trans fd14;have e32 : decide (V.str (⟨#[c]⟩ : Str) = V.str (Ab " ")) = decide (c = 32) := lit1 c 32 " " (by decide +kernel);have hle : (flatP qs ++ e).length ≤ 200 := by rw [Ae]; lia
        refine ⟨_, rfl, _, rfl, .inr (.inr ⟨_, _, c, rfl, rfl, TX.small (by rw [q0r]; lia), x1m hlast, .inl ⟨rfl, _, rfl, ?_⟩⟩)⟩;rw [e32];refine ite2 (fun h => ?_) (fun h => ?_)
        · have hc : c ≠ 32 := fun z => by rw [decide_eq_true z] at h; cases h
          refine ⟨_, rfl, _, _, rfl, ⟨TX.small (by rw [q0r]; lia), rfl⟩, by show 4 ≤ sizeLine; decide, fun T2 hT2 => ?_⟩;rw [q0r, eT1];exact ⟨T2, .tem (flatP qs ++ e).length, flatP qs ++ e, rfl, fdK.new hT2, q0d, ⟨wf.good, Ah _, hA hc⟩, hle⟩
        · have hc : c = 32 := Cv fun z => by rw [decide_eq_false z] at h; exact h rfl
          exact ⟨T1, .tem (flatP qs).length, flatP qs ++ e, rfl, fdK, hT14, ⟨wf.good, by rw [Ae]; lia, hB hc⟩, hle⟩
      clear fdI hTd hv;rintro σ' H11 ⟨Td, v, tt, rfl, fdJ, hTd, hv, htt⟩;refine ⟨fun σ' H' => ∃ Td v l x11, σ' = [some (.ref sc), some (.ref a), some (.int (0 + (i : Int))), some (.str kd), some (.ref L), some (.ref M), some (.ref N), some (.str (mk tt)), some (.str (mk l)), some (.int st), some (.ref Td), x11, x12, x13] ∧ Fd a b H1 H' ∧ H' Td = some (.tup (Vd.vs v)) ∧ Vd.is kd l tt st v ∧ l.length ≤ 100, ?_, ?_⟩;rotate_left
      · refine ⟨_, rfl, a, b, 4, rfl, fdJ.feed, by decide, by decide, fun r H12 _ _ fd12 => .inl ⟨rfl, _, rfl, ite2 (fun h => ?_) (fun h => ⟨Td, v, flat ps, x11, rfl, fdJ.trans fd12, fd12.at hTd (z6z fdJ.feed hTd), hv, by lia⟩)⟩⟩;have fdK := fdJ.trans fd12;refine ⟨_, rfl, _, rfl, .inl ⟨_, rfl, TX.small (by rw [q0r]; lia), ?_⟩⟩;rw [z0y (by decide), show (23 : Int).toNat = 23 by decide];have hg := wf.good;have htl : ((flat ps).take 23).length ≤ 23 := by rw [Bk]; lia
        refine ⟨_, rfl, _, rfl, _, _, rfl, ⟨TX.small (by rw [q0r]; lia), rfl⟩, .inl ⟨_, _, rfl, rfl, a, b, _, rfl, fdK.feed, by lia, by rw [q0r]; lia, fun r H13 r0 r1 fd13 => ?_⟩⟩;obtain ⟨n, rfl⟩ : ∃ n : Nat, r = (n : Int) := ⟨r.toNat, by lia⟩
        rw [q0r] at r1;have fdL := fdK.trans fd13;refine ⟨_, rfl, _, rfl, _, rfl, .inl ⟨_, rfl, TX.small (by rw [q0r]; lia), ?_⟩⟩;rw [z0y r0, Kd];refine ⟨_, rfl, a, b, 4, rfl, fdL.feed, by decide, by decide, fun r6 H14 r60 r61 fd14 => ?_⟩;obtain ⟨c, hc1, hc2⟩ := q3f (xs := tl (Ab " /{}")) r60 (by rw [show (tl (Ab " /{}")).length = 4 by decide +kernel]; exact r61);have hcc := sp4 c (Am hc1);have fdM := fdL.trans fd14;refine .inr (.inr ⟨_, r6, c, rfl, rfl, TX.small (by decide +kernel), hc2, .inr (.inl ⟨_, _, rfl, rfl, TX.small (by rw [q0r, Bk]; show _ + 1 ≤ _; lia), ?_⟩)⟩);refine ⟨_, rfl, _, rfl, _, rfl, .inl ⟨_, rfl, TX.small (by rw [q0r]; lia), ?_⟩⟩;rw [z2d r0, Kd, show mk (((flat ps).take 23).take n) ++ (⟨#[c]⟩ : Str) = mk (((flat ps).take 23).take n ++ [c]) from z2e _ [c]];refine .inr (.inl ⟨_, _, rfl, rfl, TX.small (by rw [q0r, q0r, Ae, Bk, Bx, Aq]; lia), ?_⟩);rw [z2e];refine ⟨_, rfl, by show 4 ≤ sizeLine; decide, fun T2 hT2 => ?_⟩;exact ⟨T2, .pat n, _, _, rfl, fdM.new hT2, q0d, z6y hg (by lia) hcc, by rw [Ae, Ae, Bk, Bx, Aq]; lia⟩
      clear fdJ hTd hv;rintro σ' H12 ⟨Td, v, l, y11, rfl, fdK, hTd, hv, hll⟩;refine ⟨by show 2 ≤ sizeLine; decide, fun LB hLB => ⟨LB, rfl, ⟨_, SqL.of q0d⟩, ?_⟩⟩;have sB := (Same.refl H12).new (o := .lst [V.bl false, .bl true]) hLB;have hLB' : upd H12 LB (.lst [V.bl false, .bl true]) LB = some (.lst [V.bl false, .bl true]) := q0d;generalize upd H12 LB (.lst [V.bl false, .bl true]) = H13 at sB hLB';have fdL := fdK.same sB;have hTd3 := sB _ _ hTd;refine q3o (xs := [V.bl false, .bl true]) (fun j σ' H' => ∃ x12 x13, σ' = [some (.ref sc), some (.ref a), some (.int (0 + (i : Int))), some (.str kd), some (.ref L), some (.ref M), some (.ref N), some (.str (mk tt)), some (.str (mk l)), some (.int st), some (.ref Td), y11, x12, x13] ∧ Same H13 H') ⟨_, _, rfl, Same.refl H13⟩ (fun j σ' H' _ ⟨_, _, _, s⟩ => SqL.of (s _ _ hLB')) ?_ ?_
      · rintro j x σ' H' hx ⟨x12, x13, rfl, s14⟩;obtain ⟨bb, rfl⟩ : ∃ bb, x = V.bl bb := by
          match j, hx with
          | 0, hx => cases hx; exact ⟨false, rfl⟩
          | 1, hx => cases hx; exact ⟨true, rfl⟩
        refine ⟨_, rfl, _, rfl, _, rfl, _, rfl, by show 4 ≤ sizeLine; decide, fun R hR => ?_⟩;have s15 := (Same.refl H').new (o := .tup [V.str kd, .str (mk l), .str (mk tt), .int st]) hR;refine ⟨_, rfl, R, kd, l, tt, st, [97, 49], bb, v, by rw [ea1]; rfl, q0d, by lia, by lia, by decide, by decide, hv, fun T1 H16 s16 hT16 => ?_⟩;have sAll := s14.trans (s15.trans s16);refine ⟨_, rfl, _, rfl, .inr ⟨_, _, Vd.dt hT16, Vd.dt (sAll _ _ hTd3), v.lay, v.lay, by rw [Nat.min_self]; exact v.dep, _, rfl, ?_⟩⟩;rw [SeqAt.eqv_refl _ v.lay];exact iteF ⟨_, _, rfl, sAll⟩
      · rintro σ' H' ⟨x12, x13, rfl, s14⟩;exact ⟨_, _, _, _, _, _, _, _, _, _, _, _, rfl, fdL.same s14⟩
    · rintro σ' H' ⟨x2, x3, x4, x5, x6, x7, x8, x9, x10, x11, x12, x13, rfl, fd⟩;exact k _
end
end K
set_option maxHeartbeats 4000000
namespace K
open PySem L2 TX
theorem df_mk{K:Af}{mg:Str->Option Value}{h:Heap}{x:Str}{st:Stmt}{ps:List Str}{f:Addr}{oc:Value}{od an:Option Addr}{osl:Array (Option Value)}{kV doc pm cdv ct:Value}(X:K.In h)(G:h.Ns Bt mg)(a:Ey K Bt x=some (some (.ref f)))(l:K.lookup f=some ⟨oc,od,.func (Hg x x (defArgs st) (defBody st) (defScope st) .none kV doc pm an cdv ct),osl⟩)(c:Ku K cdv x=true)(k:Eo K (.ref f)=true)(hb:∀(kV doc pm:Value) (an:Option Addr) (cdv ct:Value) (us:List Value),us.length=ps.length->bindArgs (Hg x x (defArgs st) (defBody st) (defScope st) .none kV doc pm an cdv ct) ⟨us,[]⟩=pure (ps.zip us)):Df K mg x st ps :=
 ⟨f,_,q9z l c k,Ij X G a,(q9z (st:=st) l c k).binds hb⟩
structure Eb (K:Af) (mg:Str->Option Value) (D:Addr) (mc:Value):Prop where
 gl:mg "HallError" = some (.ref D)
 base:EBase K D
 ini:EIni K D mc
 hn:Hv K (.builtin "object.__class__") "__get__" = some (some (.builtin "getset_descriptor.__get__"))
 htk:Nn K (.builtin "object.__class__")=some true
theorem eb_mk{K:Af}{mg:Str->Option Value}{h:Heap}(X:K.In h)(G:h.Ns Bt mg){D:Addr}{nm qn:Str}{N:Addr}{bs:List Value}{sn:List Str}{sub:List Value}{ab:Bool}{col:Option Bool}{dd:Option Addr}{k0 k1 k2 k3 k5:Option Value}{oc mc:Value}{od:Option Addr}{es:Array Jq}{ep:Nat}{sl:Array (Option Value)}(g:Ey K Bt "HallError" = some (some (.ref D)))(l:K.lookup D=some (Ce nm qn D N bs bmV true sn sub ab col dd k0 k1 k2 k3 k5 "ValueError.__new__"))(n:K.lookup N=some ⟨oc,od,.dict es ep,sl⟩)(s:es.toList.all strKey=true)(i:Ey K N "__init__" = some none)(sp:Hv K (.ref D) "__getattribute__" = some (some (.builtin "type.__getattribute__")))(tm:W.typeIn K (.ref D)=some mc)(rd:W.readsIn K D mc=true)(fc:W.findCls K (.ref D) mc "__init__" = some (.val (.builtin "ValueError.__init__")))(hn:Hv K (.builtin "object.__class__") "__get__" = some (some (.builtin "getset_descriptor.__get__")))(htk:Nn K (.builtin "object.__class__")=some true):Eb K mg D mc :=
 ⟨Ij X G g,⟨nm,qn,N,bs,sn,sub,ab,col,dd,k0,k1,k2,k3,k5,l,q8m n s,i⟩,⟨sp,rd,fc⟩,hn,htk⟩
structure Ec (K:Af) (mg:Str->Option Value) (x:Str) (C D:Addr) (qual:Str) (st:Stmt) (ps:List Str):Prop where
 gl:mg x=some (.ref C)
 ex:∃f fd,Fun K "__init__" qual st f fd/\ELaw K C D f/\Binds K fd ps []
 sa:Bu K (.ref C) "__setattr__" = some (some (.builtin "object.__setattr__"))
 ga:Bu K (.ref C) "__getattribute__" = some (some (.builtin "BaseException.__getattribute__"))
 gh:Bu K (.ref C) "__getattr__" = some none
 ha:Bu K (.ref C) "__class__" = some (some (.builtin "object.__class__"))
section
variable{K:Af}{mg:Str->Option Value}{x:Str}{C D:Addr}{qual:Str}{st:Stmt}{ps:List Str}{mc:Value}{f:Str}
theorem Ec.ef(E:Ec K mg x C D qual st ps)(B:Eb K mg D mc):Ef K mg x C D qual st ps:=by
 obtain⟨f,fd,h1,h2,h3⟩:=E.ex;exact⟨⟨f,fd,mc,h1,h2,B.base,B.ini,h3⟩,E.gl⟩
theorem Ec.set(E:Ec K mg x C D qual st ps)(tk:Bu K (.ref C) f=some none):ESet K C f:=by
 obtain⟨_,_,_,h,_⟩:=E.ex;exact h.set E.sa tk
theorem Ec.get(E:Ec K mg x C D qual st ps)(tk:Bu K (.ref C) f=some none):EGet K C f:=by
 obtain⟨_,_,_,h,_⟩:=E.ex;exact h.get E.ga E.gh tk
theorem Ec.isi(E:Ec K mg x C D qual st ps)(B:Eb K mg D mc):EIsi K C:=by
 obtain⟨_,_,_,h,_⟩:=E.ex;exact⟨h.clsIn,E.ga,E.gh,E.ha,B.hn,B.htk⟩
theorem Ec.cls(E:Ec K mg x C D qual st ps):ECls K C (.ref D::bmV):=by
 obtain⟨_,_,_,h,_⟩:=E.ex;exact h.cls
theorem Ec.sub(E:Ec K mg x C D qual st ps):SubX K (.ref C) D:=by
 obtain⟨_,_,_,h,_⟩:=E.ex;exact h.sub
theorem ec_mk{h:Heap}(X:K.In h)(G:h.Ns Bt mg){nm qn:Str}{N:Addr}{bs:List Value}{sn:List Str}{sub:List Value}{ab:Bool}{col:Option Bool}{dd:Option Addr}{k0 k1 k2 k3 k5:Option Value}{oc:Value}{od:Option Addr}{es:Array Jq}{ep:Nat}{sl:Array (Option Value)}{fi:Addr}{odi an:Option Addr}{sli:Array (Option Value)}{oci kV dc pm cd ct:Value}(g:Ey K Bt x=some (some (.ref C)))(l:K.lookup C=some (Ce nm qn C N bs (.ref D::bmV) true sn sub ab col dd k0 k1 k2 k3 k5 "ValueError.__new__"))(n:K.lookup N=some ⟨oc,od,.dict es ep,sl⟩)(s:es.toList.all strKey=true)(i:Ey K N "__init__" = some (some (.ref fi)))(li:K.lookup fi=some ⟨oci,odi,.func (Hg "__init__" qual (defArgs st) (defBody st) (defScope st) .none kV dc pm an cd ct),sli⟩)(ci:Ku K cd qual=true)(ki:Eo K (.ref fi)=true)(ti:oci=.type "function")(kp:Eo K (.ref C)=true)(sa:Bu K (.ref C) "__setattr__" = some (some (.builtin "object.__setattr__")))(ga:Bu K (.ref C) "__getattribute__" = some (some (.builtin "BaseException.__getattribute__")))(gh:Bu K (.ref C) "__getattr__" = some none)(ha:Bu K (.ref C) "__class__" = some (some (.builtin "object.__class__")))(hb:∀(kV doc pm:Value) (an:Option Addr) (cdv ct:Value) (us:List Value),us.length=ps.length->bindArgs (Hg "__init__" qual (defArgs st) (defBody st) (defScope st) .none kV doc pm an cdv ct) ⟨us,[]⟩=pure (ps.zip us)):Ec K mg x C D qual st ps :=
 ⟨Ij X G g,⟨fi,_,q9z li ci ki,⟨⟨nm,qn,N,bs,sn,sub,ab,col,dd,k0,k1,k2,k3,k5,l,q8m n s,i⟩,⟨_,li,ti⟩,kp⟩,(q9z (st:=st) li ci ki).binds hb⟩,sa,ga,gh,ha⟩
end
structure Ec0 (K:Af) (mg:Str->Option Value) (x:Str) (C D:Addr):Prop where
 gl:mg x=some (.ref C)
 lw:EBase K D->ELaw0 K C D
 ga:Bu K (.ref C) "__getattribute__" = some (some (.builtin "BaseException.__getattribute__"))
 gh:Bu K (.ref C) "__getattr__" = some none
 ha:Bu K (.ref C) "__class__" = some (some (.builtin "object.__class__"))
section
variable{K:Af}{mg:Str->Option Value}{x:Str}{C D:Addr}{mc:Value}
theorem Ec0.law(E:Ec0 K mg x C D)(B:Eb K mg D mc):ELaw0 K C D:=E.lw B.base
theorem Ec0.isi(E:Ec0 K mg x C D)(B:Eb K mg D mc):EIsi K C:=⟨(E.law B).clsIn,E.ga,E.gh,E.ha,B.hn,B.htk⟩
theorem ec0_mk{h:Heap}(X:K.In h)(G:h.Ns Bt mg){nm qn:Str}{N:Addr}{bs:List Value}{sn:List Str}{sub:List Value}{ab:Bool}{col:Option Bool}{dd:Option Addr}{k0 k1 k2 k3 k5:Option Value}{oc:Value}{od:Option Addr}{es:Array Jq}{ep:Nat}{sl:Array (Option Value)}(g:Ey K Bt x=some (some (.ref C)))(l:K.lookup C=some (Ce nm qn C N bs (.ref D::bmV) true sn sub ab col dd k0 k1 k2 k3 k5 "ValueError.__new__"))(n:K.lookup N=some ⟨oc,od,.dict es ep,sl⟩)(s:es.toList.all strKey=true)(i:Ey K N "__init__" = some none)(kp:Eo K (.ref C)=true)(ga:Bu K (.ref C) "__getattribute__" = some (some (.builtin "BaseException.__getattribute__")))(gh:Bu K (.ref C) "__getattr__" = some none)(ha:Bu K (.ref C) "__class__" = some (some (.builtin "object.__class__"))):Ec0 K mg x C D :=
 ⟨Ij X G g,fun B=>⟨⟨nm,qn,N,bs,sn,sub,ab,col,dd,k0,k1,k2,k3,k5,l,q8m n s,i⟩,kp,B⟩,ga,gh,ha⟩
end
theorem len_1{us:List Value}(h:us.length=1):∃x0,us=[x0]:=by
 match us,h with
 |[x0],_=>exact⟨x0,rfl⟩
theorem len_2{us:List Value}(h:us.length=2):∃x0 x1,us=[x0,x1]:=by
 match us,h with
 |[x0,x1],_=>exact⟨x0,x1,rfl⟩
theorem len_3{us:List Value}(h:us.length=3):∃x0 x1 x2,us=[x0,x1,x2]:=by
 match us,h with
 |[x0,x1,x2],_=>exact⟨x0,x1,x2,rfl⟩
theorem len_4{us:List Value}(h:us.length=4):∃x0 x1 x2 x3,us=[x0,x1,x2,x3]:=by
 match us,h with
 |[x0,x1,x2,x3],_=>exact⟨x0,x1,x2,x3,rfl⟩
theorem len_5{us:List Value}(h:us.length=5):∃x0 x1 x2 x3 x4,us=[x0,x1,x2,x3,x4]:=by
 match us,h with
 |[x0,x1,x2,x3,x4],_=>exact⟨x0,x1,x2,x3,x4,rfl⟩
theorem all_mk{lw:Po}{w:World}{K:Af}{h:Heap}{mg:Str->Option Value}{fa:Addr}(X:K.In h)(G:h.Ns Bt mg)(hfa:mg "law" = some (.ref fa)){f36:Addr}{od36 an36:Option Addr}{sl36:Array (Option Value)}{oc36 kV36 dc36 pm36 cd36 ct36:Value}{eHallError:Addr}{mcH:Value}{eNoPattern:Addr}{eNoTemplate:Addr}{eNoRule:Addr}{eTooMuch:Addr}{dC:Addr}{ep:Nat}{ck1 ck2 ck3 ck4:Tok}{dK:Addr}{tnK:Nat}{tdK:Option Addr}{tsK:Array (Option Value)}{tkK0 tkK1 tkK2:Tok}{dO:Addr}{tnO:Nat}{tdO:Option Addr}{tsO:Array (Option Value)}{tkO0 tkO1 tkO2 tkO3 tkO4:Tok}(D_all_of:Df K mg "all_of" q6s ["text", "signs"])(D_ask_signs:Df K mg "ask_signs" q2l ["pattern"])(D_text_parts:Df K mg "text_parts" q2y ["text"])(D_parts_of:Df K mg "parts_of" q2z ["pattern"])(D_asked:Df K mg "asked" q5x ["template", "at", "signs"])(D_end_of:Df K mg "end_of" q6t ["template", "at", "signs", "most"])(D_read_count:Df K mg "read_count" q2h ["template", "at"])(D_read_noughts:Df K mg "read_noughts" q1x ["template", "at", "gap"])(D_read_more:Df K mg "read_more" q2m ["template", "at", "gap"])(D_read_gap:Df K mg "read_gap" q3a ["template", "at", "gap"])(D_read_mark:Df K mg "read_mark" q2p ["template", "at"])(D_read_into:Df K mg "read_into" q2o ["template", "at"])(D_read_text:Df K mg "read_text" q2n ["template", "at"])(D_read_piece:Df K mg "read_piece" q2i ["template", "at"])(D_pieces_of:Df K mg "pieces_of" q2q ["template"])(D_ask_gap:Df K mg "ask_gap" q3r ["piece", "gap_signs"])(D_ask_piece:Df K mg "ask_piece" q2r ["piece", "kind", "gap_signs"])(D_ask_rule:Df K mg "ask_rule" q3b ["rule"])(D_gap_takes:Df K mg "gap_takes" q3k ["gap_sign", "text"])(D_takes:Df K mg "takes" q8t ["part", "text"])(D_furthest_ends:Df K mg "furthest_ends" q2d ["part", "name", "later"])(D_ends_of_parts:Df K mg "ends_of_parts" q2e ["parts", "name"])(D_reading:Df K mg "reading" q5g ["pattern", "name"])(D_with_noughts:Df K mg "with_noughts" q2j ["text", "width"])(D_gap_text:Df K mg "gap_text" q4b ["piece", "text"])(D_piece_text:Df K mg "piece_text" q3c ["piece", "gap_texts", "count"])(D_tells:Df K mg "tells" q5z ["rule", "name", "count"])(D_draw:Df K mg "_law_draw" q8q ["_law_feed", "_law_many"])(D_name_signs:Df K mg "_law_name_signs" q2x [])(D_text:Df K mg "_law_text" z1t ["_law_feed", "_law_signs", "_law_size"])(D_parts:Df K mg "_law_parts" q9h ["_law_feed", "_law_most"])(D_piece:Df K mg "_law_piece" q9i ["_law_feed", "_law_gaps", "_law_more"])(D_pieces:Df K mg "_law_pieces" q7a ["_law_feed", "_law_gaps", "_law_more", "_law_intos"])(D_goes:Df K mg "_law_goes" z2a ["_law_kind", "_law_start_here", "_law_parts_here", "_law_pieces_here"])(D_start:Df K mg "_law_start" q9j ["_law_feed"])(D_told_of:Df K mg "_law_told_of" q5i ["_law_rule", "_law_name", "_law_by_name"])(a36:Ey K Bt "law" = some (some (.ref f36)))(l36:K.lookup f36=some ⟨oc36,od36,.func (Hg "law" "law" (defArgs q3m) (defBody q3m) (defScope q3m) .none kV36 dc36 pm36 an36 cd36 ct36),sl36⟩)(c36:Ku K cd36 "law" = true)(k36:Eo K (.ref f36)=true)(T:Txt mg)(E0:Eb K mg eHallError mcH)(E_NoPattern:Ec K mg "NoPattern" eNoPattern eHallError "NoPattern.__init__" q1m ["self", "at"])(t_NoPattern_at:Bu K (.ref eNoPattern) "at" = some none)(E_NoTemplate:Ec K mg "NoTemplate" eNoTemplate eHallError "NoTemplate.__init__" q1k ["self", "at"])(t_NoTemplate_at:Bu K (.ref eNoTemplate) "at" = some none)(E_NoRule:Ec0 K mg "NoRule" eNoRule eHallError)(gl_TooMuch:mg "TooMuch" = some (.ref eTooMuch))(KO_NoPattern_HallError:Dy K (.ref eNoPattern) (.ref eHallError)=some true)(KO_NoPattern_ValueError:Dy K (.ref eNoPattern) (.type "ValueError")=some true)(KO_NoRule_HallError:Dy K (.ref eNoRule) (.ref eHallError)=some true)(KO_NoRule_ValueError:Dy K (.ref eNoRule) (.type "ValueError")=some true)(KO_NoTemplate_HallError:Dy K (.ref eNoTemplate) (.ref eHallError)=some true)(KO_NoTemplate_ValueError:Dy K (.ref eNoTemplate) (.type "ValueError")=some true)(KA_NoPattern__NoTemplate__NoRule__TooMuch:Fe K (.ref eNoPattern) [.ref eNoTemplate,.ref eNoRule,.ref eTooMuch]=some false)(KA_NoRule__NoPattern:Fe K (.ref eNoRule) [.ref eNoPattern]=some false)(KA_NoRule__NoPattern__NoTemplate__TooMuch:Fe K (.ref eNoRule) [.ref eNoPattern,.ref eNoTemplate,.ref eTooMuch]=some false)(KA_NoRule__NoTemplate:Fe K (.ref eNoRule) [.ref eNoTemplate]=some false)(KA_NoTemplate__NoPattern:Fe K (.ref eNoTemplate) [.ref eNoPattern]=some false)(KA_NoTemplate__NoPattern__NoRule__TooMuch:Fe K (.ref eNoTemplate) [.ref eNoPattern,.ref eNoRule,.ref eTooMuch]=some false)(gC:Ey K Bt "CASES" = some (some (.ref dC)))(lC:K.lookup dC=some ⟨.type "dict",none,.dict #[⟨Jm w.params (Ab "u"),.str (Ab "u") ck1,.str (Ab "great") ck2⟩,⟨Jm w.params (Ab "l"),.str (Ab "l") ck3,.str (Ab "small") ck4⟩] ep,#[]⟩)(gK:Ey K Bt "KINDS" = some (some (.ref dK)))(lK:K.lookup dK=some ⟨.type "tuple",tdK,.seq #[.str (Ab "slip") tkK0,.str (Ab "drawer") tkK1,.str (Ab "all") tkK2] tnK,tsK⟩)(gO:Ey K Bt "OF_A_GAP" = some (some (.ref dO)))(lO:K.lookup dO=some ⟨.type "tuple",tdO,.seq #[.str (Ab "gap") tkO0,.str (Ab "great") tkO1,.str (Ab "small") tkO2,.str (Ab "noughts") tkO3,.str (Ab "more") tkO4] tnO,tsO⟩):
  ∃fd:Ib,(∀(s:Ag) (v:Value),Lx s fd ⟨[v],[]⟩ [("_law_script",v)])/\∀base:Heap,K.In base->base.Ns Bt mg->FnOk lw.prog w K mg base CX0 12 fa fd ["_law_script"] (spLaw K):=by
 have e:=hfa.symm.trans (Ij X G a36);cases e;have EB_HallError:=E0.base;have gl_HallError:=E0.gl;have EF_NoPattern:=E_NoPattern.ef E0;have ES_NoPattern_at:=E_NoPattern.set t_NoPattern_at;have EG_NoPattern_at:=E_NoPattern.get t_NoPattern_at;have EI_NoPattern:=E_NoPattern.isi E0;have gl_NoPattern:=E_NoPattern.gl;have EF_NoTemplate:=E_NoTemplate.ef E0;have ES_NoTemplate_at:=E_NoTemplate.set t_NoTemplate_at;have EG_NoTemplate_at:=E_NoTemplate.get t_NoTemplate_at;have EI_NoTemplate:=E_NoTemplate.isi E0;have gl_NoTemplate:=E_NoTemplate.gl;have EL_NoRule:=E_NoRule.law E0;have EI_NoRule:=E_NoRule.isi E0;have gl_NoRule:=E_NoRule.gl;have FL:=q9z (st:=q3m) l36 c36 k36;refine⟨Hg "law" "law" (defArgs q3m) (defBody q3m) (defScope q3m) .none kV36 dc36 pm36 an36 cd36 ct36,fun s v=>.of_eq rfl,fun base _ _=>?_⟩;have c1B:=z3b (P:=lw.prog) (w:=w) (base:=base) D_draw T;have c1:=x0t (P:=lw.prog) (w:=w) (base:=base) D_draw T;have c2:=x0v (P:=lw.prog) (w:=w) (base:=base) D_text T c1;have C1:Calls1 lw.prog w K mg base:=⟨z0i D_ask_signs T,q4w D_text_parts T⟩
 have CA:CallsA lw.prog w K mg base:=⟨z6i D_all_of T⟩
 have CB:CallsB lw.prog w K mg base:=⟨z0l D_gap_takes T CA⟩
 have CC:CallsC lw.prog w K mg base:=⟨z8d D_takes T CB⟩
 have CD:CallsD lw.prog w K mg base:=⟨q5p D_furthest_ends T CC⟩
 have cPO:=z1u (P:=lw.prog) (w:=w) (base:=base) D_parts_of T C1;have CE:CallsE lw.prog w K mg base:=⟨cPO,q5q D_ends_of_parts T CD⟩
 have cAs:=z8e (P:=lw.prog) (w:=w) (base:=base) D_asked T;have CT:CallsT lw.prog w K mg base:=⟨cAs,z0m D_end_of T⟩
 have CU:CallsU lw.prog w K mg base:=⟨cAs,q6u D_read_noughts T CT,z0n D_read_more T CT,⟨dC,Ij X G gC,z3e lC⟩⟩
 have CV:CallsV lw.prog w K mg base:=⟨cAs,q8u D_read_count T CT,z1v D_read_gap T CU⟩
 have CW:CallsW lw.prog w K mg base:=⟨z0q D_read_mark T CV,z0p D_read_into T,z0o D_read_text T CT⟩
 have CX:CallsX lw.prog w K mg base:=⟨q8w D_read_piece T CW⟩
 have cPi:=z0r (P:=lw.prog) (w:=w) (base:=base) D_pieces_of T CX;have CR:CallsR lw.prog w K mg base:=⟨z4b D_ask_gap T,⟨dO,Ij X G gO,fun H=>.inr ⟨_,_,_,lO,rfl,rfl,by show 5<=sizeLine;decide,.cons ⟨_,rfl⟩ (.cons ⟨_,rfl⟩ (.cons ⟨_,rfl⟩ (.cons ⟨_,rfl⟩ (.cons ⟨_,rfl⟩ .nil))))⟩⟩⟩
 have CS:CallsS lw.prog w K mg base:=⟨cPO,cPi,z0s D_ask_piece T CR,⟨dK,Ij X G gK,fun H=>.inr ⟨_,_,_,lK,rfl,rfl,by show 3<=sizeLine;decide,.cons ⟨_,rfl⟩ (.cons ⟨_,rfl⟩ (.cons ⟨_,rfl⟩ .nil))⟩⟩⟩
 have cWN:=q6w (P:=lw.prog) (w:=w) (base:=base) D_with_noughts T;have CG:CallsGT lw.prog w K mg base:=⟨z1x D_gap_text T ⟨cWN⟩,cWN⟩
 have cNS:=q4v (P:=lw.prog) (w:=w) (base:=base) D_name_signs;have C2:Calls2 lw.prog w K mg base:=⟨c1,c2,cNS⟩
 have CY:CallsY lw.prog w K mg base:=⟨c1,c2,q4v D_name_signs⟩
 have CZ:CallsZ lw.prog w K mg base:=⟨c1,z8o D_piece T CY⟩
 have CTl:CallsTl lw.prog w K mg base:=⟨z1w D_ask_rule T CS,z4a D_reading T CE,cPi,q8z D_piece_text T CG⟩
 have cEp:=q5h (P:=lw.prog) (w:=w) (base:=base) EF_NoPattern gl_HallError ES_NoPattern_at;have cPX:=z0u (P:=lw.prog) (w:=w) (base:=base) D_parts_of T ⟨cEp,q9a D_ask_signs T ⟨cEp⟩,q4w D_text_parts T⟩;have cEt:=q4z (P:=lw.prog) (w:=w) (base:=base) EF_NoTemplate gl_HallError ES_NoTemplate_at;have cAX:=z6q (P:=lw.prog) (w:=w) (base:=base) D_asked T ⟨cEt⟩;have CA6:CallsA6 lw.prog w K mg base eNoTemplate:=⟨cAX,z0m D_end_of T⟩
 have CG6:CallsG6 lw.prog w K mg base eNoTemplate:=⟨cAX,q5s D_read_noughts T CA6,q9b D_read_more T CA6,⟨dC,Ij X G gC,z3e lC⟩⟩
 have CM6:CallsM6 lw.prog w K mg base eNoTemplate:=⟨cAX,q7e D_read_count T CA6,z0v D_read_gap T CG6⟩
 have CP6:CallsP6 lw.prog w K mg base eNoTemplate:=⟨q9c D_read_mark T CM6,q9d D_read_into T ⟨cEt⟩,q9e D_read_text T CA6⟩
 have cPiX:=q9f (P:=lw.prog) (w:=w) (base:=base) D_pieces_of T ⟨cEt,q7f D_read_piece T CP6⟩;have CR7:CallsR7 lw.prog w K mg base eNoRule eHallError:=⟨z1z D_ask_gap T ⟨EL_NoRule,gl_NoRule⟩,CR.of_a_gap,EL_NoRule,gl_NoRule⟩
 have cRX:=z0w (P:=lw.prog) (w:=w) (base:=base) D_ask_rule T ⟨cPO,cPX,cPi,cPiX,CS.ask_piece,q9g D_ask_piece T CR7,CS.kinds,EL_NoRule,gl_NoRule⟩ (fun l i g h=>q7g h g);have cTX:=z6t (P:=lw.prog) (w:=w) (base:=base) D_tells T ⟨cRX,CTl.reading,cPi,cPiX,CTl.piece_text⟩;have CTo:CallsTo7 lw.prog w K mg base eNoPattern eNoTemplate eNoRule eHallError eTooMuch (.ref eHallError::bmV):=⟨CTl.ask_rule,cRX,z8i D_tells T CTl,cTX,gl_HallError,gl_NoPattern,gl_NoTemplate,gl_NoRule,gl_TooMuch,E_NoPattern.cls,E_NoTemplate.cls,ELaw0.cls EL_NoRule,z2b KA_NoTemplate__NoPattern KO_NoTemplate_HallError,z2b KA_NoRule__NoPattern KO_NoRule_HallError,z2b KA_NoRule__NoTemplate KO_NoRule_HallError,EI_NoPattern,EI_NoTemplate,EI_NoRule,EG_NoPattern_at,EG_NoTemplate_at,KO_NoPattern_HallError,KO_NoTemplate_HallError,KO_NoRule_HallError,KO_NoPattern_ValueError,KO_NoTemplate_ValueError,KO_NoRule_ValueError,KA_NoPattern__NoTemplate__NoRule__TooMuch,KA_NoTemplate__NoPattern__NoRule__TooMuch,KA_NoRule__NoPattern__NoTemplate__TooMuch⟩
 have CL:CallsL lw.prog w K mg base:=⟨c1,z8m D_parts T C2,z6w D_pieces T CZ,z8p D_start T ⟨c1B⟩,x1j D_goes T,z4j D_told_of T CTo⟩
 exact FL.ok sc_law (fun vs H Q E h=>by obtain⟨a,ns,rfl,_⟩:=h;rfl) (fun cdv A outer s H vs Q E hr h=>z8q T CL _ cdv A outer s H vs Q E hr h)
theorem walk{l:Po}{q:Program}{loose:List Str}{XP:(Str->Option Value)->Heap->Prop}{YP:World->Heap->Prop}{d:DefRec}{K:Params->Af}(hn:l.most=some 63)(hdf:d.params.defaults=[])(hY:∀(w:World) (h:Heap),YP w h->(K w.params).In h)(F:∀(w:World) (mg:Str->Option Value) (fa:Addr) (h:Heap),(K w.params).In h->h.Ns Bt mg->mg d.name=some (.ref fa) ->
   ∃fd:Ib,(∀(s:Ag) (u:Value),Lx s fd ⟨[u],[]⟩ [("_law_script",u)])/\∀base:Heap,(K w.params).In base->base.Ns Bt mg->FnOk l.prog w (K w.params) mg base CX0 12 fa fd ["_law_script"] (spLaw (K w.params))):
  W.WalkO q loose XP YP l.row.toRowW d [] (fun f vs=>Ph f vs) :=
 L2.walk_of (n:=63) (k:=12) (x := "_law_script") (CX:=fun _=>CX0) (sp:=fun w=>spLaw (K w.params)) hn (by decide) hdf ⟨rfl,by decide,by decide,rfl⟩ hY F (fun _ _ a ns hl _ hS=>⟨a,ns,rfl,hS,hl,fun _=>rfl⟩) fun _ _ _ _ _ z=>z
end K
namespace K
open PySem PySem.W PyProof.Rows
abbrev loose:List Str:=[Ab "HallError",Ab "NoPattern",Ab "NoTemplate",Ab "NoRule",Ab "TooMuch",Ab "FIGURES",Ab "LETTERS",Ab "NAME_SIGNS",Ab "all_of",Ab "GAP_SIGNS",Ab "MOST_GAPS",Ab "ask_signs",Ab "text_parts",Ab "parts_of",Ab "FROM_ONE",Ab "FROM_TWO",Ab "MOST_FIGURES",Ab "CASES",Ab "asked",Ab "end_of",Ab "read_count",Ab "read_noughts",Ab "read_more",Ab "read_gap",Ab "read_mark",Ab "read_into",Ab "read_text",Ab "read_piece",Ab "pieces_of",Ab "KINDS",Ab "OF_A_GAP",Ab "MOST_START",Ab "ask_gap",Ab "ask_piece",Ab "ask_rule",Ab "gap_takes",Ab "takes",Ab "furthest_ends",Ab "ends_of_parts",Ab "reading",Ab "with_noughts",Ab "gap_text",Ab "piece_text",Ab "tells",Ab "_law_draw",Ab "_law_name_signs",Ab "_law_other_signs",Ab "_law_text",Ab "_law_parts",Ab "_law_piece",Ab "_law_pieces",Ab "_law_goes",Ab "_law_start",Ab "_law_told_of"]
abbrev vw:Program:=view PySem.Challenge.pw_renamehall_k07_rules_asked [62]
abbrev xt(s:Ag):Bool:=xlAt vw [] s&&recOk [] s
end K
open PySem PySem.W PyProof.Rows
local macro_rules | `(tactic| o_head $H) => `(tactic| (
  refine holds_open (q := K.vw) (loose := K.loose) (Xt := K.xt) (XP := XL K.vw []) (Yf := Hook.obs $H) (Ya := Hook.val $H) (YP := Hook.says $H) (N := 60000) ?hl (Hook.of $H) (Hook.keeps $H) (fun s e => xl_of s (Mw.mp e).1) XL.keeps
    (by rfl) (by rfl) (by rfl) (fun s e => recFacts_of (Mw.mp e).2) (by rfl) (by first | assumption | decide +kernel) (by decide +kernel) ⟨rfl, rfl, rfl, rfl, rfl, by decide +kernel⟩ ?hw ?hc))
set_option maxRecDepth 100000 in
set_option maxHeartbeats 0 in
theorem PySem.Challenge.cw_renamehall_k07_rules_asked_holds : PySem.Challenge.rw_renamehall_k07_rules_asked.Holds := by
  w_on; o_law; k_head; (case hw => w_witness2)
  (case hl =>
    refine HD.left2 "special-get-raises" (by kernel_rfl) (by rfl) (fun _ => by kernel_rfl) fun b => ?_
    cases b
    · intro w os
      change (segRunT Jt PySem.Challenge.pw_renamehall_k07_rules_asked (w.withFollow "special-get-raises" false) 11 (some (.ref 6)) 0 60000 (HD.bootT (w.withFollow "special-get-raises" false).params os) (topStub PySem.Challenge.pw_renamehall_k07_rules_asked)).map (fun r => ((staticsOk (Dr PySem.Challenge.pw_renamehall_k07_rules_asked.main.body) (boot_heap (w.withFollow "special-get-raises" false).params) r.2.1.abs.heap && namesBound PySem.Challenge.pw_renamehall_k07_rules_asked r.2.1.abs.heap && gensDone r.2.1.abs && laidKept (boot_heap (w.withFollow "special-get-raises" false).params) r.2.1.abs.heap), openSeen K.vw K.loose (Dr PySem.Challenge.pw_renamehall_k07_rules_asked.main.body) K.xt true r.2.1.abs, _)) = some (true, openGood K.vw K.loose, _)
      unfold K.xt K.vw
      rw [Hr, Ht, Hs, Hu, PySem.W.Fast.te2915777740985990879]
      kernel_rfl
    · intro w os
      change (segRunT Jt PySem.Challenge.pw_renamehall_k07_rules_asked (w.withFollow "special-get-raises" true) 11 (some (.ref 6)) 0 60000 (HD.bootT (w.withFollow "special-get-raises" true).params os) (topStub PySem.Challenge.pw_renamehall_k07_rules_asked)).map (fun r => ((staticsOk (Dr PySem.Challenge.pw_renamehall_k07_rules_asked.main.body) (boot_heap (w.withFollow "special-get-raises" true).params) r.2.1.abs.heap && namesBound PySem.Challenge.pw_renamehall_k07_rules_asked r.2.1.abs.heap && gensDone r.2.1.abs && laidKept (boot_heap (w.withFollow "special-get-raises" true).params) r.2.1.abs.heap), openSeen K.vw K.loose (Dr PySem.Challenge.pw_renamehall_k07_rules_asked.main.body) K.xt true r.2.1.abs, _)) = some (true, openGood K.vw K.loose, _)
      unfold K.xt K.vw
      rw [Hr, Ht, Hs, Hu, PySem.W.Fast.te2915777740985990879]
      kernel_rfl)
  k_fill
  refine K.walk (l := PySem.Challenge.rw_renamehall_k07_rules_asked) rfl rfl (fun w h Y => PySem.W.kIn_of Y) ?F
  case F =>
    intro w mg fa h KX G hmg
    refine' K.all_mk KX G hmg (K.df_mk KX G ?_ ?_ ?_ ?_ ?_) (K.df_mk KX G ?_ ?_ ?_ ?_ ?_) (K.df_mk KX G ?_ ?_ ?_ ?_ ?_) (K.df_mk KX G ?_ ?_ ?_ ?_ ?_) (K.df_mk KX G ?_ ?_ ?_ ?_ ?_) (K.df_mk KX G ?_ ?_ ?_ ?_ ?_) (K.df_mk KX G ?_ ?_ ?_ ?_ ?_) (K.df_mk KX G ?_ ?_ ?_ ?_ ?_) (K.df_mk KX G ?_ ?_ ?_ ?_ ?_) (K.df_mk KX G ?_ ?_ ?_ ?_ ?_) (K.df_mk KX G ?_ ?_ ?_ ?_ ?_) (K.df_mk KX G ?_ ?_ ?_ ?_ ?_) (K.df_mk KX G ?_ ?_ ?_ ?_ ?_) (K.df_mk KX G ?_ ?_ ?_ ?_ ?_) (K.df_mk KX G ?_ ?_ ?_ ?_ ?_) (K.df_mk KX G ?_ ?_ ?_ ?_ ?_) (K.df_mk KX G ?_ ?_ ?_ ?_ ?_) (K.df_mk KX G ?_ ?_ ?_ ?_ ?_) (K.df_mk KX G ?_ ?_ ?_ ?_ ?_) (K.df_mk KX G ?_ ?_ ?_ ?_ ?_) (K.df_mk KX G ?_ ?_ ?_ ?_ ?_) (K.df_mk KX G ?_ ?_ ?_ ?_ ?_) (K.df_mk KX G ?_ ?_ ?_ ?_ ?_) (K.df_mk KX G ?_ ?_ ?_ ?_ ?_) (K.df_mk KX G ?_ ?_ ?_ ?_ ?_) (K.df_mk KX G ?_ ?_ ?_ ?_ ?_) (K.df_mk KX G ?_ ?_ ?_ ?_ ?_) (K.df_mk KX G ?_ ?_ ?_ ?_ ?_) (K.df_mk KX G ?_ ?_ ?_ ?_ ?_) (K.df_mk KX G ?_ ?_ ?_ ?_ ?_) (K.df_mk KX G ?_ ?_ ?_ ?_ ?_) (K.df_mk KX G ?_ ?_ ?_ ?_ ?_) (K.df_mk KX G ?_ ?_ ?_ ?_ ?_) (K.df_mk KX G ?_ ?_ ?_ ?_ ?_) (K.df_mk KX G ?_ ?_ ?_ ?_ ?_) (K.df_mk KX G ?_ ?_ ?_ ?_ ?_) ?_ ?_ ?_ ?_ ⟨mg_none_of KX G ?_, mg_none_of KX G ?_, mg_none_of KX G ?_, mg_none_of KX G ?_, mg_none_of KX G ?_, mg_none_of KX G ?_, mg_none_of KX G ?_, mg_none_of KX G ?_, mg_none_of KX G ?_, mg_none_of KX G ?_, mg_none_of KX G ?_, mg_none_of KX G ?_, mg_none_of KX G ?_, mg_none_of KX G ?_, ⟨_, mg_of KX G ?_⟩, ⟨_, mg_of KX G ?_⟩, ⟨_, mg_of KX G ?_⟩, ⟨_, mg_of KX G ?_⟩, ⟨_, mg_of KX G ?_⟩, ⟨_, mg_of KX G ?_⟩, ⟨_, mg_of KX G ?_⟩, ⟨_, mg_of KX G ?_⟩, ⟨_, mg_of KX G ?_⟩⟩ (K.eb_mk KX G ?_ ?_ ?_ ?_ ?_ ?_ ?_ ?_ ?_ ?_ ?_) (K.ec_mk KX G ?_ ?_ ?_ ?_ ?_ ?_ ?_ ?_ ?_ ?_ ?_ ?_ ?_ ?_ ?_) ?_ (K.ec_mk KX G ?_ ?_ ?_ ?_ ?_ ?_ ?_ ?_ ?_ ?_ ?_ ?_ ?_ ?_ ?_) ?_ (K.ec0_mk KX G ?_ ?_ ?_ ?_ ?_ ?_ ?_ ?_ ?_) (mg_of KX G ?_) ?_ ?_ ?_ ?_ ?_ ?_ ?_ ?_ ?_ ?_ ?_ ?_ ?_ ?_ ?_ ?_ ?_ ?_
    all_goals try (first | k_is | kit_is | rfl | decide +kernel | (intro _ _ _ _ _ _ us hl; first | (obtain ⟨_, rfl⟩ := K.len_1 hl; rfl) | (obtain ⟨_, _, rfl⟩ := K.len_2 hl; rfl) | (obtain ⟨_, _, _, rfl⟩ := K.len_3 hl; rfl) | (obtain ⟨_, _, _, _, rfl⟩ := K.len_4 hl; rfl) | (obtain ⟨_, _, _, _, _, rfl⟩ := K.len_5 hl; rfl) | (cases us with | nil => rfl | cons _ _ => cases hl)))
