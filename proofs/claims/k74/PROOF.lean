import PyProof.Rows.All
import Wide.All
import OpenK.AllK
import Wide.FinOn
import Lean
import PyProof.EqAt
import PyProof.EqKinds
import PyProof.TupleCall
import PySem.Challenge.RW_renamehall_k74_two_ways_round
import KE.IntTextLaws
import KE.KIsAll
import PyProof.ExcArgsOwn
import PyProof.ExcBaseAll.ValueError
import PyProof.ExcClass2
import PyProof.ExcInit
import PyProof.InstStore
import PyProof.Rows.CatchBare
import PyProof.Rows.CatchOwn
import PyProof.StationsW
import PyProof.SumWalk
import PyProof.ReprRoads
set_option Elab.async false
set_option linter.all false
set_option maxRecDepth 100000
local macro_rules|`(tactic|trivial)=>`(tactic|first|exact Or.inl rfl|exact Or.inr rfl|fail)
local macro_rules|`(tactic|trivial)=>`(tactic|first|(refine⟨rfl,rfl,rfl,?_,rfl,?_,?_⟩<;>decide +kernel)|fail)
open Array renaming length_toList→Gn,append_assoc→Mv,toList_map→Of,size_push→Ox
open Bool renaming false_ne_true→Bf,and_self→Du,eq_iff_iff→Fe,and_eq_true→Fy,and_eq_true_iff→Iv,false_and→Lo
open Classical renaming byContradiction→Dx
open Int renaming emod_lt_of_pos→Hd,emod_nonneg→Ip,natCast_mul→Oz
open List renaming length_append→Ac,length_map→Ad,mem_cons_of_mem→Ah,mem_cons_self→Ai,getElem?_eq_some_iff→Aj,mem_singleton→Al,mem_cons→Am,length_cons→Ar,mem_of_getElem?→As,mem_append_right→Av,mem_append→Aw,map_append→Ax,map_cons→Ay,size_toArray→Az,getElem?_map→Bg,length_singleton→Bh,getElem?_eq_getElem→Bi,length_drop→Bk,not_mem_nil→Bl,mem_filter→Bp,mem_map→Bt,mem_append_left→Bu,length_take→Bv,length_pos_iff→Bx,append_nil→By,append_assoc→Cf,take_of_length_le→Cj,getElem?_append_right→Cn,getElem?_append_left→Co,take_length→Cq,length_filter_le→Cs,flatten_cons→Ct,getD_eq_getElem?_getD→Cv,map_map→Cw,dropLast_concat_getLast→Cz,foldl_cons→Dn,filter_cons→Dv,mem_flatMap→Dw,mem_of_mem_take→Dz,map_congr_left→Ed,mem_flatten→Ef,take_succ→Et,find?_cons→Fg,filter_append→Fh,foldl_append→Fp,take_append_drop→Fs,lookup_cons→Ga,drop_length→Ge,flatten_append→Gp,nodup_cons→Gr,length_nil→Gs,drop_eq_getElem_cons→Gu,getElem?_drop→Hf,take_zero→Hi,append_eq_nil_iff→Hs,all_eq_true→Ht,flatMap_def→Hw,length_replicate→Hz,mem_iff_getElem?→Ic,take_append_of_le_length→Iw,filterMap_cons→Iy,replicate_succ→Iz,length_reverse→Ja,countP_eq_length_filter→Jg,reverse_cons→Jx,map_nil→Kn,any_eq_true→Ku,of_mem_zip→Ky,getElem?_set_self→Lc,drop_of_length_le→Ll,drop_drop→Lv,drop_zero→Lx,take_left→Ly,drop_left→Lz,getElem?_set_ne→Mf,mem_of_mem_drop→Mk,any_cons→Ml,sum_cons→Mm,flatMap_append→Mr,map_eq_nil_iff→Ms,mem_filterMap→Na,append_of_mem→Nk,take_sublist→Np,filter_congr→Nv,cons_append→Oc,mem_reverse→Og,forIn_cons→Ot,nil_append→Oy
open Nat renaming le_refl→Af,le_trans→Ap,zero_le→Au,lt_of_lt_of_le→Bj,ne_of_lt→Ce,le_of_eq→Di,lt_irrefl→Ej,le_succ_of_le→Em,mul_le_mul_right→Eo,lt_succ_iff_lt_or_eq→Ew,pow_le_pow_right→Gf,ne_of_gt→Gw,succ_le_succ→Hv,sub_self→Iu,add_sub_cancel→Jp,pow_succ→Ko,min_le_right→Ks,le_of_ble_eq_true→Mc,le_of_lt→Mw,mul_comm→Nb,lt_of_le_of_lt→Nc,lt_or_ge→Nj,le_succ→Nw,min_le_left→Pa
open Ne renaming symm→Gk
open Option renaming map_eq_some_iff→Bm,isSome_iff_exists→Gz,isSome_map→Jz,map_some→La,getD_none→Nz
open Option.some renaming inj→Bq
open PyProof.Rows renaming callWith_type1→Cr,slot_tuple_getitem→Ex,AllBare→Hy,envOfC→Ii,upper_ascii→Kt,subscriptTail_builtinR→Lf,IntsAre→Nm,Subscript_→Ol
open PySem renaming wpAny_bind→Ab,Shared→Ag,wpAny_pure→An,NameKind→Bb,starEach→Be,boot_len→Cc,wpAny_mono→Cg,wpAny_field→Ci,compareOp→Ck,mainGlobals→Cm,wpAny_setField_rec→Cp,wpAny_callSpecial?_slot→Cu,compEnvC→Cy,wpAny_call_entry→Dk,wpAny_standAt→Dl,wpAny_newObj_type→Dm,importedModules→Dp,mem_of_lookup→Dq,sysModules→Dy,foldedSetIterable→Ea,Builtin→Ee,bootBuiltins→Eg,wpAny_passesOwn→Ei,binaryOp→Ek,wpAny_truthy_bool→El,strIterType→Ep,wpAny_seqItems→Es,Paired→Eu,behindInMarks→Ez,codeAny→Fb,backTo→Fc,typeIs_str→Ff,sizeLine_eq→Fj,builtinLookup_eq_fast→Ft,isSubtype_type→Fu,assignEach→Fx,call_meets→Fz,wpAny_holding→Gg,attributeBase→Gh,wpAny_attempt→Gi,find?_eq_fast→Gj,sliceBounds→Gm,letOwnedTupleGo→Gq,codeAny_mono→Gx,wpAny_Call_Name_kw→Gy,wpAny_comprehension_free→Hc,tupleKind_room_in1→He,intText?→Hh,pyIter→Hn,wpAny_Call_method_late→Ho,IsPair→Hq,wpAny_of_eq→Hr,checkBuiltinCall→Hu,wpAny_execs_nil→Ie,pyNext→Ig,wpAny_rule→Il,wpAny_updateSeq_pair→Im,typeLookup_type→Iq,codeAny_call_builtin→Ir,FuncData→Jc,Keyword→Je,wpAny_letGo→Jh,tupleKind→Jj,rawInt→Jk,IsPart→Jl,treeTable→Jr,wpAny_onRaise→Ju,wpAny_pyIter_list→Jv,holding→Kg,callerA→Ki,wpAny_execs_cons→Kj,wpAny_isInstance→Km,wpAny_tests_nil→Kz,seqIndex_of→Ld,subscripted→Le,wpAny_getItem_list_neg→Lg,keywordEach→Li,codeAny_compStart_list→Lj,wpAny_isTrue_Compare1→Lm,standAt→Ln,BindsTo→Lp,isSubtype_stop→Lr,wpAny_loadName_local→Mg,PlainAttrs→Mi,wpAny_newFunctionEnv→Mj,wpAny_loadName_cell→Mn,length_partsBetween→Mq,wpAny_Constant_int→Mx,swapsWith→My,inplaceOp→Mz,codeAny_loop→Nd,wpAny_assign_Name→Nn,wpAny_pyIter_strU→Nr,wpAny_pyIter_enum→Nt,wpAny_noted→Nx,backToKw→Oa,entryFor→Od,wpAny_Name→Oh,wpAny_call→Oi,typeLookup→Oj,typeIs_int→Om,call→Oq,closureFor→Ou,OsState→Pb
open PySem.Builtin.Dict renaming pendingCount→Kf
open PySem.Builtin.List renaming listTooLong→Hb
open PySem.Builtin.Slice renaming slicePlaces→En,sliceAdjust→Kb
open PySem.Builtin.SmallTypes renaming nextOf→Kd
open PySem.Builtin.Str renaming occurrences→Dc,strSliceIndices→Fw,strKind→Mo
open PySem.Calls renaming spliced_cons→Dj,Constant_str→Eh,callWith_builtin→Fm,evalArgs_plain→Ik,Name_function_global→Jt,spliced_nil→Jw
open PySem.F renaming plainAttrs_str→Bo,plainAttrs_list→Bs,slot_list_append→Ca,type_list_append→Cb,slot_str_lower→Dr,type_str_lower→Ds,slot_str_upper→Fn,type_str_upper→Fo,slot_enumerate_next→Fq,slot_list_reversed→Gd,slot_zip_next→Io,args_str_split_2→Jo,slot_str_replace→Jq,entry_str_split→Jy,slot_dict_getitem→Ke,slot_str_split→Kl,slot_list_extend→Kq,type_list_extend→Kr,args_enumerate_next_1→Kv,entry_enumerate_next→Lk,slot_dict_len→Lu,slot_str_join→Ma,type_str_join→Mb,type_str_replace→Ng,args_zip_next_1→Nq,entry_zip_next→Ob,plainAttrs_str→Oe,slot_int_rmul→Oo
open PySem.Heap renaming get?_push_of_some→Ak,lt_size→Ba,get?_push_size→Bc,size_push→Er,SameBut→Gv,get?_update_other→Lh,get?_update_self→Lq
open PySem.NumText renaming digitsVal→Dh
open PySem.Obj renaming mapSeq→Kc,data_mapFields→Nf
open PySem.Paired renaming length→Ey
open PySem.PassesOwn renaming never→Bd
open PySem.PyData renaming canLayAll0→Br,strOk→Cd,eqv→De,canLay0→Dg,eqvAll→Ec,depthAll→Fi,depth→Hg,keyHash→Jf,canLayAll0→Ka,canLay0→Md
open PySem.SeqAt renaming EqAt→Dd
open PySem.SeqAt.EqAt renaming int_str→Mt,str_int→Mu
open PySem.Str renaming ofString→Aa,join→Gb
open PySem.StrLaws renaming sliceText→Eb,glued_eq_join→Ia,occ_length_le→Ib,partsBetween_eq→Kw,sliceText_nat→Ls,strSub_toList→Lw,join_split→Nh,split_free→Ni,partsFrom→Nu,occBody→Ow
open PySem.Txt renaming split→Fv,replace→Ji,lower→Jm,upper→Jn,join→Kk,slice→Lb,rjustF→Ov,slice→Pe
open PySem.W renaming Frag→Ae,emptyDict→Fl,Frag→Ih,fnOf→Ij,keepIn→Jd,instObj→Kx,mg_of→Me,codeIn→Mh,nsIn→Nl,cellsFrom_some→Ny,OpenLaw→Pd
open PySem.W.Fast renaming te10110043849684766642→Hj,te14364793385576792824→Hk,te4187177175401517315→Hl,te5923862056798008813→Hm
namespace L2
open PySem PySem.Spec PyProof.Rows
abbrev Key:=Sum Int Str
def keyIs:Key->Value->Bool
 |.inl k,v=>Value.isInt k v
 |.inr x,v=>Value.isStrOf x v
def keyH(w:World):Key->Int
 |.inl k=>hashInt k
 |.inr x=>hashStr w x
theorem q1f:∀{k:Key} {v:Value},keyIs k v=true->(∃i t,k=Sum.inl i/\v=Value.int i t)\/(∃x t,k=Sum.inr x/\v=Value.str x t)
 |.inl i,v,h=>by
  obtain⟨t,e⟩:=Value.isInt_shape (k:=i) (v:=v) h;exact .inl ⟨i,t,rfl,e⟩
 |.inr x,v,h=>by
  obtain⟨t,e⟩:=Value.isStrOf_shape h;exact .inr ⟨x,t,rfl,e⟩
theorem z4g(i:Int)(t:Tok):keyIs (.inl i) (.int i t)=true:=by simp[keyIs,Value.isInt]
theorem q5e(x:Str)(t:Tok):keyIs (.inr x) (.str x t)=true:=by simp[keyIs,Value.isStrOf]
theorem key_ll(a b:Int):decide ((Sum.inl a:Key)=Sum.inl b)=(a==b):=by grind
theorem key_rr(a b:Str):decide ((Sum.inr a:Key)=Sum.inr b)=decide (a=b):=by grind
theorem key_lr(a:Int)(b:Str):decide ((Sum.inl a:Key)=Sum.inr b)=false:=decide_eq_false (fun q=>nomatch q)
theorem key_rl(a:Str)(b:Int):decide ((Sum.inr a:Key)=Sum.inl b)=false:=decide_eq_false (fun q=>nomatch q)
def mixKind(prog:Program)(w:World):PySem.KeyKind prog w Key where
 is:=keyIs
 hash:=keyH w
 inj:=fun v a b ha hb=>by
  rcases q1f ha with⟨i,t,rfl,rfl⟩|⟨x,t,rfl,rfl⟩
  ·rcases q1f hb with⟨j,u,rfl,e⟩|⟨y,u,rfl,e⟩
   ·injection e with e1 _;rw[e1]
   ·exact nomatch e
  ·rcases q1f hb with⟨j,u,rfl,e⟩|⟨y,u,rfl,e⟩
   ·exact nomatch e
   ·injection e with e1 _;rw[e1]
 byValue:=fun k v h=>by
  rcases q1f h with⟨i,t,rfl,rfl⟩|⟨x,t,rfl,rfl⟩<;>rfl
 pyHash:=fun hv h=>by
  rcases q1f hv with⟨i,t,rfl,rfl⟩|⟨x,t,rfl,rfl⟩
  ·exact wpAny_pyHash_int h
  ·exact wpAny_pyHash_str h
 eqBool:=fun hu hv h=>by
  rcases q1f hu with⟨i,t,rfl,rfl⟩|⟨x,t,rfl,rfl⟩
  ·rcases q1f hv with⟨j,u,rfl,rfl⟩|⟨y,u,rfl,rfl⟩
   ·rw[key_ll] at h;exact wpAny_eqBool_int h
   ·rw[key_lr] at h;exact Mt i t y u _ _ _ _ h
  ·rcases q1f hv with⟨j,u,rfl,rfl⟩|⟨y,u,rfl,rfl⟩
   ·rw[key_rl] at h;exact Mu x t j u _ _ _ _ h
   ·rw[key_rr] at h;exact wpAny_eqBool_str h
 «strs» := fun k x t v h=>by
  rcases q1f h with⟨i,u,rfl,e⟩|⟨y,u,rfl,e⟩
  ·exact nomatch e
  ·injection e with e1 _
   subst e1
   cases v<;>rfl
theorem z0p(prog:Program)(w:World)(i:Int)(t:Tok):(mixKind prog w).is (.inl i) (.int i t)=true:=z4g i t
theorem z0q(prog:Program)(w:World)(x:Str)(t:Tok):(mixKind prog w).is (.inr x) (.str x t)=true:=q5e x t
inductive V where
 |non|bl (b:Bool)|int (i:Int)|str (x:Str)|byt (b:Array UInt8)|flt (b:UInt64)|ref (a:Addr)|ty (n:String)
 deriving DecidableEq
def RelV:V->Value->Prop
 |.non,u=>u=Value.none
 |.bl b,u=>u=Value.bool b
 |.int i,u=>∃t,u=Value.int i t
 |.str x,u=>∃t,u=Value.str x t
 |.byt b,u=>∃t,u=Value.bytes b t
 |.flt b,u=>∃t,u=Value.float b t
 |.ref a,u=>u=Value.ref a
 |.ty n,u=>u=Value.type n
abbrev Vals:List V->List Value->Prop:=Eu RelV
theorem Vals.length(r:Vals xs us):xs.length=us.length:=Ey r
theorem Vals.get:∀{xs:List V} {us:List Value} {i:Nat} {x:V},Vals xs us->xs[i]?=some x->∃u,us[i]?=some u/\RelV x u
 |_,_,_,_,.nil,e=>by simp at e
 |_,_,0,_,.cons r _,e=>by simp at e;subst e;exact⟨_,rfl,r⟩
 |_,_,i+1,x,.cons _ t,e=>by
  obtain⟨u,h1,h2⟩:=Vals.get (i:=i) (x:=x) t (by simpa using e);exact⟨u,by simpa using h1,h2⟩
theorem Vals.set{x:V}{u:Value}(r:RelV x u):∀{xs:List V} {us:List Value} (i:Nat),Vals xs us->Vals (xs.set i x) (us.set i u)
 |_,_,_,.nil=>.nil
 |_,_,0,.cons _ t=>.cons r t
 |_,_,i+1,.cons q t=>.cons q (Vals.set r i t)
theorem Vals.append:∀{xs ys:List V} {us ws:List Value},Vals xs us->Vals ys ws->Vals (xs++ys) (us++ws)
 |_,_,_,_,.nil,s=>s
 |_,_,_,_,.cons r t,s=>.cons r (Vals.append t s)
theorem Vals.take:∀{xs:List V} {us:List Value} (n:Nat),Vals xs us->Vals (xs.take n) (us.take n)
 |_,_,0,_=>.nil
 |_,_,_+1,.nil=>.nil
 |_,_,n+1,.cons r t=>.cons r (Vals.take n t)
theorem Vals.drop:∀{xs:List V} {us:List Value} (n:Nat),Vals xs us->Vals (xs.drop n) (us.drop n)
 |_,_,0,r=>r
 |_,_,_+1,.nil=>.nil
 |_,_,n+1,.cons _ t=>Vals.drop n t
def RelO:Option V->Option Value->Prop
 |some v,some u=>RelV v u
 |none,none=>True
 |_,_=>False
def KV{κ:Type}:List (κ×V)->List (κ×Value)->Prop:=Eu fun(p:κ×V) (q:κ×Value)=>p.1=q.1/\RelV p.2 q.2
def kV:Key->V
 |.inl i=>.int i
 |.inr x=>.str x
inductive HO where
 |lst (xs:List V)
 |tup (xs:List V)
 |dK (kvs:List (Key×V))|dT (kvs:List (List Key×V))
 |set (S:Int->Bool) (n:Nat)
 |ins (C dx:Addr) (fs:List (Str×V))
 |own (x:Addr)
 |xd (fs:List (Str×V))
 |met (f x:Addr)
 |rng (lo hi:Int)
 |frz (o:Obj) (u:HO)
 |tbl (ps:Array Value)
 |ext (φ:Heap->Prop)
abbrev Hp:=Addr->Option HO
def upd(H:Hp)(a:Addr)(o:HO):Hp:=fun b=>if b=a then some o else H b
theorem q0e:upd H a o a=some o:=by unfold upd;rw[if_pos rfl]
theorem q0m(h:b≠a):upd H a o b=H b:=by unfold upd;rw[if_neg h]
theorem x0q:upd (upd H a o) a u=upd H a u:=by
 funext b;unfold upd;split<;>rfl
theorem z7k{H:Hp}(h:H a=some o)(h':H b=some u)(d:o≠u):a≠b:=by grind
theorem q0r{H:Hp}(h:H a=some o)(h':H b=none):a≠b:=by
 intro e;subst e;rw[h] at h';cases h'
section
variable(P:Program)(w:World)
def ObjOk(H:Hp)(h:Heap)(a:Addr):HO->Prop
 |.lst xs=>xs.length<=sizeLine/\∃(its:List Value) (n:Nat),Vals xs its/\h.get? a=some { cls:=.type "list",data:=.seq its.toArray n }
 |.tup xs=>xs.length<=sizeLine/\∃its:List Value,Vals xs its/\IsTup h a its.toArray
 |.dK kvs=>kvs.length<=sizeLine/\(a==Dy)=false/\∃vs,KV kvs vs/\h.DictOf (mixKind P w) a vs
 |.dT kvs=>kvs.length<=sizeLine/\(a==Dy)=false/\∃xs:List (List Key×Addr×Value),
   Eu (fun(p:List Key×V) (q:List Key×Addr×Value)=>p.1=q.1/\H q.2.1=some (.tup (p.1.map kV))/\RelV p.2 q.2.2) kvs xs /\
   ∃o es ep,h.get? a=some o/\o.ExactDict/\o.data=.dict es ep/\es.toList=xs.map (entryOfKey (Jj (mixKind P w)))/\(xs.map (·.1)).Nodup
 |.set S n=>h.SetOf (intKind P w) a S n
 |.ins C dx fs=>H dx=some (.own a)/\fs.length<=1000/\dx≠a/\h.get? a=some (Kx C dx) /\
   ∃mA,h.Ns1 dx mA/\(∀f,RelO (fs.lookup f) (mA f))/\PySem.Within mA (fs.map (·.1))
 |.own _=>∃o,h.get? a=some o
 |.xd fs=>∃mA,h.Ns1 a mA/\∀f,RelO (fs.lookup f) (mA f)
 |.rng lo hi=>∃t u v,h.get? a=some { cls:=.type "range",data:=.fields #[.int lo t,.int hi u,.int 1 v] }
 |.frz o u=>h.get? a=some o/\ObjOk H h a u
 |.tbl ps=>h.get? a=some { cls:=.none,data:=.fields ps }
 |.met f x=>h.get? a=some (W.methodObj (.ref f) (.ref x))
 |.ext φ=>φ h/\(∃o,h.get? a=some o)/\∀h1 h2:Heap,φ h1->(∀o,h1.get? a=some o->h2.get? a=some o)->φ h2
def HOk(H:Hp)(h:Heap):Prop:=∀a o,H a=some o->ObjOk P w H h a o
end
section
variable{P:Program}{w:World}{H H':Hp}{h h':Heap}{a:Addr}{o:HO}
theorem ObjOk.lt(x:ObjOk P w H h a o):a<h.objs.size:=by
 cases o with
 |lst xs=>obtain⟨_,_,_,_,e⟩:=x;exact Ba e
 |tup xs=>obtain⟨_,_,_,p⟩:=x;exact p.lt
 |dK kvs=>obtain⟨_,_,_,_,o,_,_,e,_⟩:=x;exact Ba e
 |dT kvs=>obtain⟨_,_,_,_,o,_,_,e,_⟩:=x;exact Ba e
 |set S n=>obtain⟨o,_,_,_,e,_⟩:=x;exact Ba e
 |ins C dx fs=>obtain⟨_,_,_,e,_⟩:=x;exact Ba e
 |own y=>obtain⟨_,e⟩:=x;exact Ba e
 |xd fs=>obtain⟨_,⟨_,_,_,e,_⟩,_⟩:=x;exact Ba e
 |rng lo hi=>obtain⟨_,_,_,e⟩:=x;exact Ba e
 |frz ob u=>obtain⟨e,_⟩:=x;exact Ba e
 |tbl ps=>exact Ba (show h.get? a=some _ from x)
 |met f y=>exact Ba (show h.get? a=some _ from x)
 |ext φ=>obtain⟨_,⟨_,e⟩,_⟩:=x;exact Ba e
theorem Eu.mapP{α β:Type}{F G:α->β->Prop}:∀{l₁:List α} {l₂:List β},Eu F l₁ l₂->(∀a b,F a b->G a b)->Eu G l₁ l₂
 |_,_,.nil,_=>.nil
 |_,_,.cons r t,f=>.cons (f _ _ r) (Eu.mapP t f)
theorem ObjOk.stay(x:ObjOk P w H h a o)(k:∀b u,(b=a\/H b=some (.own a))->h.get? b=some u->h'.get? b=some u)(ho:∀b,H b=some (.own a)->H' b=some (.own a))(ht:∀b xs,H b=some (.tup xs)->H' b=some (.tup xs)):ObjOk P w H' h' a o:=by
 induction o with
 |lst xs=>obtain⟨z,its,n,r,e⟩:=x;exact⟨z,its,n,r,k _ _ (.inl rfl) e⟩
 |tup xs=>obtain⟨z,its,r,ob,e,c⟩:=x;exact⟨z,its,r,ob,k _ _ (.inl rfl) e,c⟩
 |dK kvs=>obtain⟨z,y,vs,r,ob,es,ep,e,c⟩:=x;exact⟨z,y,vs,r,ob,es,ep,k _ _ (.inl rfl) e,c⟩
 |dT kvs =>
  obtain⟨z,y,xs,r,ob,es,ep,e,c⟩:=x;exact⟨z,y,xs,Eu.mapP r fun p q z=>⟨z.1,ht _ _ z.2.1,z.2.2⟩,ob,es,ep,k _ _ (.inl rfl) e,c⟩
 |set S n=>obtain⟨ob,es,ep,t,e,c⟩:=x;exact⟨ob,es,ep,t,k _ _ (.inl rfl) e,c⟩
 |ins C dx fs =>
  obtain⟨d,z,ne,e,mA,⟨od,es,ep,e2,c⟩,r⟩:=x;exact⟨ho _ d,z,ne,k _ _ (.inl rfl) e,mA,⟨od,es,ep,k _ _ (.inr d) e2,c⟩,r⟩
 |own y=>obtain⟨ob,e⟩:=x;exact⟨ob,k _ _ (.inl rfl) e⟩
 |xd fs=>obtain⟨mA,⟨od,es,ep,e,c⟩,r⟩:=x;exact⟨mA,⟨od,es,ep,k _ _ (.inl rfl) e,c⟩,r⟩
 |rng lo hi=>obtain⟨t,u,v,e⟩:=x;exact⟨t,u,v,k _ _ (.inl rfl) e⟩
 |frz ob u ih=>obtain⟨e,q⟩:=x;exact⟨k _ _ (.inl rfl) e,ih q⟩
 |tbl ps =>
  have e:h.get? a=some { cls:=.none,data:=.fields ps }:=x;exact k a _ (.inl rfl) e
 |met f y =>
  have e:=x;exact k a _ (.inl rfl) e
 |ext φ=>obtain⟨p,⟨o,e⟩,st⟩:=x;exact⟨st _ _ p fun o q=>k _ _ (.inl rfl) q,⟨o,k _ _ (.inl rfl) e⟩,st⟩
theorem HOk.lt(x:HOk P w H h)(e:H a=some o):a<h.objs.size:=(x a o e).lt
theorem HOk.fresh(x:HOk P w H h)(e:h.objs.size<=a):H a=none:=by
 cases q:H a with
 |none=>rfl
 |some u=>exact absurd (Bj (x.lt q) e) (Ej _)
theorem HOk.kept(x:HOk P w H h)(k:∀b u,h.get? b=some u->h'.get? b=some u):HOk P w H h':=fun a o e =>
 (x a o e).stay (fun b u _ q=>k b u q) (fun _ q=>q) fun _ _ q=>q
theorem HOk.laid(x:HOk P w H h)(k:∀b u,h.get? b=some u->h'.get? b=some u)(hp:h.objs.size<=a)(new:ObjOk P w (upd H a o) h' a o):HOk P w (upd H a o) h':=fun b u e=>by
 have hn:=x.fresh hp;by_cases hb:b=a
 ·subst hb;rw[q0e] at e;cases e;exact new
 ·rw[q0m hb] at e;exact(x b u e).stay (fun c v _ q=>k c v q) (fun c q=>by rw[q0m (q0r q hn)];exact q) fun c xs q=>by rw[q0m (q0r q hn)];exact q
end
def Rd(H:Hp)(a:Addr)(u:HO):Prop:=H a=some u\/∃o,H a=some (.frz o u)
theorem Rd.of(h:H a=some u):Rd H a u:=.inl h
theorem Rd.ok(r:Rd H a u)(x:HOk P w H h):ObjOk P w H h a u:=by
 rcases r with r|⟨o,r⟩
 ·exact x a u r
 ·obtain⟨_,q⟩:=x a _ r;exact q
def Mut:Option HO->Prop
 |some (.lst _)=>True
 |some (.dK _)=>True
 |some (.dT _)=>True
 |some (.set _ _)=>True
 |some (.ins _ _ _)=>True
 |some (.ext _)=>True
 |_=>False
section
variable{P:Program}{w:World}{H:Hp}{h h':Heap}{x e:Addr}{o':HO}
theorem HOk.write(ok:HOk P w H h)(mu:Mut (H x))(he:e=x\/H e=some (.own x))(k:∀b u,b≠e->h.get? b=some u->h'.get? b=some u)(heo:∃u,h'.get? e=some u)(new:ObjOk P w (upd H x o') h' x o'):HOk P w (upd H x o') h':=fun b u q=>by
 have nown:∀c y,H c=some (.own y)->c≠x:=fun c y r z=>by subst z;rw[r] at mu;exact mu
 have ntup:∀c xs,H c=some (.tup xs)->c≠x:=fun c xs r z=>by subst z;rw[r] at mu;exact mu
 by_cases hb:b=x
 ·subst hb;rw[q0e] at q;cases q;exact new
 ·rw[q0m hb] at q;by_cases hbe:b=e
  ·have q':H b=some (.own x):=by
    rcases he with z|z
    ·grind
    ·rw[hbe];exact z
   rw[q] at q';cases q';obtain⟨v,hv⟩:=heo;exact⟨v,by rw[hbe];exact hv⟩
  ·refine(ok b u q).stay (fun c v hc r=>k c v ?_ r) (fun c r=>by rw[q0m (nown c b r)];exact r) fun c xs r=>by rw[q0m (ntup c xs r)];exact r
   rcases hc with rfl|hc
   ·exact hbe
   ·grind
end
structure Un (fs ex:List Addr) (H H':Hp) (h h':Heap):Prop where
 keep:∀b o,h.get? b=some o->H b=none->b∉fs->b∉ex->h'.get? b=some o
 slot:∀b o,h.get? b=some o->H b=none->b∈fs->b∉ex->∃sl,h'.get? b=some { o with slots:=sl }
 free:∀b o,h.get? b=some o->H b=none->b∉ex->H' b=none
 there:∀b o,h.get? b=some o->b∉ex->∃o',h'.get? b=some o'
 tups:∀b xs,H b=some (.tup xs)->H' b=some (.tup xs)
 frzs:∀b o u,H b=some (.frz o u)->H' b=some (.frz o u)
 tbls:∀b ps,H b=some (.tbl ps)->∃more,H' b=some (.tbl (ps++more))
section
variable{fs fs' ex ex':List Addr}{H H1 H2:Hp}{h h1 h2 h':Heap}{a x e:Addr}{o:HO}
theorem Un.any(u:Un fs ex H H1 h h1)(q:h.get? b=some ob)(n:H b=none)(hx:b∉ex):∃sl,h1.get? b=some { ob with slots:=sl }:=by
 by_cases hb:b∈fs
 ·exact u.slot b ob q n hb hx
 ·exact⟨ob.slots,u.keep b ob q n hb hx⟩
theorem Un.trans(a:Un fs ex H H1 h h1)(b:Un fs ex H1 H2 h1 h2):Un fs ex H H2 h h2 where
 keep:=fun c ob q n hc hx=>b.keep c ob (a.keep c ob q n hc hx) (a.free c ob q n hx) hc hx
 slot:=fun c ob q n hc hx=>by
  obtain⟨sl,e1⟩:=a.slot c ob q n hc hx;obtain⟨sl',e2⟩:=b.slot c _ e1 (a.free c ob q n hx) hc hx;exact⟨sl',e2⟩
 free:=fun c ob q n hx=>by
  obtain⟨o',e1⟩:=a.there c ob q hx;exact b.free c o' e1 (a.free c ob q n hx) hx
 there:=fun c ob q hx=>by
  obtain⟨o',e1⟩:=a.there c ob q hx;exact b.there c o' e1 hx
 tups:=fun c xs q=>b.tups c xs (a.tups c xs q)
 frzs:=fun c ob xs q=>b.frzs c ob xs (a.frzs c ob xs q)
 tbls:=fun c ps q=>by
  obtain⟨m1,e1⟩:=a.tbls c ps q;obtain⟨m2,e2⟩:=b.tbls c _ e1;exact⟨m1++m2,by rw[e2,Mv]⟩
theorem Un.kept(k:∀b u,h.get? b=some u->h'.get? b=some u):Un fs ex H H h h' :=
 ⟨fun b ob q _ _ _=>k b ob q,fun b ob q _ _ _=>⟨ob.slots,k b ob q⟩,fun _ _ _ n _=>n,fun b ob q _=>⟨ob,k b ob q⟩,fun _ _ q=>q,fun _ _ _ q=>q,fun _ ps q=>⟨#[],by rw[q];simp⟩⟩
theorem Un.refl:Un fs ex H H h h:=Un.kept fun _ _ q=>q
theorem Un.laid(k:∀b u,h.get? b=some u->h'.get? b=some u)(hp:h.objs.size<=a)(hn:H a=none):Un fs ex H (upd H a o) h h' where
 keep:=fun b u q _ _ _=>k b u q
 slot:=fun b u q _ _ _=>⟨u.slots,k b u q⟩
 free:=fun b u q n _=>by rw[q0m (Ce (Bj (Ba q) hp))];exact n
 there:=fun b u q _=>⟨u,k b u q⟩
 tups:=fun b xs q=>by rw[q0m (q0r q hn)];exact q
 frzs:=fun b u xs q=>by rw[q0m (q0r q hn)];exact q
 tbls:=fun b ps q=>⟨#[],by rw[q0m (q0r q hn),q];simp⟩
theorem Un.write(mu:Mut (H x))(he:e=x\/H e=some (.own x))(k:∀b u,b≠e->h.get? b=some u->h'.get? b=some u)(heo:∃u,h'.get? e=some u):Un fs ex H (upd H x o) h h':=by
 have hx:∀b,H b=none->b≠x:=fun b n z=>by subst z;rw[n] at mu;exact mu
 have hb:∀b,H b=none->b≠e:=fun b n z=>by
  subst z;rcases he with r|r
  ·exact hx b n r
  ·rw[n] at r;cases r
 have hm:∀b u,H b=some u->¬Mut (some u)->b≠x:=fun b u q nm z=>by subst z;rw[q] at mu;exact nm mu
 refine⟨fun b u q n _ _=>k b u (hb b n) q,fun b u q n _ _=>⟨u.slots,k b u (hb b n) q⟩,fun b u q n _=>by rw[q0m (hx b n)];exact n,fun b u q _=>?_,
  fun b xs q=>by rw[q0m (hm b _ q fun z=>z)];exact q,fun b u xs q=>by rw[q0m (hm b _ q fun z=>z)];exact q,fun b ps q=>⟨#[],by rw[q0m (hm b _ q fun z=>z),q];simp⟩⟩
 by_cases hbe:b=e
 ·subst hbe;exact heo
 ·grind
theorem Un.mono(u:Un fs ex H H1 h h1)(hs:∀b∈fs,b∈fs')(hx:∀b∈ex,b∈ex'):Un fs' ex' H H1 h h1 :=
 ⟨fun b ob q n hb he=>u.keep b ob q n (fun z=>hb (hs b z)) fun z=>he (hx b z),fun _ _ q n _ he=>u.any q n fun z=>he (hx _ z),fun b ob q n he=>u.free b ob q n fun z=>he (hx b z),fun b ob q he=>u.there b ob q fun z=>he (hx b z),u.tups,u.frzs,u.tbls⟩
end
def trk(h:Heap)(H:Hp):List Addr:=(List.range h.objs.size).filter fun a=>(H a).isSome
def hidT(h:Heap)(H:Hp):Heap:=W.hideAll h (trk h H)
theorem z4h(h:Heap)(H:Hp):(hidT h H).objs.size=h.objs.size:=W.hideAll_size _ _
theorem z7l(e:h.get? b=some o)(n:H b=none):(hidT h H).get? b=some o :=
 W.hideAll_get _ e fun hm=>by
  have q:=(Bp.mp hm).2;rw[n] at q;simp at q
theorem x0r(e:(hidT h H).get? b=some o):h.get? b=some o/\H b=none:=by
 have e':=W.of_hideAll (trk h H) e;refine⟨e',?_⟩;cases q:H b with
 |none=>rfl
 |some x =>
  have hm:b∈trk h H:=Bp.mpr ⟨List.mem_range.mpr (Ba e'),by simp[q]⟩;have z:(hidT h H).get? b=none:=W.hideAll_none (trk h H) hm;rw[z] at e;cases e
def allNews(g h:Heap)(L:Addr):List (Addr×Obj):=(List.range h.objs.size).filterMap fun a=>if a=L\/(g.get? a).isSome=true then none else(h.get? a).map fun o=>(a,o)
def rest(g h:Heap)(L d:Addr):List (Addr×Obj):=(allNews g h L).filter fun p=>decide (p.1≠d)
open PySem PySem.Spec PyProof.Rows
structure Mod (K:Ae) (mg:Str->Option Value) (base:Heap):Prop where
 kin:K.In base
 glob:base.Ns Cm mg
 blt:∃mb,base.Ns builtinsNs mb/\∀x:Str,x ≠ "__name__" -> mb x=Eg x
 nolimit:base.NoLimit
structure Cx where
 prog:Program
 w:World
 K:Ae
 mg:Str->Option Value
 base:Heap
 A:Around
 N:List Str
 s₀:Ag
 H₀:Hp
 env:Env
 outer:List Env
 stack:List Env
 ex:List Addr
 fn:Str->Bool
 calm:Bool
 pn:List (Addr×Obj)
 xe:Value->Ag->Prop
def frs(l:List Env):List Addr:=l.filterMap (·.frame)
abbrev Cx.fs(X:Cx):List Addr:=frs X.outer
def Vis(sc:Scope)(x:Str):Prop:=sc.names.lookup x=some .local\/sc.names.lookup x=some .cell\/sc.names.lookup x=some .free
def Loc(sc:Scope)(x:Str):Prop:=sc.names.lookup x=some .local\/sc.names.lookup x=some .cell
def Look(env:Env)(h:Heap)(m:Str->Option Value)(x:Str)(u:Value):Prop :=
 (env.kindOf x=some .local/\m x=some u)\/((env.kindOf x=some .cell\/env.kindOf x=some .free)/\∃c,env.cells.lookup x=some c/\h.IsCell c (some u))
structure Cx.Ok (X:Cx):Prop where
 mod:Mod X.K X.mg X.base
 kind:X.env.scope.kind=.function
 glob:X.env.globals=Cm
 blt:X.env.builtins=builtinsNs
 above:X.s₀.heap.objs.size<=X.env.locals
 inj:∀x y c,X.env.cells.lookup x=some c->X.env.cells.lookup y=some c->x=y
 has:∀x,(X.env.kindOf x=some .cell\/X.env.kindOf x=some .free)->∃c,X.env.cells.lookup x=some c
 cab:∀x c,X.fn x=true->X.env.cells.lookup x=some c->X.s₀.heap.objs.size<=c
 hd:X.calm=true->X.A.handled=none
 frames:X.A.frames=some X.stack
 stk:X.stack=X.outer\/(X.stack=X.env::X.outer/\X.env.frame=some X.env.locals)
 exf:∀b∈X.ex,b≠X.env.locals/\∀x c,X.env.cells.lookup x=some c->c≠b
 bs:∀b o,X.base.get? b=some o->X.s₀.heap.get? b=some o/\X.H₀ b=none
 bsz:X.base.objs.size<=X.s₀.heap.objs.size
 noex:∀b o,X.base.get? b=some o->b∉X.ex
 exfs:∀b∈X.ex,b∉X.fs
 funs:X.s₀.heap.FunFrames X.base X.outer
 frf:∀b∈X.fs,X.H₀ b=none
structure Inv (X:Cx) (pins:List (Addr×Obj)) (σ:List (Option V)) (H:Hp) (s:Ag):Prop where
 ok:X.Ok
 os:s.os=X.s₀.os
 bare:Hy s.gens
 base:Un X.fs X.ex X.H₀ H X.s₀.heap s.heap
 loc:∃m,s.heap.Ns X.env.locals m/\∀(i:Nat) (x:Str) (v:V),X.N[i]?=some x->σ[i]?=some (some v)->Vis X.env.scope x->∃u,RelV v u/\Look X.env s.heap m x u
 cell:∀x c,X.env.cells.lookup x=some c->∃v,s.heap.IsCell c v
 free:H X.env.locals=none
 freeC:∀x c,X.env.cells.lookup x=some c->H c=none
 pin:∀p∈X.pn++pins,s.heap.get? p.1=some p.2/\H p.1=none/\p.1≠X.env.locals/\p.1∉X.fs/\∀v,p.2.data≠.cell v
 hok:HOk X.prog X.w H s.heap
 len:σ.length=X.N.length
section
variable{X:Cx}{pins:List (Addr×Obj)}{σ:List (Option V)}{H H':Hp}{s:Ag}{h':Heap}
theorem Cx.Ok.nofr(ok:X.Ok)(e:X.base.get? b=some o):b∉X.fs:=fun hb=>by
 have:=(ok.funs.mem hb).1;rw[e] at this;cases this
theorem Inv.bs(I:Inv X pins σ H s):∀b o,X.base.get? b=some o->s.heap.get? b=some o/\H b=none:=fun b o e =>
 ⟨I.base.keep b o (I.ok.bs b o e).1 (I.ok.bs b o e).2 (I.ok.nofr e) (I.ok.noex b o e),I.base.free b o (I.ok.bs b o e).1 (I.ok.bs b o e).2 (I.ok.noex b o e)⟩
theorem Inv.bk(I:Inv X pins σ H s):∀b o,X.base.get? b=some o->s.heap.get? b=some o:=fun b o e=>(I.bs b o e).1
theorem Inv.mod(I:Inv X pins σ H s):Mod X.K X.mg X.base:=I.ok.mod
theorem Inv.kIn(I:Inv X pins σ H s):X.K.In s.heap:=I.ok.mod.kin.keeps I.bk
theorem Inv.nolimit(I:Inv X pins σ H s):s.heap.NoLimit:=I.ok.mod.nolimit.keeps I.bk
theorem Inv.fr(I:Inv X pins σ H s):∃m,Fr X.base X.env.locals s.heap m :=
 let ⟨m,hn,_⟩:=I.loc
 ⟨m,hn,I.bk,Ap I.ok.bsz I.ok.above⟩
theorem Inv.lt(I:Inv X pins σ H s):X.env.locals<s.heap.objs.size:=let ⟨_,hn,_⟩:=I.loc;hn.lt
theorem Inv.sz(I:Inv X pins σ H s):X.s₀.heap.objs.size<=s.heap.objs.size:=Ap I.ok.above (Mw I.lt)
theorem Inv.nofs(I:Inv X pins σ H s){a:Addr}(h:s.heap.objs.size<=a):a∉X.fs:=fun hb=>by
 obtain⟨_,o,ho,_⟩:=I.ok.funs.mem hb;exact absurd (Bj (Ba ho) (Ap I.sz h)) (Ej _)
theorem Inv.cne(I:Inv X pins σ H s):∀x c,X.env.cells.lookup x=some c->c≠X.env.locals:=fun x c e z=>by
 obtain⟨v,o,ho,hd⟩:=I.cell x c e;obtain⟨m,⟨o',es,ep,ho',hd',_⟩,_⟩:=I.loc;rw[z,ho'] at ho;cases ho;rw[hd'] at hd;cases hd
theorem Inv.funs(I:Inv X pins σ H s):s.heap.FunFrames X.base X.outer:=by
 have all:∀(l:List Env),(∀b∈frs l,b∈X.fs)->X.s₀.heap.FunFrames X.base l->s.heap.FunFrames X.base l:=by
  intro l;induction l with
  |nil=>intro _ _;trivial
  |cons env r ih =>
   intro hs hl;obtain⟨hk,⟨L,o,hf,hn,ho,hd⟩,hr⟩:=hl;have hL:=hs L (by unfold frs;rw[Iy,hf];exact Ai);obtain⟨sl,e⟩:=I.base.slot L o ho (I.ok.frf L hL) hL fun z=>I.ok.exfs L z hL;exact⟨hk,⟨L,_,hf,hn,e,hd⟩,ih (fun b hb=>hs b (by unfold frs;rw[Iy,hf];exact Ah _ hb)) hr⟩
 exact all X.outer (fun _ hb=>hb) I.ok.funs
theorem Inv.stack(I:Inv X pins σ H s):s.heap.FunFrames X.base X.stack:=by
 rcases I.ok.stk with e|⟨e,hf⟩
 ·rw[e];exact I.funs
 ·rw[e];obtain⟨m,hn,_⟩:=I.loc;refine .cons (by rw[I.ok.kind];decide) hf hn ?_ I.funs;exact Heap.get?_none_of_le (Ap I.ok.bsz I.ok.above)
theorem Inv.stkSub(I:Inv X pins σ H s):∀b∈frs X.stack,b∈X.env.locals::X.fs:=fun b hb=>by
 rcases I.ok.stk with e|⟨e,hf⟩
 ·grind
 ·rw[e] at hb;unfold frs at hb;rw[Iy,hf] at hb;exact hb
theorem Inv.stkFree(I:Inv X pins σ H s):∀b∈frs X.stack,H b=none:=fun b hb=>by
 rcases Am.mp (I.stkSub b hb) with e|hb
 ·rw[e];exact I.free
 ·obtain⟨_,o,ho,_⟩:=I.ok.funs.mem hb;exact I.base.free b o ho (I.ok.frf b hb) fun z=>I.ok.exfs b z hb
theorem Inv.step{ch:List Addr}(I:Inv X pins σ H s)(hch:∀b∈ch,(b∈X.ex\/X.s₀.heap.objs.size<=b)/\b≠X.env.locals/\(∀x c,X.env.cells.lookup x=some c->c≠b)/\∀p∈X.pn++pins,p.1≠b)(keep:∀b o,b≠X.env.locals->b∉X.fs->b∉ch->s.heap.get? b=some o->H b=none->h'.get? b=some o)(slot:∀b o,b≠X.env.locals->b∈X.fs->b∉ch->s.heap.get? b=some o->H b=none->∃sl,h'.get? b=some { o with slots:=sl })(free:∀b o,b∉ch->s.heap.get? b=some o->H b=none->H' b=none)(there:∀b o,b∉ch->s.heap.get? b=some o->∃o',h'.get? b=some o')(tups:∀b xs,H b=some (.tup xs)->H' b=some (.tup xs))(frzs:∀b o u,H b=some (.frz o u)->H' b=some (.frz o u))(tbls:∀b ps,H b=some (.tbl ps)->∃more,H' b=some (.tbl (ps++more)))(ns:∀m,s.heap.Ns X.env.locals m->h'.Ns X.env.locals m)(hok:HOk X.prog X.w H' h')(hg:Hy g'):
  Inv X pins σ H' { s with heap:=h',gens:=g',drawn:=d',toks:=t' }:=by
 have neL:∀b o,X.s₀.heap.get? b=some o->b≠X.env.locals:=fun b o e=>Ce (Bj (Ba e) I.ok.above);have neC:∀b o,X.s₀.heap.get? b=some o->b∉X.ex->b∉ch:=fun b o e hx hb=>by
  rcases(hch b hb).1 with z|z
  ·exact hx z
  ·exact absurd (Bj (Ba e) z) (Ej _)
 have cellK:∀x c,X.env.cells.lookup x=some c->∀v,s.heap.IsCell c v->h'.IsCell c v:=fun x c e v ⟨o,ho,hd⟩=>by
  have nch:=fun z=>(hch c z).2.2.1 x c e rfl;by_cases hc:c∈X.fs
  ·obtain⟨sl,q⟩:=slot c o (I.cne x c e) hc nch ho (I.freeC x c e);exact⟨_,q,hd⟩
  ·exact⟨o,keep c o (I.cne x c e) hc nch ho (I.freeC x c e),hd⟩
 refine⟨I.ok,I.os,hg,⟨fun b o e n hb hx=>?_,fun b o e n hb hx=>?_,fun b o e n hx=>?_,fun b o e hx=>?_,fun b xs e=>tups b xs (I.base.tups b xs e),fun b o xs e=>frzs b o xs (I.base.frzs b o xs e),fun b ps e=>?_⟩,?_,fun x c e=>?_,?_,fun x c e=>?_,fun p hp=>?_,hok,I.len⟩
 ·exact keep b o (neL b o e) hb (neC b o e hx) (I.base.keep b o e n hb hx) (I.base.free b o e n hx)
 ·obtain⟨sl,e1⟩:=I.base.slot b o e n hb hx;obtain⟨sl',e2⟩:=slot b _ (neL b o e) hb (neC b o e hx) e1 (I.base.free b o e n hx);exact⟨sl',e2⟩
 ·obtain⟨o',e1⟩:=I.base.there b o e hx;exact free b o' (neC b o e hx) e1 (I.base.free b o e n hx)
 ·obtain⟨o',e1⟩:=I.base.there b o e hx;exact there b o' (neC b o e hx) e1
 ·obtain⟨m1,e1⟩:=I.base.tbls b ps e;obtain⟨m2,e2⟩:=tbls b _ e1;exact⟨m1++m2,by rw[e2,Mv]⟩
 ·obtain⟨m,hn,hl⟩:=I.loc;refine⟨m,ns m hn,fun i x v e1 e2 e3=>?_⟩;obtain⟨u,r,l⟩:=hl i x v e1 e2 e3;refine⟨u,r,?_⟩;rcases l with l|⟨k,c,e,z⟩
  ·exact .inl l
  ·exact .inr ⟨k,c,e,cellK x c e _ z⟩
 ·obtain⟨v,z⟩:=I.cell x c e;exact⟨v,cellK x c e v z⟩
 ·obtain⟨m,⟨o,_,_,ho,_⟩,_⟩:=I.loc;exact free _ o (fun z=>(hch _ z).2.1 rfl) ho I.free
 ·obtain⟨v,o,ho,hd⟩:=I.cell x c e;exact free c o (fun z=>(hch c z).2.2.1 x c e rfl) ho (I.freeC x c e)
 ·obtain⟨e,n,ne,nf,d⟩:=I.pin p hp;have nch:=fun z=>(hch p.1 z).2.2.2 p hp rfl
  exact⟨keep p.1 p.2 ne nf nch e n,free p.1 p.2 nch e n,ne,nf,d⟩
theorem Inv.un(I:Inv X pins σ H s)(u:Un X.fs [] H H' s.heap h')(hok:HOk X.prog X.w H' h'):Inv X pins σ H' { s with heap:=h',toks:=t' }:=by
 obtain⟨m,⟨o,es,ep,ho,r⟩,_⟩:=id I.loc;obtain⟨sl,hL⟩:=u.any ho I.free (by simp);exact I.step (g':=s.gens) (d':=s.drawn) (ch:=[]) (fun _ z=>nomatch z) (fun b o _ hb _ e n=>u.keep b o e n hb (by simp)) (fun b o _ hb _ e n=>u.slot b o e n hb (by simp)) (fun b o _ e n=>u.free b o e n (by simp)) (fun b o _ e=>u.there b o e (by simp)) u.tups u.frzs u.tbls (fun m' hm=>by
  obtain⟨o',es',ep',ho',r'⟩:=hm;rw[ho] at ho';cases ho';exact⟨_,es',ep',hL,r'⟩) hok I.bare
theorem Inv.call(I:Inv X pins σ H s)(u:Un (frs X.stack) ch H H' s.heap h')(hok:HOk X.prog X.w H' h')(hg:Hy g')(hch:∀b∈ch,(b∈X.ex\/X.s₀.heap.objs.size<=b)/\b≠X.env.locals/\(∀x c,X.env.cells.lookup x=some c->c≠b)/\∀p∈X.pn++pins,p.1≠b):
  Inv X pins σ H' { s with heap:=h',gens:=g',drawn:=d',toks:=t' }:=by
 obtain⟨m,⟨o,es,ep,ho,r⟩,_⟩:=id I.loc;obtain⟨sl,hL⟩:=u.any ho I.free fun z=>(hch _ z).2.1 rfl
 exact I.step hch (fun b o hL hb hc e n=>u.keep b o e n (fun z=>(Am.mp (I.stkSub b z)).elim hL hb) hc) (fun b o _ _ hc e n=>u.any e n hc) (fun b o hc e n=>u.free b o e n hc) (fun b o hc e=>u.there b o e hc) u.tups u.frzs u.tbls (fun m' hm=>by
  obtain⟨o',es',ep',ho',r'⟩:=hm;rw[ho] at ho';cases ho';exact⟨_,es',ep',hL,r'⟩) hok hg
theorem Inv.turned(I:Inv X pins σ H s)(k:∀b o,b≠it->s.heap.get? b=some o->h'.get? b=some o)(hn:H it=none)(hL:it≠X.env.locals)(h1:it∈X.ex\/X.s₀.heap.objs.size<=it)(h2:∀x c,X.env.cells.lookup x=some c->c≠it)(h3:∀p∈X.pn++pins,p.1≠it):Inv X pins σ H { s with heap:=h',toks:=t' }:=by
 have nit:∀b u,H b=some u->b≠it:=fun b u e z=>by rw[z,hn] at e;cases e
 refine I.step (g':=s.gens) (d':=s.drawn) (ch:=[it]) (fun b hb=>?_) (fun b o _ _ hc e _=>k b o (fun z=>hc (by simp[z])) e) (fun b o _ _ hc e _=>⟨o.slots,k b o (fun z=>hc (by simp[z])) e⟩) (fun _ _ _ _ n=>n)
  (fun b o hc e=>⟨o,k b o (fun z=>hc (by simp[z])) e⟩) (fun _ _ e=>e) (fun _ _ _ e=>e) (fun b ps e=>⟨#[],by rw[e];simp⟩) (fun m hm=>?_) (fun b u e=>?_) I.bare
 ·have e:b=it:=by simpa using hb
  subst e;exact⟨h1,hL,h2,h3⟩
 ·obtain⟨o,es,ep,ho,r⟩:=hm;exact⟨o,es,ep,k _ o (Gk hL) ho,r⟩
 ·refine(I.hok b u e).stay (fun c v hc q=>k c v ?_ q) (fun _ q=>q) fun _ _ q=>q;rcases hc with z|z
  ·rw[z];exact nit b u e
  ·exact nit c _ z
theorem Inv.tok(I:Inv X pins σ H s)(t:Nat):Inv X pins σ H { s with toks:=t }:=I.un (h':=s.heap) (t':=t) Un.refl I.hok
theorem Inv.kept(I:Inv X pins σ H s)(k:∀b u,s.heap.get? b=some u->h'.get? b=some u):Inv X pins σ H { s with heap:=h',toks:=t' }:=I.un (Un.kept k) (I.hok.kept k)
theorem Inv.laid{a:Addr}(I:Inv X pins σ H s)(k:∀b u,s.heap.get? b=some u->h'.get? b=some u)(hp:s.heap.objs.size<=a)(new:ObjOk X.prog X.w (upd H a o) h' a o):
  Inv X pins σ (upd H a o) { s with heap:=h',toks:=t' }:=I.un (Un.laid k hp (I.hok.fresh hp)) (I.hok.laid k hp new)
theorem Inv.write(I:Inv X pins σ H s)(mu:Mut (H x))(he:e=x\/H e=some (.own x))(k:∀b u,b≠e->s.heap.get? b=some u->h'.get? b=some u)(heo:∃u,h'.get? e=some u)(new:ObjOk X.prog X.w (upd H x o) h' x o):Inv X pins σ (upd H x o) { s with heap:=h',toks:=t' }:=I.un (Un.write mu he k heo) (I.hok.write mu he k heo new)
theorem Inv.weak(I:Inv X pins σ H s)(hl:σ'.length=σ.length)(w:∀(i:Nat) v,σ'[i]?=some (some v)->σ[i]?=some (some v)):Inv X pins σ' H s :=
 ⟨I.ok,I.os,I.bare,I.base,let ⟨m,hn,hl'⟩:=I.loc;⟨m,hn,fun i x v e1 e2 e3=>hl' i x v e1 (w i v e2) e3⟩,I.cell,I.free,I.freeC,I.pin,I.hok,hl.trans I.len⟩
theorem Inv.pins_of(I:Inv X pins σ H s)(h:∀p∈pins',s.heap.get? p.1=some p.2/\H p.1=none/\p.1≠X.env.locals/\p.1∉X.fs/\∀v,p.2.data≠.cell v):Inv X pins' σ H s :=
 ⟨I.ok,I.os,I.bare,I.base,I.loc,I.cell,I.free,I.freeC,fun p hp=>(Aw.mp hp).elim (fun z=>I.pin p (Bu _ z)) (h p),I.hok,I.len⟩
theorem z1u{N:List Str}(hN:N.Nodup){j:Nat}(a:N[i]?=some x)(b:N[j]?=some x):i=j:=by
 obtain⟨h1,e1⟩:=Aj.mp a;obtain⟨h2,e2⟩:=Aj.mp b;exact(List.getElem_inj hN).mp (e1.trans e2.symm)
theorem q9b(I:Inv X pins σ H s)(hN:X.N.Nodup)(hi:X.N[i]?=some x)(hx:Loc X.env.scope x)(r:RelV v u)(h:∀s',Inv X pins (σ.set i (some v)) H s'->(∃a,Gv a s.heap s'.heap/\(a=X.env.locals\/X.env.cells.lookup x=some a))->Q () s')(hf:X.fn x=true\/X.env.scope.names.lookup x=some .local:=by first|exact .inl rfl|exact .inr rfl|assumption):wpAny M A (storeName X.env x u) Q E s:=by
 obtain⟨m,hn,hl⟩:=id I.loc;have hcls:(X.env.scope.kind==.class||(X.env.scope.kind==.module&&X.env.locals != X.env.globals))=false:=by rw[I.ok.kind];rfl
 have hiσ:i<σ.length:=by rw[I.len];exact(Aj.mp hi).1
 have cne:=I.cne;have tracked:∀{a:Addr} {h':Heap},(∃o,s.heap.get? a=some o/\H a=none)->Gv a s.heap h'->HOk X.prog X.w H h':=fun{a h'} ha hs b ob e=>by
  obtain⟨_,_,hfree⟩:=ha;refine(I.hok b ob e).stay (fun c w' hc q=>(hs.2 c ?_).trans q) (fun _ q=>q) fun _ _ q=>q
  rcases hc with rfl|hc
  ·grind
  ·grind
 rcases hx with hk|hk
 ·refine wpAny_storeName_local hk hn (fun h' hn' hs=>?_) hcls;obtain⟨oL,_,_,hoL,_⟩:=id hn;refine h _ ⟨I.ok,I.os,I.bare,⟨fun b o e n hb hx=>?_,fun b o e n hb hx=>?_,I.base.free,fun b o e hx=>?_,I.base.tups,I.base.frzs,I.base.tbls⟩,⟨_,hn',fun j y v' e1 e2 e3=>?_⟩,fun y c e=>?_,I.free,I.freeC,fun p hp=>?_,tracked ⟨oL,hoL,I.free⟩ hs,by simpa using I.len⟩ ⟨_,hs,.inl rfl⟩
  ·exact(hs.2 b (Ce (Bj (Ba e) I.ok.above))).trans (I.base.keep b o e n hb hx)
  ·obtain⟨sl,e1⟩:=I.base.slot b o e n hb hx;exact⟨sl,(hs.2 b (Ce (Bj (Ba e) I.ok.above))).trans e1⟩
  ·obtain⟨o',e1⟩:=I.base.there b o e hx;exact⟨o',(hs.2 b (Ce (Bj (Ba e) I.ok.above))).trans e1⟩
  ·by_cases hj:j=i
   ·subst hj;rw[hi] at e1;cases e1;rw[Lc hiσ] at e2;cases e2;exact⟨u,r,.inl ⟨hk,by simp⟩⟩
   ·rw[Mf (Gk hj)] at e2;obtain⟨u',r',q⟩:=hl j y v' e1 e2 e3;refine⟨u',r',?_⟩;rcases q with⟨k,e⟩|⟨k,c,e,z⟩
    ·refine .inl ⟨k,?_⟩;have:y≠x:=fun e=>hj (z1u hN e1 (e▸hi));simp[this,e]
    ·exact .inr ⟨k,c,e,z.sameBut hs (cne y c e)⟩
  ·obtain⟨w',z⟩:=I.cell y c e;exact⟨w',z.sameBut hs (cne y c e)⟩
  ·obtain⟨e,n,ne,nf,d⟩:=I.pin p hp;exact⟨(hs.2 p.1 ne).trans e,n,ne,nf,d⟩
 ·have hfn:X.fn x=true:=by
   rcases hf with z|z
   ·exact z
   ·grind
  obtain⟨c,hc⟩:=I.ok.has x (.inl hk);obtain⟨w',z⟩:=I.cell x c hc;refine wpAny_storeName_cell I.ok.kind hk hc z (fun h' hc' hs=>?_);obtain⟨oc,hoc,hocd⟩:=id z;refine h { s with heap:=h' } ⟨I.ok,I.os,I.bare,⟨fun b o e n hb hx=>?_,fun b o e n hb hx=>?_,I.base.free,fun b o e hx=>?_,I.base.tups,I.base.frzs,I.base.tbls⟩,⟨m,hn.sameBut hs (Gk (cne x c hc)),fun j y v' e1 e2 e3=>?_⟩,fun y c' e=>?_,I.free,I.freeC,fun p hp=>?_,tracked ⟨oc,hoc,I.freeC x c hc⟩ hs,by simpa using I.len⟩ ⟨c,hs,.inr hc⟩
  ·exact(hs.2 b (Ce (Bj (Ba e) (I.ok.cab x c hfn hc)))).trans (I.base.keep b o e n hb hx)
  ·obtain⟨sl,e1⟩:=I.base.slot b o e n hb hx;exact⟨sl,(hs.2 b (Ce (Bj (Ba e) (I.ok.cab x c hfn hc)))).trans e1⟩
  ·obtain⟨o',e1⟩:=I.base.there b o e hx;exact⟨o',(hs.2 b (Ce (Bj (Ba e) (I.ok.cab x c hfn hc)))).trans e1⟩
  ·by_cases hj:j=i
   ·subst hj;rw[hi] at e1;cases e1;rw[Lc hiσ] at e2;cases e2;exact⟨u,r,.inr ⟨.inl hk,c,hc,hc'⟩⟩
   ·rw[Mf (Gk hj)] at e2;obtain⟨u',r',q⟩:=hl j y v' e1 e2 e3;refine⟨u',r',?_⟩;rcases q with q|⟨k,c',e,z'⟩
    ·exact .inl q
    ·refine .inr ⟨k,c',e,z'.sameBut hs ?_⟩;rintro rfl;exact hj (z1u hN e1 (I.ok.inj _ _ _ e hc▸hi))
  ·by_cases hcc:c'=c
   ·grind
   ·obtain⟨w2,z2⟩:=I.cell y c' e;exact⟨w2,z2.sameBut hs hcc⟩
  ·obtain⟨e,n,ne,nf,d⟩:=I.pin p hp;refine⟨(hs.2 p.1 ?_).trans e,n,ne,nf,d⟩;intro q;rw[q,hoc] at e;have q':=Bq e;exact d w' (by rw[<- q'];exact hocd)
theorem q7e(I:Inv X pins σ H s)(hN:X.N.Nodup)(hi:X.N[i]?=some x)(hx:Loc X.env.scope x)(r:RelV v u)(h:∀s',Inv X pins (σ.set i (some v)) H s'->Q () s')(hf:X.fn x=true\/X.env.scope.names.lookup x=some .local:=by first|exact .inl rfl|exact .inr rfl|assumption):wpAny M A (storeName X.env x u) Q E s :=
 q9b I hN hi hx r (fun s' I' _=>h s' I') hf
theorem Inv.call'(I:Inv X pins σ H s)(ho:s'.os=s.os)(u:Un (frs X.stack) ch H H' s.heap s'.heap)(hok:HOk X.prog X.w H' s'.heap)(hg:Hy s'.gens)(hch:∀b∈ch,(b∈X.ex\/X.s₀.heap.objs.size<=b)/\b≠X.env.locals/\(∀x c,X.env.cells.lookup x=some c->c≠b)/\∀p∈X.pn++pins,p.1≠b):Inv X pins σ H' s':=by
 obtain⟨h',g',d',t',o'⟩:=s';have e:=ho;subst e;exact I.call (g':=g') (t':=t') (d':=d') u hok hg hch
end
abbrev XK:=Value->Option Addr->Hp->Prop
abbrev St:=List (Option V)
abbrev VK:=V->Hp->Prop
abbrev TE:=St->Hp->VK->Prop
abbrev TT:=St->Hp->(Bool->Hp->Prop)->Prop
abbrev TA:=St->Hp->(List V->Hp->Prop)->Prop
structure Ends where
 nx:St->Hp->Prop
 rt:VK
 bk:St->Hp->Prop:=fun _ _=>False
 ct:St->Hp->Prop:=fun _ _=>False
abbrev TS:=Ends->St->Hp->Prop
def EP(X:Cx)(pins:List (Addr×Obj))(σ:St)(Q:VK)(u:Value)(s':Ag):Prop:=∃v H',Inv X pins σ H' s'/\RelV v u/\Q v H'
def TP(X:Cx)(pins:List (Addr×Obj))(σ:St)(Q:Bool->Hp->Prop)(b:Bool)(s':Ag):Prop:=∃H',Inv X pins σ H' s'/\Q b H'
def AP(X:Cx)(pins:List (Addr×Obj))(σ:St)(Q:List V->Hp->Prop)(us:List Value)(s':Ag):Prop:=∃vs H',Inv X pins σ H' s'/\Vals vs us/\Q vs H'
def SP(X:Cx)(pins:List (Addr×Obj))(D:Ends)(f:Flow)(s':Ag):Prop :=
 match f with
 |.next=>∃σ' H',Inv X pins σ' H' s'/\D.nx σ' H'
 |.brk=>∃σ' H',Inv X pins σ' H' s'/\D.bk σ' H'
 |.cont=>∃σ' H',Inv X pins σ' H' s'/\D.ct σ' H'
 |.ret u=>∃v σ' H',Inv X pins σ' H' s'/\RelV v u/\D.rt v H'
def PE(X:Cx)(e:Expr)(t:TE):Prop :=
 ∀(pins:List (Addr×Obj)) (s:Ag) (σ:St) (H:Hp) (Q:VK),Inv X pins σ H s->t σ H Q->wpAny (model X.prog X.w) X.A (eval e X.env) (EP X pins σ Q) X.xe s
def PT(X:Cx)(e:Expr)(t:TT):Prop :=
 ∀(pins:List (Addr×Obj)) (s:Ag) (σ:St) (H:Hp) (Q:Bool->Hp->Prop),Inv X pins σ H s->t σ H Q->wpAny (model X.prog X.w) X.A (isTrue e X.env (eval e X.env)) (TP X pins σ Q) X.xe s
def PW(X:Cx)(e:Expr)(t:TT):Prop :=
 ∀(whole:Sem Value) (pins:List (Addr×Obj)) (s:Ag) (σ:St) (H:Hp) (Q:Bool->Hp->Prop),Inv X pins σ H s->t σ H Q->wpAny (model X.prog X.w) X.A (isTrue e X.env whole) (TP X pins σ Q) X.xe s
theorem PW.pt{X:Cx}{e:Expr}{t:TT}(h:PW X e t):PT X e t:=h _
def PA(X:Cx)(es:List Expr)(t:TA):Prop :=
 ∀(pos:Pos) (pins:List (Addr×Obj)) (s:Ag) (σ:St) (H:Hp) (Q:List V->Hp->Prop),Inv X pins σ H s->t σ H Q->wpAny (model X.prog X.w) X.A (spliced (Fc pos (Be es X.env))) (AP X pins σ Q) X.xe s
def PS(X:Cx)(st:Stmt)(t:TS):Prop :=
 ∀(pins:List (Addr×Obj)) (s:Ag) (σ:St) (H:Hp) (D:Ends),Inv X pins σ H s->t D σ H->wpAny (model X.prog X.w) X.A (exec st X.env) (SP X pins D) X.xe s
def PSs(X:Cx)(st:List Stmt)(t:TS):Prop :=
 ∀(pins:List (Addr×Obj)) (s:Ag) (σ:St) (H:Hp) (D:Ends),Inv X pins σ H s->t D σ H->wpAny (model X.prog X.w) X.A (execs st X.env) (SP X pins D) X.xe s
theorem thn{t:Sem α}{Q Q':α->Ag->Prop}(h:wpAny M A t Q E s)(hQ:∀a s,Q a s->Q' a s):wpAny M A t Q' E s:=Cg h hQ fun _ _ x=>x
open PySem PySem.Spec PyProof.Rows
section
variable{X:Cx}
def tVar(i:Nat):TE:=fun σ H Q=>∃v,σ[i]?=some (some v)/\Q v H
def tC(v:V):TE:=fun _ H Q=>Q v H
theorem pe_var{pos:Pos}(hN:X.N[i]?=some x)(hv:Vis X.env.scope x)(hd:(x==("__debug__" : Str))=false:=by decide)(hcd:(x==("__classdict__" : Str))=false:=by decide):PE X (.Name x pos) (tVar i):=by
 intro pins s σ H Q I h;obtain⟨v,e,h⟩:=h;obtain⟨m,hn,hl⟩:=I.loc;obtain⟨u,r,l⟩:=hl i x v hN e hv;have fin:EP X pins σ Q u s:=⟨v,H,I,r,h⟩
 rcases l with⟨hk,hm⟩|⟨hk,c,hc,hcell⟩
 ·exact Oh (Mg I.ok.kind hk hn hm fin) hd
 ·rcases hk with hk|hk
  ·exact Oh (Mn I.ok.kind hk hc hcell fin) hd
  ·exact Oh (wpAny_loadName_free I.ok.kind hk hc hcell fin hcd) hd
theorem q0f{i j pos}:PE X (.Constant (.int i) j pos) (tC (.int i)):=fun _ _ _ H _ I h=>Mx ⟨.int i,H,I.tok _,⟨_,rfl⟩,h⟩
theorem q5f{b j pos}:PE X (.Constant (.bool b) j pos) (tC (.bl b)):=fun _ _ _ H _ I h=>Constant_bool ⟨.bl b,H,I,rfl,h⟩
theorem z9k{j pos}:PE X (.Constant .none j pos) (tC .non):=fun _ _ _ H _ I h=>Constant_none ⟨.non,H,I,rfl,h⟩
theorem q0h{x j pos}:PE X (.Constant (.str x) j pos) (tC (.str x)):=fun _ _ _ H _ I h=>Eh ⟨.str x,H,I.tok _,⟨_,rfl⟩,h⟩
def Gl(X:Cx)(x:Str):Prop:=X.env.kindOf x=some .globalImplicit
theorem q7f{σ:St}(I:Inv X pins σ H s)(hg:Gl X x)(hm:X.mg x=some u)(h:Q u s)(hd:(x==("__debug__" : Str))=false:=by decide):wpAny (model X.prog X.w) X.A (eval (.Name x pos) X.env) Q E s :=
 Jt I.ok.kind hg (Calls.loadGlobal_global (by rw[I.ok.glob];exact I.mod.glob.keeps I.bk) hm h) hd
theorem q4q{E:Value->Ag->Prop}{σ:St}{pos:Pos}(I:Inv X pins σ H s)(hg:Gl X x)(hm:X.mg x=none)(hv:Eg x=some u)(h:Q u s)(hn:x ≠ "__name__" := by decide)(hd:(x==("__debug__" : Str))=false:=by decide):wpAny (model X.prog X.w) X.A (eval (.Name x pos) X.env) Q E s:=by
 obtain⟨mb,h1,h2⟩:=I.mod.blt;exact Jt I.ok.kind hg (Calls.loadGlobal_builtin (by rw[I.ok.glob];exact I.mod.glob.keeps I.bk) hm (by rw[I.ok.blt];exact h1.keeps I.bk) ((h2 x hn).trans hv) h) hd
theorem q1c{x:Str}{v:V}{u:Value}{pos:Pos}(hg:Gl X x)(hm:X.mg x=some u)(r:RelV v u)(hd:(x==("__debug__" : Str))=false:=by decide):PE X (.Name x pos) (tC v) :=
 fun _ _ _ H _ I h=>q7f I hg hm ⟨v,H,I,r,h⟩ hd
variable{a b:Expr}{ta tb:TE}{pos:Pos}
def PC(X:Cx)(op:CmpOp)(a b:Expr)(t:TE):Prop :=
 ∀(pins:List (Addr×Obj)) (s:Ag) (σ:St) (H:Hp) (Q:VK),Inv X pins σ H s->t σ H Q ->
  wpAny (model X.prog X.w) X.A (eval a X.env) (fun v s₁=>wpAny (model X.prog X.w) X.A (eval b X.env) (fun u s₂=>wpAny (model X.prog X.w) X.A (Ck op v u) (EP X pins σ Q) X.xe s₂) X.xe s₁) X.xe s
theorem nobehind(b:Expr)(h:op≠.In)(h2:op≠.NotIn):Ez op b=false:=by
 have e1:(op==CmpOp.In)=false:=by grind
 have e2:(op==CmpOp.NotIn)=false:=by grind
 cases b<;>simp[Ez,e1,e2]
def tIsN(ta:TE):TE:=fun σ H Q=>ta σ H fun x H1=>Q (.bl (decide (x=.non))) H1
theorem RelV.none_iff(r:RelV x v):(v==Value.none)=decide (x=.non):=by
 cases x with
 |non=>cases r;rfl
 |bl _=>cases r;rfl
 |int _=>obtain⟨t,rfl⟩:=r;rfl
 |str _=>obtain⟨t,rfl⟩:=r;rfl
 |byt _=>obtain⟨t,rfl⟩:=r;rfl
 |flt _=>obtain⟨t,rfl⟩:=r;rfl
 |ref _=>cases r;rfl
 |ty _=>cases r;rfl
theorem pc_isN{j pos'}(ha:PE X a ta):PC X .Is a (.Constant .none j pos') (tIsN ta):=by
 intro pins s σ H Q I h;refine thn (ha pins s σ H _ I h) fun v s1 ⟨x,H1,I1,r1,q1⟩=>?_;exact Constant_none (is_none_gen ⟨.bl _,H1,I1,by rw[r1.none_iff];rfl,q1⟩)
def tB(t:TE):TT:=fun σ H Q=>t σ H fun x H1=>∃c,x=.bl c/\Q c H1
theorem z4i{op:CmpOp}{t:TE}(h:PC X op a b t)(h1:Ez op b=false:=by first|exact nobehind _ (by decide) (by decide)|rfl):PT X (.Compare a [op] [b] pos) (tB t):=by
 intro pins s σ H Q I hw;refine Lm (thn (h pins s σ H _ I hw) fun v s1 h1=>thn h1 fun u s2 h2=>thn h2 fun c s3 ⟨x,H1,I1,r1,q1⟩=>?_) h1;obtain⟨d,rfl,q⟩:=q1;cases r1;exact El ⟨H1,I1,q⟩
variable{tA tB':TT}{rest:List Expr}
def tAnd(t u:TT):TT:=fun σ H Q=>t σ H fun c H1=>if c=true then u σ H1 Q else Q false H1
def tOr(t u:TT):TT:=fun σ H Q=>t σ H fun c H1=>if c=true then Q true H1 else u σ H1 Q
def tNot(t:TT):TT:=fun σ H Q=>t σ H fun c H1=>Q (!c) H1
theorem q2k(ha:PT X a tA):PW X (.BoolOp .And [a] pos) tA:=by
 intro wh pins s σ H Q I h;refine isTrue_and (thn (ha pins s σ H Q I h) fun c s1 e=>?_);cases c with
 |true=>exact isTrue_and_nil e
 |false=>exact e
theorem q9c(ha:PT X a tA):PW X (.BoolOp .Or [a] pos) tA:=by
 intro wh pins s σ H Q I h;refine isTrue_or (thn (ha pins s σ H Q I h) fun c s1 e=>?_);cases c with
 |false=>exact isTrue_or_nil e
 |true=>exact e
theorem q2w(ha:PT X a tA)(hb:PW X (.BoolOp .And (b::rest) pos) tB'):PW X (.BoolOp .And (a::b::rest) pos) (tAnd tA tB'):=by
 intro wh pins s σ H Q I h;refine isTrue_and (thn (ha pins s σ H _ I h) fun c s1 ⟨H1,I1,q1⟩=>?_);cases c with
 |true=>exact hb wh pins s1 σ H1 Q I1 q1
 |false=>exact⟨H1,I1,q1⟩
theorem z4j(ha:PT X a tA)(hb:PW X (.BoolOp .Or (b::rest) pos) tB'):PW X (.BoolOp .Or (a::b::rest) pos) (tOr tA tB'):=by
 intro wh pins s σ H Q I h;refine isTrue_or (thn (ha pins s σ H _ I h) fun c s1 ⟨H1,I1,q1⟩=>?_);cases c with
 |true=>exact⟨H1,I1,q1⟩
 |false=>exact hb wh pins s1 σ H1 Q I1 q1
theorem pt_not(ha:PT X a tA):PT X (.UnaryOp .Not a pos) (tNot tA):=by
 intro pins s σ H Q I h;exact isTrue_not (ha pins s σ H (fun c H1=>Q (!c) H1) I h)
def tAndV(ta tb:TE):TE:=fun σ H Q=>ta σ H fun x H1=>∃c,x=.bl c/\if c=true then tb σ H1 Q else Q (.bl false) H1
def tOrV(ta tb:TE):TE:=fun σ H Q=>ta σ H fun x H1=>∃c,x=.bl c/\if c=true then Q (.bl true) H1 else tb σ H1 Q
theorem z4k{op}{t:TE}(h:PE X a t):PE X (.BoolOp op [a] pos) t:=fun pins s σ H Q I hw=>BoolOp_one (h pins s σ H Q I hw)
theorem z9l(ha:PE X a ta)(hb:PE X (.BoolOp .And (b::rest) pos) tb):PE X (.BoolOp .And (a::b::rest) pos) (tAndV ta tb):=by
 intro pins s σ H Q I h;refine BoolOp_and (thn (ha pins s σ H _ I h) fun v s1 ⟨x,H1,I1,r1,q1⟩=>?_);obtain⟨c,rfl,q1⟩:=q1;cases r1;refine El ?_;cases c with
 |true=>exact hb pins s1 σ H1 Q I1 q1
 |false=>exact⟨.bl false,H1,I1,rfl,q1⟩
theorem pe_or(ha:PE X a ta)(hb:PE X (.BoolOp .Or (b::rest) pos) tb):PE X (.BoolOp .Or (a::b::rest) pos) (tOrV ta tb):=by
 intro pins s σ H Q I h;refine BoolOp_or (thn (ha pins s σ H _ I h) fun v s1 ⟨x,H1,I1,r1,q1⟩=>?_);obtain⟨c,rfl,q1⟩:=q1;cases r1;refine El ?_;cases c with
 |false=>exact hb pins s1 σ H1 Q I1 q1
 |true=>exact⟨.bl true,H1,I1,rfl,q1⟩
def tIf(t:TT)(ta tb:TE):TE:=fun σ H Q=>t σ H fun c H1=>if c=true then ta σ H1 Q else tb σ H1 Q
theorem z7m{c:Expr}(hc:PT X c tA)(ha:PE X a ta)(hb:PE X b tb):PE X (.IfExp c a b pos) (tIf tA ta tb):=by
 intro pins s σ H Q I h;refine wpAny_IfExp (thn (hc pins s σ H _ I h) fun d s1 ⟨H1,I1,q1⟩=>?_);cases d with
 |true=>exact ha pins s1 σ H1 Q I1 q1
 |false=>exact hb pins s1 σ H1 Q I1 q1
end
open PySem PySem.Spec PyProof.Rows
def SqL(K:Ae)(H:Hp)(a:Addr)(xs:List V):Prop :=
 Rd H a (.lst xs) \/
  ∃(o:Obj) (its:Array Value) (n:Nat),K.lookup a=some o/\o.cls=.type "list" /\ o.dict=none/\o.data=.seq its n/\its.size<=sizeLine/\Vals xs its.toList
def SqT(K:Ae)(H:Hp)(a:Addr)(xs:List V):Prop :=
 Rd H a (.tup xs) \/
  ∃(o:Obj) (its:Array Value) (n:Nat),K.lookup a=some o/\o.cls=.type "tuple" /\ o.data=.seq its n/\its.size<=sizeLine/\Vals xs its.toList
def absV:Value->Option V
 |.none=>some .non
 |.bool b=>some (.bl b)
 |.int i _=>some (.int i)
 |.str x _=>some (.str x)
 |.bytes b _=>some (.byt b)
 |.float b _=>some (.flt b)
 |.ref a=>some (.ref a)
 |.type n=>some (.ty n)
 |_=>none
theorem RelV.abs(r:RelV x u):absV u=some x:=by
 cases x with
 |non=>cases r;rfl
 |bl _=>cases r;rfl
 |int _=>obtain⟨t,rfl⟩:=r;rfl
 |str _=>obtain⟨t,rfl⟩:=r;rfl
 |byt _=>obtain⟨t,rfl⟩:=r;rfl
 |flt _=>obtain⟨t,rfl⟩:=r;rfl
 |ref _=>cases r;rfl
 |ty _=>cases r;rfl
theorem RelV.inj(r:RelV x u)(q:RelV y u):x=y:=Bq (r.abs.symm.trans q.abs)
theorem Vals.inj:∀{xs ys:List V} {us:List Value},Vals xs us->Vals ys us->xs=ys
 |_,_,_,.nil,.nil=>rfl
 |_,_,_,.cons r t,.cons r' t'=>by rw[r.inj r',Vals.inj t t']
section
variable{X:Cx}{pins:List (Addr×Obj)}{σ:St}{H:Hp}{s:Ag}{a:Addr}{xs ys:List V}
theorem SqL.of{K:Ae}(h:H a=some (.lst xs)):SqL K H a xs:=.inl (.inl h)
theorem SqT.of{K:Ae}(h:H a=some (.tup xs)):SqT K H a xs:=.inl (.inl h)
theorem Inv.list(I:Inv X pins σ H s)(h:SqL X.K H a xs):∃its:List Value,Vals xs its/\PlainL s.heap a its.toArray/\xs.length<=sizeLine:=by
 rcases h with h|⟨o,its,n,hk,hc,hd,hs,hz,r⟩
 ·obtain⟨z,its,n,r,e⟩:=h.ok I.hok;exact⟨its,r,⟨_,n,e,rfl,rfl,rfl⟩,z⟩
 ·refine⟨its.toList,r,⟨o,n,I.kIn a o hk,hc,hd,by simpa using hs⟩,?_⟩;have e:=r.length;simp only[Gn] at e;lia
theorem Inv.tuple(I:Inv X pins σ H s)(h:SqT X.K H a xs):∃its:List Value,Vals xs its/\IsTup s.heap a its.toArray/\xs.length<=sizeLine:=by
 rcases h with h|⟨o,its,n,hk,hc,hs,hz,r⟩
 ·obtain⟨z,its,r,p⟩:=h.ok I.hok;exact⟨its,r,p,z⟩
 ·refine⟨its.toList,r,⟨o,I.kIn a o hk,hc,n,by simpa using hs⟩,?_⟩;have e:=r.length;simp only[Gn] at e;lia
theorem Inv.list_inj(I:Inv X pins σ H s)(h:SqL X.K H a xs)(h':SqL X.K H a ys):xs=ys:=by
 obtain⟨its,r,⟨o,n,e,_,_,d⟩,_⟩:=I.list h;obtain⟨its',r',⟨o',n',e',_,_,d'⟩,_⟩:=I.list h';have:its=its':=by grind
 subst this;exact r.inj r'
theorem Inv.tuple_inj(I:Inv X pins σ H s)(h:SqT X.K H a xs)(h':SqT X.K H a ys):xs=ys:=by
 obtain⟨its,r,⟨o,e,_,n,d⟩,_⟩:=I.tuple h;obtain⟨its',r',⟨o',e',_,n',d'⟩,_⟩:=I.tuple h';have:its=its':=by grind
 subst this;exact r.inj r'
end
abbrev Cx.wish(X:Cx)(E:Value->Ag->Prop):Cx:={ X with xe:=E }
abbrev Cx.nox(X:Cx):Cx:=X.wish fun _ _=>False
theorem Cx.Ok.wish{X:Cx}(ok:X.Ok)(E:Value->Ag->Prop):(X.wish E).Ok :=
 ⟨ok.mod,ok.kind,ok.glob,ok.blt,ok.above,ok.inj,ok.has,ok.cab,ok.hd,ok.frames,ok.stk,ok.exf,ok.bs,ok.bsz,ok.noex,ok.exfs,ok.funs,ok.frf⟩
theorem Cx.Ok.unwish{X:Cx}(ok:(X.wish E).Ok):X.Ok :=
 ⟨ok.mod,ok.kind,ok.glob,ok.blt,ok.above,ok.inj,ok.has,ok.cab,ok.hd,ok.frames,ok.stk,ok.exf,ok.bs,ok.bsz,ok.noex,ok.exfs,ok.funs,ok.frf⟩
section
variable{X:Cx}{pins:List (Addr×Obj)}{σ:St}{H:Hp}{s:Ag}{E:Value->Ag->Prop}
theorem Inv.wish(I:Inv X pins σ H s)(E:Value->Ag->Prop):Inv (X.wish E) pins σ H s:=⟨I.ok.wish E,I.os,I.bare,I.base,I.loc,I.cell,I.free,I.freeC,I.pin,I.hok,I.len⟩
theorem Inv.unwish(I:Inv (X.wish E) pins σ H s):Inv X pins σ H s:=⟨I.ok.unwish,I.os,I.bare,I.base,I.loc,I.cell,I.free,I.freeC,I.pin,I.hok,I.len⟩
theorem SP.unwish(h:SP (X.wish E) pins D f s'):SP X pins D f s':=by
 cases f with
 |next=>obtain⟨σ',H',I,q⟩:=h;exact⟨σ',H',I.unwish,q⟩
 |brk=>obtain⟨σ',H',I,q⟩:=h;exact⟨σ',H',I.unwish,q⟩
 |cont=>obtain⟨σ',H',I,q⟩:=h;exact⟨σ',H',I.unwish,q⟩
 |ret u=>obtain⟨v,σ',H',I,r,q⟩:=h;exact⟨v,σ',H',I.unwish,r,q⟩
theorem PE.nox(h:PE X.nox e t):PE X e t:=fun pins s σ H Q I hw =>
 Cg (h pins s σ H Q (I.wish _) hw) (fun _ _ ⟨v,H',I',r,q⟩=>⟨v,H',I'.unwish,r,q⟩) fun _ _ z=>False.elim z
theorem PT.nox(h:PT X.nox e t):PT X e t:=fun pins s σ H Q I hw =>
 Cg (h pins s σ H Q (I.wish _) hw) (fun _ _ ⟨H',I',q⟩=>⟨H',I'.unwish,q⟩) fun _ _ z=>False.elim z
theorem PSs.nox{st:List Stmt}(h:PSs X.nox st t):PSs X st t:=fun pins s σ H D I hw =>
 Cg (h pins s σ H D (I.wish _) hw) (fun _ _ q=>q.unwish) fun _ _ z=>False.elim z
end
section
variable{X:Cx}{st:Stmt}{rest:List Stmt}{t u:TS}{e:Expr}{te:TE}{pos:Pos}
def tNext:TS:=fun D σ H=>D.nx σ H
def tSeq(t u:TS):TS:=fun D σ H=>t { D with nx:=u D } σ H
theorem q0i:PSs X [] tNext:=fun _ _ σ H _ I h=>Ie ⟨σ,H,I,h⟩
theorem q0b(h1:PS X st t)(h2:PSs X rest u):PSs X (st::rest) (tSeq t u):=by
 intro pins s σ H D I h;refine Kj (thn (h1 pins s σ H { D with nx:=u D } I h) fun f s1 q=>?_);cases f with
 |next =>
  obtain⟨σ',H',I',q⟩:=q;exact h2 pins s1 σ' H' D I' q
 |ret v=>exact q
 |brk=>exact q
 |cont=>exact q
theorem q0d(h1:PS X st t):PSs X [st] t:=by
 intro pins s σ H D I h;refine Kj (thn (h1 pins s σ H D I h) fun f s1 q=>?_);cases f with
 |next=>exact Ie q
 |ret v=>exact q
 |brk=>exact q
 |cont=>exact q
theorem Inv.quiet{σ:St}(I:Inv X pins σ H s):interactive X.env=false:=by simp[interactive,I.ok.kind]
def tDrop(te:TE):TS:=fun D σ H=>te σ H fun _ H1=>D.nx σ H1
theorem q0x(he:PE X e te)(hs:My e none pos.line X.env=pure false:=by rfl):PS X (.Expr e pos) (tDrop te):=by
 intro pins s σ H D I h;exact wpAny_Expr_any (thn (he pins s σ H _ I h) fun v s1 ⟨x,H1,I1,r1,q1⟩=>⟨σ,H1,I1,q1⟩) I.quiet hs
def tRet(te:TE):TS:=fun D σ H=>te σ H D.rt
theorem q0l(he:PE X e te):PS X (.Return (some e) pos) (tRet te):=by
 intro pins s σ H D I h;exact wpAny_Return_some (thn (he pins s σ H _ I h) fun v s1 ⟨x,H1,I1,r1,q1⟩=>⟨x,σ,H1,I1,r1,q1⟩)
def tIfS(c:TT)(t u:TS):TS:=fun D σ H=>c σ H fun b H1=>if b=true then t D σ H1 else u D σ H1
theorem q0u{c:Expr}{a b:List Stmt}{tc:TT}(hc:PT X c tc)(ha:PSs X a t)(hb:PSs X b u):PS X (.If c a b pos) (tIfS tc t u):=by
 intro pins s σ H D I h;refine wpAny_If (thn (hc pins s σ H _ I h) fun d s1 ⟨H1,I1,q1⟩=>?_);cases d with
 |true=>exact ha pins s1 σ H1 D I1 q1
 |false=>exact hb pins s1 σ H1 D I1 q1
def tNever:TS:=fun _ _ _=>False
theorem q1l:PS X st tNever:=fun _ _ _ _ _ _ h=>h.elim
end
abbrev TG:=V->St->Hp->(St->Hp->Prop)->Prop
abbrev TGs:=List V->St->Hp->(St->Hp->Prop)->Prop
def PG(X:Cx)(target:Expr)(t:TG):Prop :=
 ∀(pins:List (Addr×Obj)) (s:Ag) (σ:St) (H:Hp) (v:V) (u:Value) (Q:St->Hp->Prop),Inv X pins σ H s->RelV v u->t v σ H Q ->
  wpAny (model X.prog X.w) X.A (assign target X.env u) (fun _ s'=>∃σ' H',Inv X pins σ' H' s'/\Q σ' H') X.xe s
def PGs(X:Cx)(ts:List Expr)(t:TGs):Prop :=
 ∀(pins:List (Addr×Obj)) (s:Ag) (σ:St) (H:Hp) (vs:List V) (us:List Value) (Q:St->Hp->Prop),Inv X pins σ H s->Vals vs us->t vs σ H Q ->
  wpAny (model X.prog X.w) X.A (assignInOrder ((Fx ts X.env).map (·.2)) us) (fun _ s'=>∃σ' H',Inv X pins σ' H' s'/\Q σ' H') X.xe s
abbrev TSet:=V->V->V->Hp->(Hp->Prop)->Prop
def PSet(X:Cx)(t:TSet):Prop :=
 ∀(pins:List (Addr×Obj)) (s:Ag) (σ:St) (H:Hp) (o i v:V) (ov iv u:Value) (Q:Hp->Prop),Inv X pins σ H s->RelV o ov->RelV i iv->RelV v u->t o i v H Q ->
  wpAny (model X.prog X.w) X.A (setItem ov iv u) (fun _ s'=>∃H',Inv X pins σ H' s'/\Q H') X.xe s
abbrev TIp:=V->V->Hp->VK->Prop
def PIp(X:Cx)(op:Operator)(t:TIp):Prop :=
 ∀(pins:List (Addr×Obj)) (s:Ag) (σ:St) (H:Hp) (x y:V) (v u:Value) (Q:VK),Inv X pins σ H s->RelV x v->RelV y u->t x y H Q ->
  wpAny (model X.prog X.w) X.A (Mz op v u) (EP X pins σ Q) X.xe s
section
variable{X:Cx}{pos:Pos}
def gName(i:Nat):TG:=fun v σ H Q=>Q (σ.set i (some v)) H
theorem q0k{i:Nat}{x:Str}(hN:X.N.Nodup)(hi:X.N[i]?=some x)(hx:Loc X.env.scope x)(hf:X.fn x=true\/X.env.scope.names.lookup x=some .local:=by first|exact .inl rfl|exact .inr rfl|assumption):PG X (.Name x pos) (gName i):=by
 intro pins s σ H v u Q I r h;exact Nn (q7e I hN hi hx r (fun s' I'=>⟨_,H,I',h⟩) hf)
def gNil:TGs:=fun vs σ H Q=>vs=[]/\Q σ H
def gCons(t:TG)(u:TGs):TGs:=fun vs σ H Q=>∃v r,vs=v::r/\t v σ H fun σ' H'=>u r σ' H' Q
theorem q2b:PGs X [] gNil:=by
 intro pins s σ H vs us Q I r h;obtain⟨e,h⟩:=h;exact assignInOrder_nil ⟨σ,H,I,h⟩
theorem q0q{e:Expr}{es:List Expr}{t:TG}{u:TGs}(h1:PG X e t)(h2:PGs X es u)(hs:(Fx (e::es) X.env).map (·.2)=assign e X.env::(Fx es X.env).map (·.2):=by rfl):PGs X (e::es) (gCons t u):=by
 intro pins s σ H vs us Q I r h;obtain⟨v,vr,e1,h⟩:=h;subst e1;cases r with
 |cons r rr =>
  rw[hs];refine assignInOrder_cons (thn (h1 pins s σ H _ _ _ I r h) fun _ s1 ⟨σ1,H1,I1,q1⟩=>?_);exact h2 pins s1 σ1 H1 _ _ Q I1 rr q1
def gTup(K:Ae)(n:Nat)(t:TGs):TG:=fun v σ H Q=>∃a xs,v=.ref a/\SqT K H a xs/\xs.length=n/\t xs σ H Q
theorem pg_tup{k:Nat}(hc:X.calm=true)(h:PGs X es t)(hn:(Fx es X.env).length=n:=by rfl)(hst:(Fx es X.env).findIdx? (·.1)=none:=by rfl):PG X (.Tuple es k pos) (gTup X.K n t):=by
 intro pins s σ H v u Q I r hw;obtain⟨a,xs,e1,hq,hl,hw⟩:=hw;subst e1;cases r;obtain⟨its,rv,ht,hz⟩:=I.tuple hq;refine assign_Tuple_tuple (I.ok.hd hc) ht (by simp[hn,<- hl,rv.length]) hst fun h' hx=>?_;have I1:Inv X pins σ H { s with heap:=h' }:=I.kept (t':=s.toks) fun b o e=>hx b o (Ce (Ba e)) e;exact h pins _ σ H xs _ Q I1 (by simpa using rv) hw
def gSub(to ti:TE)(t:TSet):TG:=fun v σ H Q=>to σ H fun o H1=>ti σ H1 fun i H2=>t o i v H2 fun H3=>Q σ H3
theorem z4l{o i:Expr}{to ti:TE}{t:TSet}(ho:PE X o to)(hi:PE X i ti)(hs:PSet X t)(ha:∀v,assign (.Subscript o i pos) X.env v=(do
   let ov<-Kg [v] (eval o X.env);let iv<-Kg [v,ov] (eval i X.env)
   Ln pos
   Kg [v,ov,iv] (setItem ov iv v)
   release [v,ov,iv] []):=by intro _;rfl):PG X (.Subscript o i pos) (gSub to ti t):=by
 intro pins s σ H v u Q I r h;refine Ab (Gg (thn (ho pins s σ H _ I h) fun ov s1 ⟨x,H1,I1,r1,q1⟩=>?_));refine Ab (Gg (thn (hi pins s1 σ H1 _ I1 q1) fun iv s2 ⟨y,H2,I2,r2,q2⟩=>?_));refine Ab (Dl (Ab (Gg (thn (hs pins s2 σ H2 x y v ov iv u _ I2 r1 r2 r q2) fun _ s3 ⟨H3,I3,q3⟩=>?_))));exact wpAny_release ⟨σ,H3,I3,q3⟩
def tAsg(te:TE)(g:TG):TS:=fun D σ H=>te σ H fun x H1=>g x σ H1 D.nx
theorem q5g{tg e:Expr}{te:TE}{g:TG}(he:PE X e te)(hg:PG X tg g)(hs:swapsWithSole [tg] e pos.line X.env=pure false:=by rfl)(hw:swappedStores [tg] e X.env=pure none:=by rfl)(h1:(Fx [tg] X.env).map (·.2)=[assign tg X.env]:=by rfl):PS X (.Assign [tg] e pos) (tAsg te g):=by
 intro pins s σ H D I h;refine wpAny_Assign_stores (thn (he pins s σ H _ I h) fun v s1 ⟨x,H1,I1,r1,q1⟩=>?_) hs hw;rw[h1];exact thn (hg pins s1 σ H1 x v _ I1 r1 q1) fun _ s2 q=>q
theorem q0j{i:Nat}{x:Str}{e:Expr}{te:TE}{pos':Pos}(hN:X.N.Nodup)(hi:X.N[i]?=some x)(hx:Loc X.env.scope x)(he:PE X e te)(hs:My e (some (.Name x pos')) pos.line X.env=pure false:=by rfl)(hf:X.fn x=true\/X.env.scope.names.lookup x=some .local:=by first|exact .inl rfl|exact .inr rfl|assumption):
  PS X (.Assign [.Name x pos'] e pos) (tAsg te (gName i)):=by
 intro pins s σ H D I h;refine wpAny_Assign_Name (thn (he pins s σ H _ I h) fun v s1 ⟨y,H1,I1,r1,q1⟩=>?_) hs;exact q7e I1 hN hi hx r1 (fun s2 I2=>⟨_,H1,I2,q1⟩) hf
def tAug(i:Nat)(te:TE)(ti:TIp):TS:=fun D σ H=>∃x,σ[i]?=some (some x)/\te σ H fun y H1=>ti x y H1 fun z H2=>D.nx (σ.set i (some z)) H2
theorem z1v{i:Nat}{x:Str}{e:Expr}{te:TE}{op:Operator}{ti:TIp}{pos':Pos}(hN:X.N.Nodup)(hi:X.N[i]?=some x)(hx:Loc X.env.scope x)(he:PE X e te)(ho:PIp X op ti)(hf:X.fn x=true\/X.env.scope.names.lookup x=some .local:=by first|exact .inl rfl|exact .inr rfl|assumption):
  PS X (.AugAssign (.Name x pos') op e pos) (tAug i te ti):=by
 intro pins s σ H D I h;obtain⟨v,e1,h⟩:=h;obtain⟨m,hn,hl⟩:=I.loc;have vis:Vis X.env.scope x:=by rcases hx with k|k;exact .inl k;exact .inr (.inl k)
 obtain⟨u,r,l⟩:=hl i x v hi e1 vis;refine wpAny_AugAssign_Name ?_;have go:wpAny (model X.prog X.w) X.A (eval e X.env) (fun w s₂=>wpAny (model X.prog X.w) X.A (Mz op u w) (fun r s₃=>wpAny (model X.prog X.w) X.A (storeName X.env x r) (fun _=>SP X pins D .next) X.xe s₃) X.xe s₂) X.xe s:=by
  refine thn (he pins s σ H _ I h) fun w s1 ⟨y,H1,I1,r1,q1⟩=>?_;refine thn (ho pins s1 σ H1 v y u w _ I1 r r1 q1) fun z s2 ⟨zv,H2,I2,r2,q2⟩=>?_;exact q7e I2 hN hi hx r2 (fun s3 I3=>⟨_,H2,I3,q2⟩) hf
 rcases l with⟨hk,hm⟩|⟨hk,c,hc,hcell⟩
 ·exact Mg I.ok.kind hk hn hm go
 ·rcases hk with hk|hk
  ·exact Mn I.ok.kind hk hc hcell go
  ·rcases hx with k|k
   ·have:X.env.scope.names.lookup x=some .free:=hk;rw[k] at this;cases this
   ·have:X.env.scope.names.lookup x=some .free:=hk;rw[k] at this;cases this
def tAugS(to ti te:TE)(tget:V->V->Hp->VK->Prop)(tip:TIp)(tset:TSet):TS:=fun D σ H=>to σ H fun o H1=>ti σ H1 fun i H2=>tget o i H2 fun x H3=>te σ H3 fun y H4=>tip x y H4 fun z H5=>tset o i z H5 fun H6=>D.nx σ H6
def PGet(X:Cx)(t:V->V->Hp->VK->Prop):Prop :=
 ∀(pins:List (Addr×Obj)) (s:Ag) (σ:St) (H:Hp) (o i:V) (ov iv:Value) (Q:VK),Inv X pins σ H s->RelV o ov->RelV i iv->t o i H Q ->
  wpAny (model X.prog X.w) X.A (getItem ov iv) (EP X pins σ Q) X.xe s
theorem x0s(ho:PE X o to)(hi:PE X i ti)(hg:PGet X tget)(he:PE X e te)(hp:PIp X op tip)(hs:PSet X tset)(ha:∀ov iv new,augStore i ov iv new=(do Kg [new,ov,iv] (setItem ov iv new);release [new,ov,iv] [];pure .next):=by intros;rfl):PS X (.AugAssign (.Subscript o i tpos) op e pos) (tAugS to ti te tget tip tset):=by
 intro pins s σ H D I h;refine wpAny_AugAssign_SubscriptAny (thn (ho pins s σ H _ I h) fun ov s1 ⟨x1,H1,I1,r1,q1⟩=>?_) ha;refine thn (hi pins s1 σ H1 _ I1 q1) fun iv s2 ⟨x2,H2,I2,r2,q2⟩=>?_;refine thn (hg pins s2 σ H2 x1 x2 ov iv _ I2 r1 r2 q2) fun old s3 ⟨x3,H3,I3,r3,q3⟩=>?_;refine thn (he pins s3 σ H3 _ I3 q3) fun v s4 ⟨x4,H4,I4,r4,q4⟩=>?_;refine thn (hp pins s4 σ H4 x3 x4 old v _ I4 r3 r4 q4) fun new s5 ⟨x5,H5,I5,r5,q5⟩=>?_;exact thn (hs pins s5 σ H5 x1 x2 x5 ov iv new _ I5 r1 r2 r5 q5) fun _ s6 ⟨H6,I6,q6⟩=>⟨σ,H6,I6,q6⟩
end
section
variable{X:Cx}{pos:Pos}
def tWhile(c:TT)(tb:TS):TS:=fun D σ H=>∃W:Nat->St->Hp->Prop,(∃m,W m σ H)/\∀m σ H,W m σ H ->
 c σ H fun b H1=>if b=true then ∃N:St->Hp->Prop,(∀σ' H',N σ' H'->∃m',m'<m/\W m' σ' H')/\tb { D with nx:=N,ct:=N,bk:=D.nx } σ H1 else D.nx σ H1
theorem q7g{c:Expr}{body:List Stmt}{tc:TT}{tb:TS}(hp:PassesOwn (model X.prog X.w) X.A X.env X.xe)(hc:PT X c tc)(hb:PSs X body tb):PS X (.While c body [] pos) (tWhile tc tb):=by
 intro pins s σ H D I h;obtain⟨W,⟨m0,w0⟩,turn⟩:=h;refine wpAny_While (codeAny_whileLoop (fun n s'=>∃σ' H',Inv X pins σ' H' s'/\W n σ' H') ?_ m0 ⟨σ,H,I,w0⟩);rintro n s1 ⟨σ1,H1,I1,w1⟩;refine Ei hp (thn (hc pins s1 σ1 H1 _ I1 (turn n σ1 H1 w1)) fun b s2 ⟨H2,I2,q2⟩=>?_);cases b with
 |true =>
  obtain⟨N,hN,q2⟩:=q2;refine Ei hp (thn (hb pins s2 σ1 H2 _ I2 q2) fun f s3 q3=>?_);cases f with
  |next =>
   obtain⟨σ3,H3,I3,n3⟩:=q3;obtain⟨m',hm,w3⟩:=hN σ3 H3 n3;exact⟨m',hm,σ3,H3,I3,w3⟩
  |cont =>
   obtain⟨σ3,H3,I3,n3⟩:=q3;obtain⟨m',hm,w3⟩:=hN σ3 H3 n3;exact⟨m',hm,σ3,H3,I3,w3⟩
  |brk=>exact q3
  |ret v=>exact q3
 |false =>
  exact Ie ⟨σ1,H2,I2,q2⟩
end
structure It where
 go:Nat->Hp->Prop
 yld:Nat->Hp->V->Hp->Prop
 stop:Nat->Hp->Prop
def FpOk(X:Cx)(pins:List (Addr×Obj))(H:Hp)(b:Addr):Prop :=
 H b=none/\b≠X.env.locals/\b∉X.fs/\(b∈X.ex\/X.s₀.heap.objs.size<=b)/\(∀x c,X.env.cells.lookup x=some c->c≠b)/\∀p∈X.pn++pins,p.1≠b
theorem Inv.fpOk{σ:St}{b:Addr}(I:Inv X pins σ H s)(hb:s.heap.objs.size<=b)(hn:H' b=none):FpOk X pins H' b:=by
 refine⟨hn,Gw (Bj I.lt hb),I.nofs hb,.inr (Ap I.sz hb),fun x c e z=>?_,fun p hp z=>?_⟩
 ·obtain⟨v,q⟩:=I.cell x c e;exact absurd (Bj q.lt (by rw[z];exact hb)) (Ej _)
 ·exact absurd (Bj (Ba (I.pin p hp).1) (by rw[z];exact hb)) (Ej _)
structure Turn (P:Program) (w:World) (K:Ae) (tg:Expr) (J:It) (fp:List Addr) (it:Addr) (tn:Nat->Heap->Prop):Prop where
 mem:it∈fp
 obj:∀i h,tn i h->∀b∈fp,∃o,h.get? b=some o/\∀v,o.data≠.cell v
 keep:∀i h h',tn i h->(∀b∈fp,∀o,h.get? b=some o->h'.get? b=some o)->tn i h'
 item:∀(X:Cx),X.prog=P->X.w=w->X.K=K->X.calm=true->∀(i:Nat) (pins:List (Addr×Obj)) (s:Ag) (σ:St) (H:Hp) (E:Value->Ag->Prop),Inv X pins σ H s->(∀b∈fp,FpOk X pins H b)->tn i s.heap->J.go i H ->
  wpAny (model P w) X.A (Ig (.ref it)) (fun r s1=>∃u,r=some u /\
   wpAny (model P w) X.A (Gq tg (.ref it) u) (fun _ s2=>∃x H',Inv X pins σ H' s2/\RelV x u/\J.yld i H x H'/\tn (i+1) s2.heap/\∀b∈fp,H' b=none) E s1) E s
 done:∀(X:Cx),X.prog=P->X.w=w->X.K=K->X.calm=true->∀(i:Nat) (pins:List (Addr×Obj)) (s:Ag) (σ:St) (H:Hp) (E:Value->Ag->Prop),Inv X pins σ H s->(∀b∈fp,FpOk X pins H b)->tn i s.heap->J.stop i H ->
  wpAny (model P w) X.A (Ig (.ref it)) (fun r s1=>r=none/\Inv X pins σ H s1) E s
 self:∀(A:Around) (i:Nat) (s:Ag) (Q:Value->Ag->Prop) (E:Value->Ag->Prop),tn i s.heap->Q (.ref it) s->wpAny (model P w) A (Hn (.ref it)) Q E s
abbrev TI:=St->Hp->(It->Hp->Prop)->Prop
def PIE(X:Cx)(pins:List (Addr×Obj))(σ:St)(tg:Expr)(R:It->Hp->Prop)(itv:Value)(s2:Ag):Prop :=
 ∃(it:Addr) (fp:List Addr) (tn:Nat->Heap->Prop) (J:It) (H':Hp),itv=.ref it/\Inv X pins σ H' s2/\Turn X.prog X.w X.K tg J fp it tn/\tn 0 s2.heap/\(∀b∈fp,FpOk X pins H' b)/\R J H'
def PI(X:Cx)(tg iter:Expr)(wi:TI):Prop :=
 ∀(pins:List (Addr×Obj)) (s:Ag) (σ:St) (H:Hp) (R:It->Hp->Prop),Inv X pins σ H s->wi σ H R ->
  wpAny (model X.prog X.w) X.A (eval iter X.env) (fun v s1=>wpAny (model X.prog X.w) X.A (Hn v) (PIE X pins σ tg R) X.xe s1) X.xe s
theorem z3f (ho : s.heap.get? it = some o) (hc : o.cls = .type n) (hd : o.data = .fields vs)
    (hn : ["enumerate", "zip", "dict_itemiterator", "dict_reverseitemiterator", "odict_iterator", "itertools.zip_longest", "itertools.pairwise"].contains n = false) (hQ : Q () s) : wpAny M A (Gq tg (.ref it) u) Q E s := by
  cases tg <;> first
    | exact An hQ
    | (cases u <;> first
        | exact An hQ
        | (refine Ab (wpAny_load ho ?_)
           rw [hc, hd]
           show wpAny M A (if (["enumerate", "zip", "dict_itemiterator", "dict_reverseitemiterator", "odict_iterator", "itertools.zip_longest", "itertools.pairwise"].contains n && vs[0]? == some (Jk _)) = true then _ else _) Q E s
           rw [if_neg (by intro h; rw [hn, Lo] at h; cases h)]
           exact An hQ))
def Itl(K:Ae)(a:Addr):It :=
 ⟨fun i H=>∃xs x,SqL K H a xs/\xs[i]?=some x,fun i H x H'=>H'=H/\∀xs,SqL K H a xs->xs[i]?=some x,fun i H=>∃xs,SqL K H a xs/\xs.length<=i⟩
def Itt(K:Ae)(a:Addr):It :=
 ⟨fun i H=>∃xs x,SqT K H a xs/\xs[i]?=some x,fun i H x H'=>H'=H/\∀xs,SqT K H a xs->xs[i]?=some x,fun i H=>∃xs,SqT K H a xs/\xs.length<=i⟩
def Itr(lo:Int)(n:Nat):It:=⟨fun i _=>i<n,fun i H x H'=>H'=H/\x=.int (lo+i),fun i _=>n<=i⟩
theorem q9d{K:Ae}(a it:Addr):Turn P w K tg (Itl K a) [it] it (fun i h=>h.IsListIter it a i) where
 mem:=by simp
 obj:=fun i h st b hb=>by
  have e:b=it:=by grind
  subst e;obtain⟨o,e,c,d⟩:=st;exact⟨o,e,fun v z=>by rw[d] at z;cases z⟩
 keep:=fun i h h' st k=>st.at fun o e=>k it (by simp) o e
 item:=by
  intro X hP hw hK hc i pins s σ H E I hf st hg;subst hP hw hK;obtain⟨xs,x,hq,hx⟩:=hg;obtain⟨its,rv,p,hz⟩:=I.list hq;obtain⟨u,hu,ru⟩:=rv.get hx;obtain⟨f0,f1,f2,f3,f4,f5⟩:=hf it (by simp);refine wpAny_pyNext_list_item st p.isList (by simpa using hu) fun h' st' sb=>?_;have I1:Inv X pins σ H { s with heap:=h' }:=I.turned (t':=s.toks) (fun b o hb e=>(sb.2 b hb).trans e) f0 f1 f3 f4 f5;obtain⟨o,e,c,d⟩:=id st';exact⟨u,rfl,z3f e c d (by decide) ⟨x,H,I1,ru,⟨rfl,fun ys hy=>by rw[I.list_inj hy hq];exact hx⟩,st',fun b hb=>(hf b hb).1⟩⟩
 done:=by
  intro X hP hw hK hc i pins s σ H E I hf st hg;subst hP hw hK;obtain⟨xs,hq,hx⟩:=hg;obtain⟨its,rv,p,hz⟩:=I.list hq;obtain⟨f0,f1,f2,f3,f4,f5⟩:=hf it (by simp);have hl:=rv.length;exact wpAny_pyNext_list_end (I.ok.hd hc) st p.isList (by simp;lia) fun h' eb=>⟨rfl,I.turned (t':=s.toks) (fun b o hb e=>eb b o hb e) f0 f1 f3 f4 f5⟩
 self:=fun _ _ _ _ _ st h=>wpAny_pyIter_listiter st h
theorem z3g{K:Ae}(a it:Addr):Turn P w K tg (Itt K a) [it] it (fun i h=>h.IsTupleIter it a i) where
 mem:=by simp
 obj:=fun i h st b hb=>by
  have e:b=it:=by grind
  subst e;obtain⟨o,e,c,d⟩:=st;exact⟨o,e,fun v z=>by rw[d] at z;cases z⟩
 keep:=fun i h h' st k=>st.at fun o e=>k it (by simp) o e
 item:=by
  intro X hP hw hK hc i pins s σ H E I hf st hg;subst hP hw hK;obtain⟨xs,x,hq,hx⟩:=hg;obtain⟨its,rv,p,hz⟩:=I.tuple hq;obtain⟨u,hu,ru⟩:=rv.get hx;obtain⟨f0,f1,f2,f3,f4,f5⟩:=hf it (by simp);refine wpAny_pyNext_tuple_item st (show s.heap.IsTuple a its.toArray from p) (by simpa using hu) fun h' st' sb=>?_;have I1:Inv X pins σ H { s with heap:=h' }:=I.turned (t':=s.toks) (fun b o hb e=>(sb.2 b hb).trans e) f0 f1 f3 f4 f5;obtain⟨o,e,c,d⟩:=id st';exact⟨u,rfl,z3f e c d (by decide) ⟨x,H,I1,ru,⟨rfl,fun ys hy=>by rw[I.tuple_inj hy hq];exact hx⟩,st',fun b hb=>(hf b hb).1⟩⟩
 done:=by
  intro X hP hw hK hc i pins s σ H E I hf st hg;subst hP hw hK;obtain⟨xs,hq,hx⟩:=hg;obtain⟨its,rv,p,hz⟩:=I.tuple hq;obtain⟨f0,f1,f2,f3,f4,f5⟩:=hf it (by simp);have hl:=rv.length;exact wpAny_pyNext_tuple_end (I.ok.hd hc) st (show s.heap.IsTuple a its.toArray from p) (by simp;lia) fun h' eb=>⟨rfl,I.turned (t':=s.toks) (fun b o hb e=>eb b o hb e) f0 f1 f3 f4 f5⟩
 self:=fun _ _ _ _ _ st h=>wpAny_pyIter_tupleiter st h
theorem z3h{K:Ih}(it:Addr)(lo:Int)(n:Nat):Turn P w K tg (Itr lo n) [it] it (fun i h=>IsRangeIter h it (lo+(i:Nat)*1) ((n:Int)-(i:Nat)) 1) where
 mem:=by simp
 obj:=fun i h st b hb=>by
  have e:b=it:=by grind
  subst e;exact⟨_,st,fun v z=>by
   have z':=z;cases z'⟩
 keep:=fun i h h' st k=>k it (by simp) _ st
 item:=by
  intro X hP hw hK hc i pins s σ H E I hf st hg;subst hP hw hK;obtain⟨f0,f1,f2,f3,f4,f5⟩:=hf it (by simp);have W:=Walks.range (prog:=X.prog) (w:=X.w) (I.ok.hd hc) it lo 1 n;refine W.item i s _ _ hg st fun v h' tk hv st' kk=>?_;obtain⟨t,rfl⟩:=hv;have I1:Inv X pins σ H { s with heap:=h',toks:=tk }:=I.turned (fun b o hb e=>kk b o (by simpa using hb) e) f0 f1 f3 f4 f5;refine⟨_,rfl,z3f st' rfl rfl (by decide) ⟨.int (lo+i),H,I1,⟨t,?_⟩,⟨rfl,rfl⟩,st',fun b hb=>(hf b hb).1⟩⟩;rw[Int.mul_one]
 done:=by
  intro X hP hw hK hc i pins s σ H E I hf st hg;obtain⟨f0,f1,f2,f3,f4,f5⟩:=hf it (by simp);exact wpAny_pyNext_range_end (I.ok.hd hc) st (by have:n<=i:=hg;lia) fun h' eb=>⟨rfl,I.turned (t':=s.toks) (fun b o hb e=>eb b o hb e) f0 f1 f3 f4 f5⟩
 self:=fun _ _ _ _ _ st h=>wpAny_pyIter_rangeiter st h
open PySem PySem.Spec PyProof.Rows
section
variable{X:Cx}{tg:Expr}
def iList(K:Ae)(tl:TE):TI:=fun σ H R=>tl σ H fun x H1=>∃a,x=.ref a/\(∃xs,SqL K H1 a xs)/\R (Itl K a) H1
theorem x0t(hl:PE X l tl):PI X tg l (iList X.K tl):=by
 intro pins s σ H R I h;refine thn (hl pins s σ H _ I h) fun v s1 ⟨x,H1,I1,r1,q1⟩=>?_;obtain⟨a,e,⟨xs,hq⟩,q⟩:=q1;subst e;cases r1;obtain⟨its,rv,p,hz⟩:=I1.list hq;refine Jv p.isList ?_;refine⟨s1.heap.objs.size,[s1.heap.objs.size],_,_,H1,rfl,I1.kept (t':=s1.toks) fun b o e=>Ak _ e,q9d a _,⟨_,Bc _ rfl,rfl,rfl⟩,fun b hb=>?_,q⟩;have e:b=s1.heap.objs.size:=by grind
 subst e;exact I1.fpOk (Af _) (I1.hok.fresh (Af _))
theorem z1w{σ:St}{lo:Int}(I:Inv X pins σ H s)(h1 : -(2^62)<=lo)(h2:lo<2^62)(h3 : -(2^62)<=hi)(h4:hi<2^62)(q:R (Itr lo (hi-lo).toNat) H):wpAny (model X.prog X.w) X.A (Hn (.ref s.heap.objs.size)) (PIE X pins σ tg R) E { s with heap:=s.heap.push { cls:=.type "range",data:=.fields #[.int lo t,.int hi u,.int 1 v] },toks:=tk }:=by
 refine wpAny_pyIter_range (IsRange.new ..) (small_one h1 h2 h3 h4) ?_;have I1:Inv X pins σ H { s with heap:=s.heap.push { cls:=.type "range",data:=.fields #[.int lo t,.int hi u,.int 1 v] },toks:=tk }:=I.kept fun b o e=>Ak _ e;refine⟨(s.heap.push { cls:=.type "range",data:=.fields #[.int lo t,.int hi u,.int 1 v] }).objs.size,[(s.heap.push { cls:=.type "range",data:=.fields #[.int lo t,.int hi u,.int 1 v] }).objs.size],_,_,H,rfl,
  I1.kept (t':=tk) fun b o e=>Ak _ e,z3h _ lo (hi-lo).toNat,?_,fun b hb=>?_,q⟩
 ·have e1:lo+((0:Nat):Int)*1=lo:=by simp
  have e2:(((hi-lo).toNat:Nat):Int)-((0:Nat):Int)=Ee.Range.rangeSize lo hi 1:=by rw[rangeSize_one];split<;>lia
  rw[e1,e2];exact Bc _ rfl
 ·have e:b=(s.heap.push { cls:=.type "range",data:=.fields #[.int lo t,.int hi u,.int 1 v] }).objs.size:=by simpa using hb
  subst e;exact I1.fpOk (Af _) (I1.hok.fresh (Af _))
def iRng1(ta:TA):TI:=fun σ H R=>ta σ H fun vs H1=>∃j:Int,vs=[.int j] /\ -(2^62)<=j/\j<2^62/\R (Itr 0 j.toNat) H1
def iRng2(ta:TA):TI:=fun σ H R=>ta σ H fun vs H1=>∃i j:Int,vs=[.int i,.int j]/\(-(2^62)<=i/\i<2^62 /\ -(2^62)<=j/\j<2^62)/\R (Itr i (j-i).toNat) H1
theorem q1v{a:Expr}{ta:TA}{p pos:Pos}(hg:Gl X "range")(hm:X.mg "range" = none)(ha:PA X [a] ta)(hs:Be [a] X.env=[(false,eval a X.env)]:=by rfl):PI X tg (.Call (.Name "range" p) [a] [] pos) (iRng1 ta):=by
 intro pins s σ H R I h;refine Call_ (q4q I hg hm boot_range (Cr (thn (ha pos pins s σ H _ I h) fun us s1 ⟨vs,H1,I1,r1,q1⟩=>?_) hs rfl));obtain⟨j,e,q1,q2,q⟩:=q1;subst e;cases r1 with
 |cons r rr =>
  cases rr;obtain⟨t,rfl⟩:=r;exact call_range_1 (z1w I1 (by lia) (by lia) q1 q2 (by simpa using q))
theorem z4m{a b:Expr}{ta:TA}{p pos:Pos}(hg:Gl X "range")(hm:X.mg "range" = none)(ha:PA X [a,b] ta)(hs:Be [a,b] X.env=[(false,eval a X.env),(false,eval b X.env)]:=by rfl)(hs2:Be [b] X.env=[(false,eval b X.env)]:=by rfl):
  PI X tg (.Call (.Name "range" p) [a,b] [] pos) (iRng2 ta):=by
 intro pins s σ H R I h;refine Call_ (q4q I hg hm boot_range (Cr (thn (ha pos pins s σ H _ I h) fun us s1 ⟨vs,H1,I1,r1,q1⟩=>?_) (by rw[hs,hs2]) (by rw[hs2];rfl)));obtain⟨i,j,e,⟨q1,q2,q3,q4⟩,q⟩:=q1;subst e;cases r1 with
 |cons r rr =>
  cases rr with
  |cons r' rr =>
   cases rr;obtain⟨t,rfl⟩:=r;obtain⟨t',rfl⟩:=r';exact call_range_2 (z1w I1 q1 q2 q3 q4 q)
def tFor(wi:TI)(g:TG)(tb:TS):TS:=fun D σ H=>wi σ H fun J H1=>∃W:Nat->Nat->St->Hp->Prop,(∃m,W 0 m σ H1)/\∀i m σ H,W i m σ H ->
 (J.stop i H/\D.nx σ H)\/(J.go i H/\∃N:St->Hp->Prop,(∀σ' H',N σ' H'->∃m',m'<m/\W (i+1) m' σ' H')/\∀x H',J.yld i H x H'->g x σ H' fun σ2 H2=>tb { D with nx:=N,ct:=N,bk:=D.nx } σ2 H2)
def pinsAt(fp:List Addr)(h:Heap):List (Addr×Obj):=fp.filterMap fun b=>(h.get? b).map fun o=>(b,o)
theorem q1n(hb:b∈fp)(e:h.get? b=some o):(b,o)∈pinsAt fp h:=Na.mpr ⟨b,hb,by rw[e];rfl⟩
theorem z4n(hp:p∈pinsAt fp h):p.1∈fp/\h.get? p.1=some p.2:=by
 obtain⟨b,hb,e⟩:=Na.mp hp;cases q:h.get? b with
 |none=>rw[q] at e;cases e
 |some o =>
  rw[q] at e;have e':=Bq e;subst e';exact⟨hb,q⟩
theorem Inv.pinned{σ:St}(I:Inv X pins σ H s)(hf:∀b∈fp,FpOk X pins H b)(ho:∀b∈fp,∃o,s.heap.get? b=some o/\∀v,o.data≠.cell v):Inv X (pins++pinsAt fp s.heap) σ H s :=
 I.pins_of fun p hp=>(Aw.mp hp).elim (fun z=>I.pin p (Av _ z)) fun z=>by
  obtain⟨hb,e⟩:=z4n z;obtain⟨f0,f1,f2,_⟩:=hf p.1 hb;obtain⟨o,e',d⟩:=ho p.1 hb;rw[e] at e';cases e';exact⟨e,f0,f1,f2,d⟩
theorem Inv.unpinned{σ:St}(I:Inv X (pins++pl) σ H s):Inv X pins σ H s:=I.pins_of fun p hp=>I.pin p (Av _ (Bu _ hp))
theorem q1h{iter:Expr}{body:List Stmt}{wi:TI}{g:TG}{tb:TS}{pos:Pos}(hp:PassesOwn (model X.prog X.w) X.A X.env X.xe)(hc:X.calm=true)(hi:PI X tg iter wi)(hg:PG X tg g)(hb:PSs X body tb)(hs:∀x,Ea iter X.env x=pure x:=by intro _;rfl):PS X (.For tg iter body [] pos) (tFor wi g tb):=by
 intro pins s σ H D I h;refine wpAny_For (thn (hi pins s σ H _ I h) fun v s1 h1=>thn h1 fun itv s2 h2=>?_) hs;obtain⟨it,fp,tn,J,H2,e,I2,T,st2,f2,W,⟨m0,w0⟩,turn⟩:=h2;subst e;have stat:∀{H':Hp},(∀b∈fp,H' b=none)->∀b∈fp,FpOk X pins H' b:=fun hn b hb=>⟨hn b hb,(f2 b hb).2⟩
 refine codeAny_forLoop_any (fun n s'=>∃i σ' H',Inv X pins σ' H' s'/\tn i s'.heap/\(∀b∈fp,H' b=none)/\W i n σ' H') ?_ m0 ⟨0,σ,H2,I2,st2,fun b hb=>(f2 b hb).1,w0⟩;rintro n s3 ⟨i,σ3,H3,I3,st3,fr3,w3⟩;rcases turn i n σ3 H3 w3 with⟨stop,qn⟩|⟨go,N,hN,step⟩
 ·refine Ei hp (thn (T.done X rfl rfl rfl hc i pins s3 σ3 H3 X.xe I3 (stat fr3) st3 stop) fun r s4 ⟨hr,I4⟩=>?_);subst hr;exact Ie ⟨σ3,H3,I4,qn⟩
 ·refine Ei hp (thn (T.item X rfl rfl rfl hc i pins s3 σ3 H3 X.xe I3 (stat fr3) st3 go) fun r s4 ⟨u,hr,h4⟩=>?_);subst hr;refine Ei hp (thn h4 fun _ s5 ⟨x,H5,I5,r5,y5,st5,fr5⟩=>?_);have I5':=I5.pinned (stat fr5) (T.obj _ _ st5);refine Ei hp (thn (hg _ s5 σ3 H5 x u _ I5' r5 (step x H5 y5)) fun _ s6 ⟨σ6,H6,I6,q6⟩=>?_);refine Ei hp (thn (hb _ s6 σ6 H6 _ I6 q6) fun f s7 q7=>?_);have again:∀{σ7:St} {H7:Hp},Inv X (pins++pinsAt fp s5.heap) σ7 H7 s7->N σ7 H7->∃m,m<n/\∃i σ' H',Inv X pins σ' H' s7/\tn i s7.heap/\(∀b∈fp,H' b=none)/\W i m σ' H':=fun{σ7 H7} I7 n7=>by
   obtain⟨m',hm,w7⟩:=hN σ7 H7 n7;refine⟨m',hm,i+1,σ7,H7,I7.unpinned,T.keep _ _ _ st5 fun b hb o e=>(I7.pin (b,o) (Av _ (Av _ (q1n hb e)))).1,fun b hb=>?_,w7⟩;obtain⟨o,e,d⟩:=T.obj _ _ st5 b hb;exact(I7.pin (b,o) (Av _ (Av _ (q1n hb e)))).2.1
  cases f with
  |next=>obtain⟨σ7,H7,I7,n7⟩:=q7;exact again I7 n7
  |cont=>obtain⟨σ7,H7,I7,n7⟩:=q7;exact again I7 n7
  |brk=>obtain⟨σ7,H7,I7,q7⟩:=q7;exact⟨σ7,H7,I7.unpinned,q7⟩
  |ret v=>obtain⟨x7,σ7,H7,I7,r7,q7⟩:=q7;exact⟨x7,σ7,H7,I7.unpinned,r7,q7⟩
end
theorem q1z{K:Ih}{g:TG}{tb:TS}{D:Ends}(Pv:Nat->St->Hp->Prop)(h0:Pv 0 σ H)(hl:∀i σ H,i<=xs.length->Pv i σ H->SqL K H a xs)(hs:∀i x σ H,xs[i]?=some x->Pv i σ H->g x σ H fun σ2 H2=>tb { D with nx:=Pv (i+1),ct:=Pv (i+1),bk:=D.nx } σ2 H2)(hd:∀σ H,Pv xs.length σ H->D.nx σ H):
  ∃W:Nat->Nat->St->Hp->Prop,(∃m,W 0 m σ H)/\∀i m σ H,W i m σ H ->
   ((Itl K a).stop i H/\D.nx σ H)\/((Itl K a).go i H/\∃N:St->Hp->Prop,(∀σ' H',N σ' H'->∃m',m'<m/\W (i+1) m' σ' H')/\∀x H',(Itl K a).yld i H x H'->g x σ H' fun σ2 H2=>tb { D with nx:=N,ct:=N,bk:=D.nx } σ2 H2):=by
 refine⟨fun i m σ H=>m=xs.length-i/\i<=xs.length/\Pv i σ H,⟨xs.length,by simp,Au _,h0⟩,?_⟩;rintro i m σ H ⟨rfl,hi,p⟩;have q:=hl i σ H hi p;by_cases hlt:i<xs.length
 ·refine .inr ⟨⟨xs,xs[i],q,by simp[hlt]⟩,Pv (i+1),fun σ' H' p'=>⟨xs.length-(i+1),by lia,rfl,hlt,p'⟩,fun x H' y=>?_⟩;obtain⟨e,y⟩:=y;subst e;exact hs i x σ _ (y xs q) p
 ·have e:i=xs.length:=by lia
  subst e;exact .inl ⟨⟨xs,q,Af _⟩,hd σ H p⟩
theorem x0u{K:Ih}{g:TG}{tb:TS}{D:Ends}(Pv:Nat->St->Hp->Prop)(h0:Pv 0 σ H)(hl:∀i σ H,i<=xs.length->Pv i σ H->SqT K H a xs)(hs:∀i x σ H,xs[i]?=some x->Pv i σ H->g x σ H fun σ2 H2=>tb { D with nx:=Pv (i+1),ct:=Pv (i+1),bk:=D.nx } σ2 H2)(hd:∀σ H,Pv xs.length σ H->D.nx σ H):
  ∃W:Nat->Nat->St->Hp->Prop,(∃m,W 0 m σ H)/\∀i m σ H,W i m σ H ->
   ((Itt K a).stop i H/\D.nx σ H)\/((Itt K a).go i H/\∃N:St->Hp->Prop,(∀σ' H',N σ' H'->∃m',m'<m/\W (i+1) m' σ' H')/\∀x H',(Itt K a).yld i H x H'->g x σ H' fun σ2 H2=>tb { D with nx:=N,ct:=N,bk:=D.nx } σ2 H2):=by
 refine⟨fun i m σ H=>m=xs.length-i/\i<=xs.length/\Pv i σ H,⟨xs.length,by simp,Au _,h0⟩,?_⟩;rintro i m σ H ⟨rfl,hi,p⟩;have q:=hl i σ H hi p;by_cases hlt:i<xs.length
 ·refine .inr ⟨⟨xs,xs[i],q,by simp[hlt]⟩,Pv (i+1),fun σ' H' p'=>⟨xs.length-(i+1),by lia,rfl,hlt,p'⟩,fun x H' y=>?_⟩;obtain⟨e,y⟩:=y;subst e;exact hs i x σ _ (y xs q) p
 ·have e:i=xs.length:=by lia
  subst e;exact .inl ⟨⟨xs,q,Af _⟩,hd σ H p⟩
theorem q1w{lo:Int}{g:TG}{tb:TS}{D:Ends}(Pv:Nat->St->Hp->Prop)(h0:Pv 0 σ H)(hs:∀i σ H,i<n->Pv i σ H->g (.int (lo+i)) σ H fun σ2 H2=>tb { D with nx:=Pv (i+1),ct:=Pv (i+1),bk:=D.nx } σ2 H2)(hd:∀σ H,Pv n σ H->D.nx σ H):
  ∃W:Nat->Nat->St->Hp->Prop,(∃m,W 0 m σ H)/\∀i m σ H,W i m σ H ->
   ((Itr lo n).stop i H/\D.nx σ H)\/((Itr lo n).go i H/\∃N:St->Hp->Prop,(∀σ' H',N σ' H'->∃m',m'<m/\W (i+1) m' σ' H')/\∀x H',(Itr lo n).yld i H x H'->g x σ H' fun σ2 H2=>tb { D with nx:=N,ct:=N,bk:=D.nx } σ2 H2):=by
 refine⟨fun i m σ H=>m=n-i/\i<=n/\Pv i σ H,⟨n,by simp,Au _,h0⟩,?_⟩;rintro i m σ H ⟨rfl,hi,p⟩;by_cases hlt:i<n
 ·refine .inr ⟨hlt,Pv (i+1),fun σ' H' p'=>⟨n-(i+1),by lia,rfl,hlt,p'⟩,fun x H' y=>?_⟩;obtain⟨e,y⟩:=y;subst e y;exact hs i σ _ hlt p
 ·have e:i=n:=by lia
  subst e;exact .inl ⟨Af _,hd σ H p⟩
theorem q7h(Pv:St->Hp->Prop)(μ:St->Hp->Nat)(h0:Pv σ H)(hs:∀σ H,Pv σ H->c σ H fun b H1=>if b=true then tb { D with nx:=fun σ' H'=>Pv σ' H'/\μ σ' H'<μ σ H,ct:=fun σ' H'=>Pv σ' H'/\μ σ' H'<μ σ H,bk:=D.nx } σ H1 else D.nx σ H1)(mono:∀σ H Q Q',(∀b H1,Q b H1->Q' b H1)->c σ H Q->c σ H Q'):tWhile c tb D σ H:=by
 refine⟨fun m σ H=>m=μ σ H/\Pv σ H,⟨_,rfl,h0⟩,?_⟩;rintro m σ H ⟨rfl,p⟩;refine mono σ H _ _ (fun b H1 q=>?_) (hs σ H p);cases b with
 |true=>exact⟨_,fun σ' H' ⟨p',l⟩=>⟨_,l,rfl,p'⟩,q⟩
 |false=>exact q
open PySem PySem.Spec PyProof.Rows
abbrev R2:=V->V->Hp->VK->Prop
def OpR(X:Cx)(f:Value->Value->Sem Value)(r:R2):Prop :=
 ∀(pins:List (Addr×Obj)) (s:Ag) (σ:St) (H:Hp) (x y:V) (v u:Value) (Q:VK),Inv X pins σ H s->RelV x v->RelV y u->r x y H Q ->
  wpAny (model X.prog X.w) X.A (f v u) (EP X pins σ Q) X.xe s
def UnR(X:Cx)(f:Value->Sem Value)(r:V->Hp->VK->Prop):Prop :=
 ∀(pins:List (Addr×Obj)) (s:Ag) (σ:St) (H:Hp) (x:V) (v:Value) (Q:VK),Inv X pins σ H s->RelV x v->r x H Q ->
  wpAny (model X.prog X.w) X.A (f v) (EP X pins σ Q) X.xe s
def CallR(X:Cx)(f:Value)(r:List V->Hp->VK->Prop):Prop :=
 ∀(pins:List (Addr×Obj)) (s:Ag) (σ:St) (H:Hp) (xs:List V) (us:List Value) (Q:VK),Inv X pins σ H s->Vals xs us->r xs H Q ->
  wpAny (model X.prog X.w) X.A (call f us) (EP X pins σ Q) X.xe s
def TruR(X:Cx)(r:V->Hp->(Bool->Hp->Prop)->Prop):Prop :=
 ∀(pins:List (Addr×Obj)) (s:Ag) (σ:St) (H:Hp) (x:V) (v:Value) (Q:Bool->Hp->Prop),Inv X pins σ H s->RelV x v->r x H Q ->
  wpAny (model X.prog X.w) X.A (truthy v) (TP X pins σ Q) X.xe s
def tOp(r:R2)(ta tb:TE):TE:=fun σ H Q=>ta σ H fun x H1=>tb σ H1 fun y H2=>r x y H2 Q
def tUn(r:V->Hp->VK->Prop)(ta:TE):TE:=fun σ H Q=>ta σ H fun x H1=>r x H1 Q
def rI(C:Int->Int->Prop)(g:Int->Int->V):R2:=fun x y H Q=>∃i j,x=.int i/\y=.int j/\C i j/\Q (g i j) H
def rI0(g:Int->Int->V):R2:=fun x y H Q=>∃i j,x=.int i/\y=.int j/\Q (g i j) H
def rU(g:Int->V):V->Hp->VK->Prop:=fun x H Q=>∃i,x=.int i/\Q (g i) H
section
variable{X:Cx}{a b c:Expr}{ta tb tc:TE}{pos:Pos}
theorem binT(ha:PE X a ta)(hb:PE X b tb){σ:St}{R:V->V->Hp->Prop}(I:Inv X pins σ H s)(h:ta σ H fun x H1=>tb σ H1 fun y H2=>R x y H2){f:Value->Value->Sem Value}(hf:∀v u s2 x y H2,Inv X pins σ H2 s2->RelV x v->RelV y u->R x y H2->wpAny (model X.prog X.w) X.A (f v u) Q X.xe s2):
  wpAny (model X.prog X.w) X.A (eval a X.env) (fun v s₁=>wpAny (model X.prog X.w) X.A (eval b X.env) (fun u s₂=>wpAny (model X.prog X.w) X.A (f v u) Q X.xe s₂) X.xe s₁) X.xe s:=by
 refine thn (ha pins s σ H _ I h) fun v s1 ⟨x,H1,I1,r1,q1⟩=>?_;refine thn (hb pins s1 σ H1 _ I1 q1) fun u s2 ⟨y,H2,I2,r2,q2⟩=>?_;exact hf v u s2 x y H2 I2 r1 r2 q2
theorem q0s{op:Operator}{r:R2}(ho:OpR X (Ek op) r)(ha:PE X a ta)(hb:PE X b tb):PE X (.BinOp a op b pos) (tOp r ta tb):=by
 intro pins s σ H Q I h;exact wpAny_BinOp (binT ha hb I h fun v u s2 x y H2 I2 rx ry q=>ho pins s2 σ H2 x y v u Q I2 rx ry q)
theorem z3i{op:UnaryOp}{r:V->Hp->VK->Prop}(ho:UnR X (unaryOp op) r)(ha:PE X a ta):PE X (.UnaryOp op a pos) (tUn r ta):=by
 intro pins s σ H Q I h;exact UnaryOp_ (thn (ha pins s σ H _ I h) fun v s1 ⟨x,H1,I1,r1,q1⟩=>ho pins s1 σ H1 x v Q I1 r1 q1)
theorem opI{g:Int->Int->Int}(rule:∀(i j:Int) (t u:Tok) (s:Ag) (Q:Value->Ag->Prop) (E:Value->Ag->Prop),C i j->Q (.int (g i j) s.toks) { s with toks:=s.toks+1 }->wpAny (model X.prog X.w) X.A (f (.int i t) (.int j u)) Q E s):
  OpR X f (rI C fun i j=>.int (g i j)):=by
 intro pins s σ H x y v u Q I rx ry h;obtain⟨i,j,rfl,rfl,hc,q⟩:=h;obtain⟨t,rfl⟩:=rx;obtain⟨t',rfl⟩:=ry;exact rule i j t t' s _ _ hc ⟨.int (g i j),H,I.tok _,⟨_,rfl⟩,q⟩
theorem opI0{g:Int->Int->Int}(rule:∀(i j:Int) (t u:Tok) (s:Ag) (Q:Value->Ag->Prop) (E:Value->Ag->Prop),Q (.int (g i j) s.toks) { s with toks:=s.toks+1 }->wpAny (model X.prog X.w) X.A (f (.int i t) (.int j u)) Q E s):
  OpR X f (rI0 fun i j=>.int (g i j)):=by
 intro pins s σ H x y v u Q I rx ry h;obtain⟨i,j,rfl,rfl,q⟩:=h;obtain⟨t,rfl⟩:=rx;obtain⟨t',rfl⟩:=ry;exact rule i j t t' s _ _ ⟨.int (g i j),H,I.tok _,⟨_,rfl⟩,q⟩
theorem opB0{g:Int->Int->Bool}(rule:∀(i j:Int) (t u:Tok) (s:Ag) (Q:Value->Ag->Prop) (E:Value->Ag->Prop),Q (.bool (g i j)) s->wpAny (model X.prog X.w) X.A (f (.int i t) (.int j u)) Q E s):
  OpR X f (rI0 fun i j=>.bl (g i j)):=by
 intro pins s σ H x y v u Q I rx ry h;obtain⟨i,j,rfl,rfl,q⟩:=h;obtain⟨t,rfl⟩:=rx;obtain⟨t',rfl⟩:=ry;exact rule i j t t' s _ _ ⟨.bl (g i j),H,I,rfl,q⟩
def CDiv(i j:Int):Prop:=0<j/\j<1073741824
def CPow(i j:Int):Prop:=0<=j/\j<=1000000/\i.natAbs<2^64
def CMul(i j:Int):Prop:=(-(2^64)<i/\i<2^64)\/(-(2^64)<j/\j<2^64)
theorem CMul.ok(h:CMul i j):IntMulOk i j:=by
 rcases h with⟨h1,h2⟩|⟨h1,h2⟩
 ·exact .of_left (intBits_le_64 h1 h2)
 ·exact .of_right (intBits_le_64 h1 h2)
theorem op_add:OpR X (Ek .Add) (rI0 fun i j=>.int (i+j)):=opI0 fun _ _ _ _ _ _ _ q=>add_int q
theorem z1x:OpR X (Ek .Sub) (rI0 fun i j=>.int (i-j)):=opI0 fun _ _ _ _ _ _ _ q=>sub_int q
theorem op_mul:OpR X (Ek .Mult) (rI CMul fun i j=>.int (i*j)):=opI fun _ _ _ _ _ _ _ hc q=>mul_int q hc.ok
theorem z4o:OpR X (Ek .FloorDiv) (rI CDiv fun i j=>.int (i / j)):=opI fun i j _ _ _ _ _ hc q=>by
 have h1:=hc.1;have h2:=hc.2;exact floordiv_int (by lia) (by rw[Int.fdiv_eq_ediv_of_nonneg i (by lia)];exact q) (.inl (PyProof.noPylong_small (by lia)))
theorem q6p:OpR X (Ek .Mod) (rI (fun _ j=>0<j) fun i j=>.int (i%j)):=opI fun i j _ _ _ _ _ hc q=>by
 exact mod_int' (by lia) (by rw[Int.fmod_eq_emod_of_nonneg i (by lia)];exact q)
theorem z9m:OpR X (Ek .Pow) (rI CPow fun i j=>.int (i^j.toNat)):=opI fun _ _ _ _ _ _ _ hc q=>pow_int_small hc.1 hc.2.1 hc.2.2 q
theorem z4p:OpR X (Mz .Add) (rI0 fun i j=>.int (i+j)):=opI0 fun _ _ _ _ _ _ _ q=>iadd_int q
theorem unI{g:Int->Int}(rule:∀(i:Int) (t:Tok) (s:Ag) (Q:Value->Ag->Prop) (E:Value->Ag->Prop),Q (.int (g i) s.toks) { s with toks:=s.toks+1 }->wpAny (model X.prog X.w) X.A (f (.int i t)) Q E s):
  UnR X f (rU fun i=>.int (g i)):=by
 intro pins s σ H x v Q I rx h;obtain⟨i,rfl,q⟩:=h;obtain⟨t,rfl⟩:=rx;exact rule i t s _ _ ⟨.int (g i),H,I.tok _,⟨_,rfl⟩,q⟩
theorem q6q:UnR X (unaryOp .USub) (rU fun i=>.int (-i)):=unI fun _ _ _ _ _ q=>neg_int q
end
def scal:V->V->Bool
 |.non,.non=>true|.non,.int _=>true|.int _,.non=>true|.non,.bl _=>true|.bl _,.non=>true|.non,.str _=>true|.str _,.non=>true
 |.int _,.int _=>true|.bl _,.bl _=>true|.str _,.str _=>true|.byt _,.byt _=>true
 |.int _,.str _=>true|.str _,.int _=>true|.bl _,.str _=>true|.str _,.bl _=>true
 |_,_=>false
def rEq:R2:=fun x y H Q=>scal x y=true/\Q (.bl (decide (x=y))) H
def rNe:R2:=fun x y H Q=>scal x y=true/\Q (.bl (!decide (x=y))) H
theorem z4q:decide (V.int i=V.int j)=(i==j):=by
 rw[Fe];simp
theorem z9n:decide (V.bl i=V.bl j)=(i==j):=by
 rw[Fe];simp
theorem dec_str:decide (V.str i=V.str j)=(i==j):=by
 rw[Fe];simp
theorem z4r:decide (V.byt i=V.byt j)=(i.toList==j.toList):=by
 rw[Fe];cases i;cases j;simp
section
variable{X:Cx}{a b c:Expr}{ta tb tc:TE}{pos:Pos}
theorem q1a{σ:St}(I:Inv X pins σ H s)(q:Q (.bl k) H)(e:k=k'):EP X pins σ Q (.bool k') s:=by
 subst e;exact⟨.bl k,H,I,rfl,q⟩
theorem op_eq:OpR X (Ck .Eq) rEq:=by
 intro pins s σ H x y v u Q I rx ry h;obtain⟨hs,q⟩:=h;cases x with
 |non =>
  cases rx;cases y with
  |non=>cases ry;exact PySem.EqNone.eq_none_none (q1a I q (by simp))
  |bl j=>cases ry;exact PySem.EqNone.eq_none_bool (q1a I q (by simp))
  |int j=>obtain⟨t',rfl⟩:=ry;exact PySem.EqNone.eq_none_int (q1a I q (by simp))
  |str j=>obtain⟨t',rfl⟩:=ry;exact PySem.EqNone.eq_none_str (q1a I q (by simp))
  |_=>exact absurd (show false=true from hs) Bf
 |bl i =>
  cases rx;cases y with
  |non=>cases ry;exact PySem.EqNone.eq_bool_none (q1a I q (by simp))
  |bl j=>cases ry;exact eq_bool (q1a I q z9n)
  |str j=>obtain⟨t',rfl⟩:=ry;exact PySem.EqMixed.eq_bool_str (q1a I q (by simp))
  |_=>exact absurd (show false=true from hs) Bf
 |int i =>
  obtain⟨t,rfl⟩:=rx;cases y with
  |non=>cases ry;exact PySem.EqNone.eq_int_none (q1a I q (by simp))
  |int j=>obtain⟨t',rfl⟩:=ry;exact eq_int (q1a I q z4q)
  |str j=>obtain⟨t',rfl⟩:=ry;exact PySem.EqMixed.eq_int_str (q1a I q (by simp))
  |_=>exact absurd (show false=true from hs) Bf
 |str i =>
  obtain⟨t,rfl⟩:=rx;cases y with
  |non=>cases ry;exact PySem.EqNone.eq_str_none (q1a I q (by simp))
  |bl j=>cases ry;exact PySem.EqMixed.eq_str_bool (q1a I q (by simp))
  |int j=>obtain⟨t',rfl⟩:=ry;exact PySem.EqMixed.eq_str_int (q1a I q (by simp))
  |str j=>obtain⟨t',rfl⟩:=ry;exact eq_str (q1a I q dec_str)
  |_=>exact absurd (show false=true from hs) Bf
 |byt i =>
  obtain⟨t,rfl⟩:=rx;cases y with
  |byt j=>obtain⟨t',rfl⟩:=ry;exact W.eq_bytes (q1a I q z4r)
  |_=>exact absurd (show false=true from hs) Bf
 |_=>cases y<;>exact absurd (show false=true from hs) Bf
theorem op_ne:OpR X (Ck .NotEq) rNe:=by
 intro pins s σ H x y v u Q I rx ry h;obtain⟨hs,q⟩:=h;cases x with
 |non =>
  cases rx;cases y with
  |non=>cases ry;exact PySem.EqNone.ne_none_none (q1a I q (by simp))
  |bl j=>cases ry;exact PySem.EqNone.ne_none_bool (q1a I q (by simp))
  |int j=>obtain⟨t',rfl⟩:=ry;exact PySem.EqNone.ne_none_int (q1a I q (by simp))
  |str j=>obtain⟨t',rfl⟩:=ry;exact PySem.EqNone.ne_none_str (q1a I q (by simp))
  |_=>exact absurd (show false=true from hs) Bf
 |bl i =>
  cases rx;cases y with
  |non=>cases ry;exact PySem.EqNone.ne_bool_none (q1a I q (by simp))
  |bl j=>cases ry;exact ne_bool (q1a I q (congrArg not z9n))
  |str j=>obtain⟨t',rfl⟩:=ry;exact PySem.EqMixed.ne_bool_str (q1a I q (by simp))
  |_=>exact absurd (show false=true from hs) Bf
 |int i =>
  obtain⟨t,rfl⟩:=rx;cases y with
  |non=>cases ry;exact PySem.EqNone.ne_int_none (q1a I q (by simp))
  |int j=>obtain⟨t',rfl⟩:=ry;exact ne_int (q1a I q (congrArg not z4q))
  |str j=>obtain⟨t',rfl⟩:=ry;exact PySem.EqMixed.ne_int_str (q1a I q (by simp))
  |_=>exact absurd (show false=true from hs) Bf
 |str i =>
  obtain⟨t,rfl⟩:=rx;cases y with
  |non=>cases ry;exact PySem.EqNone.ne_str_none (q1a I q (by simp))
  |bl j=>cases ry;exact PySem.EqMixed.ne_str_bool (q1a I q (by simp))
  |int j=>obtain⟨t',rfl⟩:=ry;exact PySem.EqMixed.ne_str_int (q1a I q (by simp))
  |str j=>obtain⟨t',rfl⟩:=ry;exact ne_str (q1a I q (congrArg not dec_str))
  |_=>exact absurd (show false=true from hs) Bf
 |byt i =>
  obtain⟨t,rfl⟩:=rx;cases y with
  |byt j=>obtain⟨t',rfl⟩:=ry;exact W.ne_bytes (q1a I q (congrArg not z4r))
  |_=>exact absurd (show false=true from hs) Bf
 |_=>cases y<;>exact absurd (show false=true from hs) Bf
theorem z7n:OpR X (Ck .Lt) (rI0 fun i j=>.bl (decide (i<j))):=opB0 fun _ _ _ _ _ _ _ q=>lt_int q
theorem q5h:OpR X (Ck .Gt) (rI0 fun i j=>.bl (decide (j<i))):=opB0 fun _ _ _ _ _ _ _ q=>gt_int q
theorem op_ge:OpR X (Ck .GtE) (rI0 fun i j=>.bl (decide (j<=i))):=opB0 fun _ _ _ _ _ _ _ q=>ge_int q
theorem op_in_str:OpR X (Ck .In) (fun x y H Q=>∃i j,x=.str i/\y=.str j/\Q (.bl (!(Dc j i 0 j.length 1).isEmpty)) H):=by
 intro pins s σ H x y v u Q I rx ry h;obtain⟨i,j,rfl,rfl,q⟩:=h;obtain⟨t,rfl⟩:=rx;obtain⟨t',rfl⟩:=ry;exact in_str (q1a I q rfl)
theorem OpR.or(h:OpR X f r)(h':OpR X f r'):OpR X f (fun x y H Q=>r x y H Q\/r' x y H Q):=by
 intro pins s σ H x y v u Q I rx ry q;rcases q with q|q
 ·exact h pins s σ H x y v u Q I rx ry q
 ·exact h' pins s σ H x y v u Q I rx ry q
theorem nomark(b:Expr)(h:op≠.In:=by decide)(h2:op≠.NotIn:=by decide):Ez op b=false:=by
 have e1:(op==CmpOp.In)=false:=by grind
 have e2:(op==CmpOp.NotIn)=false:=by grind
 cases b<;>simp[Ez,e1,e2]
theorem q4g{op:CmpOp}{r:R2}(ho:OpR X (Ck op) r)(ha:PE X a ta)(hb:PE X b tb)(hm:Ez op b=false):PE X (.Compare a [op] [b] pos) (tOp r ta tb):=by
 intro pins s σ H Q I h;exact wpAny_Compare1 (binT ha hb I h fun v u s2 x y H2 I2 rx ry q=>ho pins s2 σ H2 x y v u Q I2 rx ry q) hm
def tTest(t:TE):TT:=fun σ H Q=>t σ H fun x H'=>∃k,x=.bl k/\Q k H'
theorem q0g{op:CmpOp}{r:R2}(ho:OpR X (Ck op) r)(ha:PE X a ta)(hb:PE X b tb)(hm:Ez op b=false):PT X (.Compare a [op] [b] pos) (tTest (tOp r ta tb)):=by
 intro pins s σ H Q I h;refine Lm (thn (ha pins s σ H _ I h) fun v s1 ⟨x,H1,I1,r1,q1⟩=>thn (hb pins s1 σ H1 _ I1 q1) fun u s2 ⟨y,H2,I2,r2,q2⟩ =>
  thn (ho pins s2 σ H2 x y v u _ I2 r1 r2 q2) fun c s3 ⟨z,H3,I3,r3,k,e,q3⟩=>?_) hm
 subst e;cases r3;exact El ⟨H3,I3,q3⟩
def TruV(K:Ae)(x:V)(H:Hp)(k:Bool):Prop :=
 match x with
 |.non=>k=false
 |.bl b=>k=b
 |.int i=>k=(i != 0)
 |.str y=>y.length<=sizeLine/\k=((y.length:Int) != 0)
 |.byt y=>y.size<=sizeLine/\k=((y.size:Int) != 0)
 |.ref p=>(∃xs,SqL K H p xs/\k = !xs.isEmpty)\/(∃xs,SqT K H p xs/\k = !xs.isEmpty)\/∃kvs,H p=some (.dK kvs)/\k = !kvs.isEmpty
 |_=>False
theorem z3j{kvs:List (κ×V)}{vs:List (κ×Value)}(r:KV kvs vs):(!vs.isEmpty) = !kvs.isEmpty:=by
 cases r<;>rfl
theorem q6r(r:Vals xs its):(!its.toArray.isEmpty) = !xs.isEmpty:=by
 cases r<;>simp
theorem line63:(sizeLine:Nat)<2^63:=by rw[Fj];decide
theorem tru_ok:TruR X (fun x H Q=>∃k,TruV X.K x H k/\Q k H):=by
 intro pins s σ H x v Q I rx h;obtain⟨k,e,q⟩:=h;have hs:=Fj;cases x with
 |non =>
  cases rx;have e':=e;subst e';exact truthy_none ⟨H,I,q⟩
 |bl b =>
  cases rx;have e':=e;subst e';exact El ⟨H,I,q⟩
 |int i =>
  obtain⟨t,rfl⟩:=rx;have e':=e;subst e';exact PySem.P.truthy_int ⟨H,I,q⟩
 |str y =>
  obtain⟨t,rfl⟩:=rx;obtain⟨hy,e'⟩:y.length<=sizeLine/\k=((y.length:Int) != 0):=e;subst e';exact PySem.P.truthy_str (by lia) ⟨H,I.tok _,q⟩
 |byt y =>
  obtain⟨t,rfl⟩:=rx;obtain⟨hy,e'⟩:y.size<=sizeLine/\k=((y.size:Int) != 0):=e;subst e';exact W.truthy_bytes (by lia) ⟨H,I.tok _,q⟩
 |ref p =>
  cases rx;have e':=e;rcases e' with⟨xs,hx,e'⟩|⟨xs,hx,e'⟩|⟨kvs,hx,e'⟩
  ·subst e';obtain⟨its,r,pl,hz⟩:=I.list hx;have hlen:=r.length;exact wpAny_truthy_list pl.isList (by simp only[Az];lia) ⟨H,I.tok _,by rw[q6r r];exact q⟩
  ·subst e';obtain⟨its,r,pl,hz⟩:=I.tuple hx;have hlen:=r.length;exact truthy_tuple pl (by simp only[Az];lia) ⟨H,I.tok _,by rw[q6r r];exact q⟩
  ·subst e';obtain⟨hz,hS,vs,r,m⟩:kvs.length<=sizeLine/\(p==Dy)=false/\∃vs,KV kvs vs/\s.heap.DictOf (mixKind X.prog X.w) p vs:=I.hok p _ hx;have hlen:=Ey r;exact wpAny_truthy_dict hS m (by lia) ⟨H,I.tok _,by rw[z3j r];exact q⟩
 |_=>exact(show False from e).elim
theorem z7o(ha:PE X a ta)(he:∀whole,isTrue a X.env whole=(do let v<-whole;Ln a.pos;Kg [v] (truthy v))):
  PT X a (fun σ H Q=>ta σ H fun x H'=>∃k,TruV X.K x H' k/\Q k H'):=by
 intro pins s σ H Q I h;exact isTrue_plain (thn (ha pins s σ H _ I h) fun v s1 ⟨x,H1,I1,r1,q1⟩=>tru_ok pins s1 σ H1 x v Q I1 r1 q1) (he _)
theorem op_add_str:OpR X (Ek .Add) (fun x y H Q=>∃i j,x=.str i/\y=.str j/\i.length+j.length<=sizeLine/\Q (.str (i++j)) H):=by
 intro pins s σ H x y v u Q I rx ry h;obtain⟨i,j,rfl,rfl,hz,q⟩:=h;obtain⟨t,rfl⟩:=rx;obtain⟨t',rfl⟩:=ry;exact add_str (fun t' tk=>⟨.str (i++j),H,I.tok _,⟨_,rfl⟩,q⟩) hz
theorem q3q:OpR X (Mz .Add) (fun x y H Q=>∃i j,x=.str i/\y=.str j/\i.length+j.length<=sizeLine/\Q (.str (i++j)) H):=by
 intro pins s σ H x y v u Q I rx ry h;obtain⟨i,j,rfl,rfl,hz,q⟩:=h;obtain⟨t,rfl⟩:=rx;obtain⟨t',rfl⟩:=ry;exact iadd_str (fun t' tk=>⟨.str (i++j),H,I.tok _,⟨_,rfl⟩,q⟩) hz
theorem vals1(r:Vals [x] us):∃u,us=[u]/\RelV x u:=by
 cases r with
 |cons r1 r2=>cases r2;exact⟨_,rfl,r1⟩
theorem vals2(r:Vals [x,y] us):∃u w',us=[u,w']/\RelV x u/\RelV y w':=by
 cases r with
 |cons r1 r2 =>
  cases r2 with
  |cons r3 r4=>cases r4;exact⟨_,_,rfl,r1,r3⟩
theorem q9e(hc:X.calm=true):CallR X (.builtin "min") (fun xs H Q=>∃i j,xs=[.int i,.int j]/\Q (.int (if j<i then j else i)) H):=by
 intro pins s σ H xs us Q I r h;obtain⟨i,j,rfl,q⟩:=h;obtain⟨u,w',rfl,⟨t,rfl⟩,⟨t',rfl⟩⟩:=vals2 r;refine min_two_ints (I.ok.hd hc) fun h' tk k=>⟨_,H,I.kept k,?_,q⟩
 by_cases hj:j<i
 ·rw[if_pos hj,if_pos hj];exact⟨_,rfl⟩
 ·rw[if_neg hj,if_neg hj];exact⟨_,rfl⟩
theorem call_int1:CallR X (.type "int") (fun xs H Q=>(∃i,xs=[.int i]/\Q (.int i) H)\/∃k,xs=[.bl k]/\Q (.int (if k then 1 else 0)) H):=by
 intro pins s σ H xs us Q I r h;rcases h with⟨i,rfl,q⟩|⟨k,rfl,q⟩
 ·obtain⟨u,rfl,t,rfl⟩:=vals1 r;exact call_int_int ⟨.int i,H,I,⟨_,rfl⟩,q⟩
 ·obtain⟨u,rfl,r1⟩:=vals1 r;cases r1;exact call_int_bool ⟨.int (if k then 1 else 0),H,I.tok _,⟨_,rfl⟩,q⟩
def LenV(K:Ae)(x:V)(H:Hp)(n:Nat):Prop :=
 match x with
 |.str y=>y.length<=sizeLine/\n=y.length
 |.byt y=>y.size<=sizeLine/\n=y.size
 |.ref p=>(∃xs,SqL K H p xs/\n=xs.length)\/∃xs,SqT K H p xs/\n=xs.length
 |_=>False
theorem z7p:CallR X (.builtin "len") (fun xs H Q=>∃x n,xs=[x]/\LenV X.K x H n/\Q (.int n) H):=by
 intro pins s σ H xs us Q I r h;obtain⟨x,n,rfl,e,q⟩:=h;obtain⟨u,rfl,rx⟩:=vals1 r;have hs:=Fj;cases x with
 |str y =>
  obtain⟨t,rfl⟩:=rx;obtain⟨hy,e'⟩:y.length<=sizeLine/\n=y.length:=e;subst e';exact len_str (by lia) ⟨.int _,H,I.tok _,⟨_,rfl⟩,q⟩
 |byt y =>
  obtain⟨t,rfl⟩:=rx;obtain⟨hy,e'⟩:y.size<=sizeLine/\n=y.size:=e;subst e';exact W.len_bytes (by lia) ⟨.int _,H,I.tok _,⟨_,rfl⟩,q⟩
 |ref p =>
  cases rx;have e':=e;rcases e' with⟨xs,hx,e'⟩|⟨xs,hx,e'⟩
  ·subst e';obtain⟨its,r',pl,hz⟩:=I.list hx;have hlen:=r'.length;exact Calls.call_len_list pl.isList (by simp only[Az];lia) ⟨.int xs.length,H,I.tok _,⟨_,by simp only[Az];rw[hlen]⟩,q⟩
  ·subst e';obtain⟨its,r',pl,hz⟩:=I.tuple hx;have hlen:=r'.length;exact len_tuple pl (by simp only[Az];lia) ⟨.int xs.length,H,I.tok _,⟨_,by simp only[Az];rw[hlen]⟩,q⟩
 |_=>exact(show False from e).elim
end
open PySem PySem.Spec PyProof.Rows
theorem RelO.some_of(r:RelO (some v) o):∃u,o=some u/\RelV v u:=by
 cases o with
 |none=>exact(show False from r).elim
 |some u=>exact⟨u,rfl,r⟩
structure Cls (K:Ae) (C:Addr):Prop where
 pg:W.plainGet K C Str.empty=true
 hd:W.hasDictIn K C=true
 po:W.plainOver K C=true
 sa:W.findIn K (.ref C) "__setattr__" = some (some (.builtin "object.__setattr__"))
theorem Cls.get{K:Ae}(c:Cls K C)(f:Str):W.plainGet K C f=true:=c.pg
section
variable{X:Cx}{pins:List (Addr×Obj)}{σ:St}{H:Hp}{s:Ag}{a C dx:Addr}{fs:List (Str×V)}{f:Str}{v:V}{A:Around}{E:Value->Ag->Prop}
theorem Inv.made(I:Inv X pins σ H s):Inv X pins σ (upd (upd H s.heap.objs.size (.own (s.heap.objs.size+1))) (s.heap.objs.size+1) (.ins C s.heap.objs.size []))
  { s with heap:=(s.heap.push Fl).push (Kx C s.heap.objs.size) }:=by
 have e1:(s.heap.push Fl).get? s.heap.objs.size=some Fl:=Bc s.heap rfl;have e2:((s.heap.push Fl).push (Kx C s.heap.objs.size)).get? (s.heap.objs.size+1)=some (Kx C s.heap.objs.size):=by
  have:=Bc (s.heap.push Fl) (o:=Kx C s.heap.objs.size) rfl
  rwa [Er] at this
 have e3:(s.heap.push Fl).Ns s.heap.objs.size (fun _=>none):=⟨Fl,#[],_,e1,rfl,(fun e he=>absurd he (by simp)),fun _=>rfl⟩
 have I1:=I.laid (o:=.own (s.heap.objs.size+1)) (h':=s.heap.push Fl) (t':=s.toks) (fun b u q=>Ak _ q) (Af _) ⟨_,e1⟩;refine I1.laid (t':=s.toks) (fun b u q=>Ak _ q) (Di (Er _ _)) ?_;have ne:s.heap.objs.size≠s.heap.objs.size+1:=Ce (Nat.lt_succ_self _);refine⟨by rw[q0m ne,q0e],Au _,ne,e2,fun _=>none,(Heap.Ns1.of_empty e3).at fun o q=>Ak _ q,fun _=>True.intro,fun y hy=>absurd rfl hy⟩
end
section
variable{X:Cx}{pins:List (Addr×Obj)}{σ:St}{H:Hp}{s:Ag}{A:Around}{E:Value->Ag->Prop}{Q:Value->Ag->Prop}{c:Value}{b:Bool}
inductive TyOf (K:Ae) (H:Hp):V->Value->Prop where
 |non:TyOf K H .non (.type "NoneType")
 |bl (x:Bool):TyOf K H (.bl x) (.type "bool")
 |int (i:Int):TyOf K H (.int i) (.type "int")
 |str (x:Str):TyOf K H (.str x) (.type "str")
 |flt (x:UInt64):TyOf K H (.flt x) (.type "float")
 |lst {a:Addr} {xs:List V} (e:H a=some (.lst xs)):TyOf K H (.ref a) (.type "list")
 |frz {a:Addr} {o:Obj} {xs:List V} (e:H a=some (.frz o (.lst xs))):TyOf K H (.ref a) (.type "list")
 |tup {a:Addr} {xs:List V} (e:H a=some (.tup xs)):TyOf K H (.ref a) (.type "tuple")
 |dK {a:Addr} {kvs:List (Key×V)} (e:H a=some (.dK kvs)):TyOf K H (.ref a) (.type "dict")
 |dT {a:Addr} {kvs:List (List Key×V)} (e:H a=some (.dT kvs)):TyOf K H (.ref a) (.type "dict")
 |ins {a C dx:Addr} {fs:List (Str×V)} (e:H a=some (.ins C dx fs)) (cl:Cls K C) (ha:W.findIn K (.ref C) "__class__" = some (some (.builtin "object.__class__")))
   (hn:W.specialIn K (.builtin "object.__class__") "__get__" = some (some (.builtin "getset_descriptor.__get__"))) (htk:W.takesIn K (.builtin "object.__class__")=some true)
   (hm:W.mroIn K C (.type "object")=some true):TyOf K H (.ref a) (.ref C)
end
open PySem PySem.Spec PyProof.Rows
structure Room (k:Nat) (A:Around):Prop where
 hd:A.handled=none
 dp:A.depth+3*k+5<recursionLimit
 un:A.units+16*k+200<cLine
 gd:A.guards=some []
theorem Room.mono(r:Room k A)(h:j<=k):Room j A:=⟨r.hd,by have:=r.dp;lia,by have:=r.un;lia,r.gd⟩
theorem Room.deeper(r:Room (k+1) A)(env:Env):Room k (A.deeper env) :=
 ⟨r.hd,by have:=r.dp;show A.depth+1+3*k+5<_;lia,by have:=r.un;show A.units+3+16*k+200<_;lia,r.gd⟩
theorem Room.in1(r:Room (k+1) A):Room k A.in1 :=
 ⟨r.hd,by have:=r.dp;show A.depth+3*k+5<_;lia,by have:=r.un;show A.units+1+16*k+200<_;lia,r.gd⟩
theorem Room.depth(r:Room k A):A.depth<recursionLimit:=by have:=r.dp;lia
theorem Room.units(r:Room k A):A.units+64<cLine:=by have:=r.un;lia
def tNil:TA:=fun _ H Q=>Q [] H
def tCons(ta:TE)(tr:TA):TA:=fun σ H Q=>ta σ H fun x H1=>tr σ H1 fun xs H2=>Q (x::xs) H2
section
variable{X:Cx}{e:Expr}{es:List Expr}{te:TE}{t:TA}{pos:Pos}
theorem q0c:PA X [] tNil:=fun _ _ _ _ H Q I h=>Jw ⟨[],H,I,.nil,h⟩
theorem q0a(ha:PE X e te)(hr:PA X es t)(hs:Be (e::es) X.env=(false,eval e X.env)::Be es X.env:=by rfl):PA X (e::es) (tCons te t):=by
 intro pos pins s σ H Q I h;rw[hs];refine Dj (thn (ha pins s σ H _ I h) fun u s1 ⟨x,H1,I1,r1,q1⟩=>?_);exact thn (hr pos pins s1 σ H1 _ I1 q1) fun us s2 ⟨xs,H2,I2,r2,q2⟩=>⟨x::xs,H2,I2,.cons r1 r2,q2⟩
def tTup(t:TA):TE:=fun σ H Q=>t σ H fun xs H1=>xs.length<=sizeLine/\∀p,H1 p=none->Q (.ref p) (upd H1 p (.tup xs))
def tLst(t:TA):TE:=fun σ H Q=>t σ H fun xs H1=>xs.length<=sizeLine/\∀p,H1 p=none->Q (.ref p) (upd H1 p (.lst xs))
theorem q0w{x1}(h:PA X es t):PE X (.Tuple es x1 pos) (tTup t):=by
 intro pins s σ H Q I hq;refine wpAny_Tuple_spliced (thn (h pos pins s σ H _ I hq) fun us s1 ⟨xs,H1,I1,r,z,q⟩=>⟨by rw[<- r.length];exact z,?_⟩);have hf:=I1.hok.fresh (Af _);refine⟨.ref s1.heap.objs.size,upd H1 s1.heap.objs.size (.tup xs),I1.laid (t':=s1.toks) (fun b u e=>Ak _ e) (Af _) ?_,rfl,q _ hf⟩;exact⟨z,us,r,⟨_,Bc _ rfl,rfl,_,rfl⟩⟩
theorem q1t(h:PA X es t):PE X (.List es pos) (tLst t):=by
 intro pins s σ H Q I hq;refine wpAny_List_spliced (thn (h pos pins s σ H _ I hq) fun us s1 ⟨xs,H1,I1,r,z,q⟩=>⟨by rw[<- r.length];exact z,?_⟩);have hf:=I1.hok.fresh (Af _);refine⟨.ref s1.heap.objs.size,upd H1 s1.heap.objs.size (.lst xs),I1.laid (t':=s1.toks) (fun b u e=>Ak _ e) (Af _) ?_,rfl,q _ hf⟩;exact⟨z,us,0,r,Bc _ rfl⟩
end
abbrev Sp:=List V->Hp->VK->XK->Prop
abbrev CXT:=List Env->Hp->Ag->XK->Value->Ag->Prop
structure Env0 (P:Program) (w:World) (K:Ae) (mg:Str->Option Value) (base:Heap) (A:Around) (outer:List Env) (s:Ag) (H:Hp):Prop where
 frames:A.frames=some outer
 mod:Mod K mg base
 bs:∀b o,base.get? b=some o->s.heap.get? b=some o/\H b=none
 bsz:base.objs.size<=s.heap.objs.size
 funs:s.heap.FunFrames base outer
 frf:∀b∈frs outer,H b=none
 hok:HOk P w H s.heap
 bare:Hy s.gens
def CE(outer:List Env)(P:Program)(w:World)(H:Hp)(s:Ag)(Q:VK)(u:Value)(s':Ag):Prop :=
 ∃v H',s'.os=s.os/\Hy s'.gens/\Un (frs outer) [] H H' s.heap s'.heap/\HOk P w H' s'.heap/\RelV v u/\Q v H'
def CR(CX:CXT)(outer:List Env)(P:Program)(w:World)(H:Hp)(s:Ag)(Q:VK)(E:XK)(r:Result)(s':Ag):Prop :=
 match r with
 |.ok (.ret u)=>CE outer P w H s Q u s'
 |.ok _=>False
 |.error e=>CX outer H s E e s'
structure FnOk (P:Program) (w:World) (K:Ae) (mg:Str->Option Value) (base:Heap) (CX:CXT) (k:Nat) (f:Addr) (fd:Jc) (ps:List Str) (sp:Sp):Prop where
 len:∀vs H Q E,sp vs H Q E->vs.length=ps.length
 run:∀(A:Around) (outer:List Env) (s:Ag) (H:Hp) (args:Args) (us:List Value) (vs:List V) (Q:VK) (E:XK),Room k A->Env0 P w K mg base A outer s H->Lp s fd args (ps.zip us)->Vals vs us->sp vs H Q E ->
  Fb (model P w) A (.call (.ref f) args) (CR CX outer P w H s Q E) s
theorem FnOk.mono{K:Ae}(F:FnOk P w K mg base CX j f fd ps sp)(h:j<=k):
  FnOk P w K mg base CX k f fd ps sp:=⟨F.len,fun A outer s H args us vs Q E hr=>F.run A outer s H args us vs Q E (hr.mono h)⟩
theorem FnOk.imp{K:Ae}(F:FnOk P w K mg base CX k f fd ps sp)(h:∀vs H Q E,sp' vs H Q E->sp vs H Q E):FnOk P w K mg base CX k f fd ps sp' :=
 ⟨fun vs H Q E q=>F.len vs H Q E (h _ _ _ _ q),fun A outer s H args us vs Q E hr he hb hv hs=>F.run A outer s H args us vs Q E hr he hb hv (h _ _ _ _ hs)⟩
theorem Env0.in1{K:Ae}(e:Env0 P w K mg base A outer s H):
  Env0 P w K mg base A.in1 outer s H:=⟨e.frames,e.mod,e.bs,e.bsz,e.funs,e.frf,e.hok,e.bare⟩
section
variable{X:Cx}{pins:List (Addr×Obj)}{σ:St}{H:Hp}{s s':Ag}
theorem Inv.env0(I:Inv X pins σ H s):Env0 X.prog X.w X.K X.mg X.base X.A X.stack s H :=
 ⟨I.ok.frames,I.ok.mod,I.bs,Ap I.ok.bsz I.sz,I.stack,I.stkFree,I.hok,I.bare⟩
theorem Inv.after(I:Inv X pins σ H s)(h:CE X.stack X.prog X.w H s Q u s'):EP X pins σ Q u s':=by
 obtain⟨v,H',os,bare,un,hok,r,q⟩:=h;obtain⟨hh,g,d,t,os'⟩:=s';obtain rfl:os'=s.os:=os;exact⟨v,H',I.call (h':=hh) (g':=g) (d':=d) (t':=t) un hok bare (fun b z=>absurd z (by simp)),r,q⟩
end
def tCall(sp:Sp)(dvs:List V)(E:XK)(t:TA):TE:=fun σ H Q=>t σ H fun vs H1=>sp (vs++dvs) H1 Q E
def Binds(K:Ae)(fd:Jc)(ps:List Str)(ds:List Value):Prop :=
 ∀(s:Ag) (us:List Value),K.In s.heap->(us++ds).length=ps.length->Lp s fd ⟨us,[]⟩ (ps.zip (us++ds))
theorem Binds.all{K:Ae}(h:∀us:List Value,us.length=ps.length->bindArgs fd ⟨us,[]⟩=pure (ps.zip us)):Binds K fd ps []:=fun s us _ hl=>by
 rw[By] at hl ⊢;exact .of_eq (h us hl)
def Passes(CX:CXT)(X:Cx)(E:XK):Prop:=∀(pins:List (Addr×Obj)) (σ:St) (H:Hp) (s:Ag) (e:Value) (s':Ag),Inv X pins σ H s->CX X.stack H s E e s'->X.xe e s'
section
variable{X:Cx}{CX:CXT}{k:Nat}{f C:Addr}{fd:Jc}{ps:List Str}{sp:Sp}{dvs:List V}{ds:List Value}{E:XK}{x m:Str}{p pos apos:Pos}{e o:Expr}{es:List Expr}{ta:TE}{t:TA}
theorem z9o{σ:St}(F:FnOk X.prog X.w X.K X.mg X.base CX k f fd ps sp)(hr:Room k X.A)(hb:Binds X.K fd ps ds)(hd:Vals dvs ds)(hx:Passes CX X E)(I:Inv X pins σ H s)(r:Vals vs us)(h:sp (vs++dvs) H Q E):wpAny (model X.prog X.w) X.A (call (.ref f) us) (EP X pins σ Q) X.xe s:=by
 have r2:=r.append hd;have hl:(us++ds).length=ps.length:=by rw[<- r2.length];exact F.len _ _ _ _ h
 refine Oi (Gx (F.run X.A X.stack s H ⟨us,[]⟩ (us++ds) (vs++dvs) Q E hr I.env0 (hb s us I.kIn hl) r2 h) fun r s' hq=>?_);cases r with
 |error e=>exact hx pins σ H s e s' I hq
 |ok fl =>
  cases fl with
  |ret u=>exact I.after hq
  |next=>exact False.elim hq
  |brk=>exact False.elim hq
  |cont=>exact False.elim hq
theorem x0v(F:FnOk X.prog X.w X.K X.mg X.base CX k f fd ps sp)(hr:Room k X.A)(hg:Gl X x)(hm:X.mg x=some (.ref f))(hk:Jd X.K (.ref f)=true)(hb:Binds X.K fd ps ds)(hd:Vals dvs ds)(hx:Passes CX X E)(ha:PA X (e::es) t)(hdb:(x==("__debug__" : Str))=false:=by decide)(he:Be (e::es) X.env=(false,eval e X.env)::Be es X.env:=by rfl)(hpl:(Fc pos (Be es X.env)).any (·.1)=false:=by rfl):
  PE X (.Call (.Name x p) (e::es) [] pos) (tCall sp dvs E t):=by
 intro pins s σ H Q I h;refine Gy (q7f I hg hm ?_ hdb);refine W.callWith_K I.ok.mod.kin hk (thn (ha pos pins s σ H _ I h) fun us s1 ⟨vs,H1,I1,r,q⟩=>⟨I1.kIn,?_⟩) he hpl;exact z9o F hr hb hd hx I1 r q
theorem z7q(F:FnOk X.prog X.w X.K X.mg X.base CX k f fd ps sp)(hr:Room k X.A)(hg:Gl X x)(hm:X.mg x=some (.ref f))(hk:Jd X.K (.ref f)=true)(hb:Binds X.K fd ps ds)(hd:Vals dvs ds)(hx:Passes CX X E)(hdb:(x==("__debug__" : Str))=false:=by decide):PE X (.Call (.Name x p) [] [] pos) (tCall sp dvs E tNil):=by
 intro pins s σ H Q I h;refine Gy (q7f I hg hm ?_ hdb);exact W.callWith_K0 I.kIn hk (z9o F hr hb hd hx I .nil h)
end
structure FnScope (N P:List Str) (sc:Scope):Prop where
 kind:sc.kind=.function
 co:sc.isCoroutine=false
 gen:sc.isGenerator=false
 nd:N.Nodup
 pre:N.take P.length=P
 par:∀x∈P,sc.names.lookup x=some .local\/sc.names.lookup x=some .cell
 nofree:∀y∈sc.names,y.2≠.free
theorem q9f{kindOf:Str->Option Bb}:∀{binds:List (Str×Value)} {m:Str->Option Value},(∀v,(x,v)∉binds)->bindL kindOf binds m x=m x
 |[],_,_=>rfl
 |(n,v)::r,m,h=>by
  unfold bindL;rw[q9f fun w hw=>h w (Ah _ hw)];split
  ·have:x≠n:=by rintro rfl;exact h v Ai
   simp[this]
  ·rfl
theorem q9g{kindOf:Str->Option Bb}:∀{binds:List (Str×Value)} {m:Str->Option Value},(∀v,(x,v)∉binds)->bindC kindOf binds m x=m x
 |[],_,_=>rfl
 |(n,v)::r,m,h=>by
  unfold bindC;rw[q9g fun w hw=>h w (Ah _ hw)];split
  ·rfl
  ·have:x≠n:=by rintro rfl;exact h v Ai
   simp[this]
theorem q9h{kindOf:Str->Option Bb}{x:Str}{v:Value}:∀{P:List Str} {vs:List Value} {i:Nat} {m:Str->Option Value},P.Nodup->P[i]?=some x->vs[i]?=some v->kindOf x=some .local ->
  bindL kindOf (P.zip vs) m x=some v
 |[],_,_,_,_,h,_,_=>by simp at h
 |_::_,[],_,_,_,_,h,_=>by simp at h
 |p::P,w::vs,0,m,nd,h1,h2,hk=>by
  simp at h1 h2;subst h1;subst h2;show bindL kindOf ((p,w)::P.zip vs) m p=_;unfold bindL;rw[q9f fun v hv=>(Gr.mp nd).1 (Ky hv).1,if_pos hk];simp
 |p::P,w::vs,i+1,m,nd,h1,h2,hk=>by
  show bindL kindOf ((p,w)::P.zip vs) m x=_;unfold bindL;exact q9h (i:=i) (Gr.mp nd).2 (by simpa using h1) (by simpa using h2) hk
theorem q9i{kindOf:Str->Option Bb}{x:Str}{v:Value}:∀{P:List Str} {vs:List Value} {i:Nat} {m:Str->Option Value},P.Nodup->P[i]?=some x->vs[i]?=some v->kindOf x≠some .local ->
  bindC kindOf (P.zip vs) m x=some v
 |[],_,_,_,_,h,_,_=>by simp at h
 |_::_,[],_,_,_,_,h,_=>by simp at h
 |p::P,w::vs,0,m,nd,h1,h2,hk=>by
  simp at h1 h2;subst h1;subst h2;show bindC kindOf ((p,w)::P.zip vs) m p=_;unfold bindC;rw[q9g fun v hv=>(Gr.mp nd).1 (Ky hv).1,if_neg hk];simp
 |p::P,w::vs,i+1,m,nd,h1,h2,hk=>by
  show bindC kindOf ((p,w)::P.zip vs) m x=_;unfold bindC;exact q9i (i:=i) (Gr.mp nd).2 (by simpa using h1) (by simpa using h2) hk
def start(N:List Str)(vs:List V):St:=vs.map some++List.replicate (N.length-vs.length) none
def cxOf(CX:CXT)(P:Program)(w:World)(K:Ae)(mg:Str->Option Value)(base:Heap)(N:List Str)(qual:Str)(scope:Scope)(f:Addr)(cd:Value)(A:Around)(outer:List Env)(s:Ag)(H:Hp)(E:XK):Cx where
 prog:=P
 w:=w
 K:=K
 mg:=mg
 base:=base
 A:=A.deeper (Ii qual scope s.heap.objs.size f cd)
 N:=N
 s₀:=s
 H₀:=H
 env:=Ii qual scope s.heap.objs.size f cd
 outer:=outer
 stack:=Ii qual scope s.heap.objs.size f cd::outer
 ex:=[]
 calm:=true
 fn:=fun _=>true
 pn:=[]
 xe:=fun e s'=>wpAny (model P w) (A.deeper (Ii qual scope s.heap.objs.size f cd)) (leaving (Ii qual scope s.heap.objs.size f cd) e) (fun _ s''=>CX outer H s E e s'') (fun e' s''=>CX outer H s E e' s'') s'
theorem z1y{sc:Scope}(h:sc.names.lookup x=some .cell):∃c,(cellsFrom n sc.names []).lookup x=some c:=by
 have q:=Ny sc.names n [] (.inl h);exact Gz.mp q
theorem z4s{K:Ae}(S:FnScope N ps scope)(hd:A.handled=none)(e0:Env0 P w K mg base A outer s H)(hl:vs.length=ps.length)(r:Vals vs us)(x:InCallC s s.heap.objs.size (bindL (Ii qual scope s.heap.objs.size f cd).kindOf (ps.zip us) fun _=>none) (cellsFrom (s.heap.objs.size+1) scope.names []) (bindC (Ii qual scope s.heap.objs.size f cd).kindOf (ps.zip us) fun _=>none) s1):
  Inv (cxOf CX P w K mg base N qual scope f cd A outer s H E) [] (start N vs) H s1:=by
 have hpl:ps.length<=N.length:=by have:=congrArg List.length S.pre;rw[Bv] at this;lia
 obtain⟨h1,tk,rfl,hk⟩:=x.done;have noA:∀b:Addr,b∉(cxOf CX P w K mg base N qual scope f cd A outer s H E).ex:=fun b z=>absurd (show b∈([]:List Addr) from z) (by simp)
 refine⟨⟨e0.mod,S.kind,rfl,rfl,Af _,fun y z c h1 h2=>?_,fun y hy=>?_,fun y c _ h=>?_,fun _=>hd,Around.frames_deeper e0.frames,.inr ⟨rfl,rfl⟩,fun b z=>absurd z (noA b),e0.bs,e0.bsz,fun b _ _=>noA b,fun b z=>absurd z (noA b),e0.funs,e0.frf⟩,
  rfl,e0.bare,Un.kept hk,⟨_,x.toInCall.ns,fun i y v h1 h2 h3=>?_⟩,fun y c h=>⟨_,x.cell y c h⟩,e0.hok.fresh (Af _),fun y c h=>?_,fun p hp=>absurd (show p∈([]:List (Addr×Obj)) from hp) (by simp),e0.hok.kept hk,?_⟩
 ·exact name_of_addr x.apart (Dq h1) (Dq h2)
 ·have hy:scope.names.lookup y=some .cell\/scope.names.lookup y=some .free:=hy;rcases hy with hy|hy
  ·exact z1y hy
  ·exact absurd rfl (S.nofree _ (Dq hy))
 ·exact Mw (x.above y c (Dq h))
 ·have hi:i<vs.length:=by
   unfold start at h2;by_cases hi:i<vs.length
   ·exact hi
   ·rw[Cn (by simpa using hi)] at h2;rw[List.getElem?_replicate] at h2;split at h2<;>cases h2
  have ha:vs[i]?=some v:=by
   unfold start at h2;rw[Co (by simpa using hi),Bg] at h2;cases e:vs[i]? with
   |none=>simp_all
   |some a=>grind
  obtain⟨u,hu,rv⟩:=r.get ha;have hp:ps[i]?=some y:=by
   rw[<- S.pre,List.getElem?_take_of_lt (by lia)];exact h1
  have ndP:ps.Nodup:=by rw[<- S.pre];exact S.nd.sublist (Np _ _)
  refine⟨u,rv,?_⟩;rcases S.par y (As hp) with k|k
  ·exact .inl ⟨k,q9h ndP hp hu k⟩
  ·obtain⟨c,e⟩:=z1y k;refine .inr ⟨.inl k,c,e,?_⟩;have q:=x.cell y c e;rw[q9i ndP hp hu (by show scope.names.lookup y≠_;rw[k];decide)] at q;exact q
 ·exact e0.hok.fresh (Mw (x.above y c (Dq h)))
 ·unfold start;show _=N.length;rw[Ac,Ad,Hz];lia
theorem fn_of{K:Ae}{kV:Value}(lk:K.lookup f=some ⟨oc,od,.func (Ij name qual params body scope dV kV doc pm an cdv ct),osl⟩)(hcd:Mh K cdv qual=true)(S:FnScope N ps scope)(len:∀vs H Q E,sp vs H Q E->vs.length=ps.length)(hbody:∀(A:Around) (outer:List Env) (s:Ag) (H:Hp) (vs:List V) (Q:VK) (E:XK),Room k (A.deeper (Ii qual scope s.heap.objs.size f cdv))->sp vs H Q E ->
   ∃t,PSs (cxOf CX P w K mg base N qual scope f cdv A outer s H E) body t/\t { nx:=fun _ H'=>Q .non H',rt:=Q } (start N vs) H):
  FnOk P w K mg base CX (k+1) f (Ij name qual params body scope dV kV doc pm an cdv ct) ps sp:=by
 refine⟨len,fun A outer s H args us vs Q E hr e0 hb r hsp=>?_⟩;have hl:=len _ _ _ _ hsp;have KX:=e0.mod.kin.keeps fun b o e=>(e0.bs b o e).1;have lim:=e0.mod.nolimit.keeps fun b o e=>(e0.bs b o e).1;have hkind:∀y∈ps.zip us,scope.names.lookup y.1=some .local\/(scope.names.lookup y.1=some .cell/\((cellsFrom (s.heap.objs.size+1) scope.names []).lookup y.1).isSome=true):=fun⟨n,v⟩ hy=>by
  rcases S.par n (Ky hy).1 with q|q
  ·exact .inl q
  ·exact .inr ⟨q,Ny _ _ _ (.inl q)⟩
 refine codeAny_call_function hr.depth (KX _ _ lk) rfl S.co S.gen rfl (W.codeRec_of KX hcd) (hb _ _ _ _ ?_);refine wpAny_newFunctionEnv_cells S.kind hkind fun env he s1 x=>?_;subst he;refine⟨lim.keeps x.toInCall.keep,codeAny_func ?_⟩;obtain⟨t,ht,hq⟩:=hbody A outer s H vs Q E (hr.deeper _) hsp;have I:Inv (cxOf CX P w K mg base N qual scope f cdv A outer s H E) [] (start N vs) H s1:=z4s S hr.hd e0 hl r x;refine Cg (ht [] s1 (start N vs) H _ I hq) (fun fl s' hs=>?_) fun e s' hs=>hs;have fin:∀{σ':St} {H':Hp} {v:V} {u:Value},Inv (cxOf CX P w K mg base N qual scope f cdv A outer s H E) [] σ' H' s'->RelV v u->Q v H'->CE outer P w H s Q u s' :=
  fun{σ' H' v u} J rv q=>⟨v,H',J.os,J.bare,J.base,J.hok,rv,q⟩
 cases fl with
 |ret u =>
  obtain⟨v,σ',H',J,rv,q⟩:=hs;exact fin J rv q
 |next =>
  obtain⟨σ',H',J,q⟩:=hs;exact fin (v:=V.non) J rfl q
 |brk =>
  obtain⟨_,_,_,q⟩:=hs;exact False.elim q
 |cont =>
  obtain⟨_,_,_,q⟩:=hs;exact False.elim q
open PySem PySem.Spec PyProof.Rows
section
variable{X:Cx}{x:Str}{p pos:Pos}{e:Expr}{es:List Expr}{t:TA}{id T:String}{r:List V->Hp->VK->Prop}
def tCB(r:List V->Hp->VK->Prop)(t:TA):TE:=fun σ H Q=>t σ H fun vs H1=>r vs H1 Q
theorem q0y(hc:CallR X (.builtin id) r)(hg:Gl X x)(hm:X.mg x=none)(hv:Eg x=some (.builtin id))(ha:PA X (e::es) t)(hn:x ≠ "__name__" := by decide)(hdb:(x==("__debug__" : Str))=false:=by decide)(he:Be (e::es) X.env=(false,eval e X.env)::Be es X.env:=by rfl)(hpl:(Fc pos (Be es X.env)).any (·.1)=false:=by rfl):PE X (.Call (.Name x p) (e::es) [] pos) (tCB r t):=by
 intro pins s σ H Q I h;refine Gy (q4q I hg hm hv ?_ hn hdb);exact PyProof.Rows.callWith_builtin1 (thn (ha pos pins s σ H _ I h) fun us s1 ⟨vs,H1,I1,r1,q1⟩=>hc pins s1 σ H1 vs us Q I1 r1 q1) he hpl
theorem q1j(hc:CallR X (.type T) r)(hg:Gl X x)(hm:X.mg x=none)(hv:Eg x=some (.type T))(ha:PA X (e::es) t)(hn:x ≠ "__name__" := by decide)(hdb:(x==("__debug__" : Str))=false:=by decide)(he:Be (e::es) X.env=(false,eval e X.env)::Be es X.env:=by rfl)(hpl:(Fc pos (Be es X.env)).any (·.1)=false:=by rfl):PE X (.Call (.Name x p) (e::es) [] pos) (tCB r t):=by
 intro pins s σ H Q I h;refine Gy (q4q I hg hm hv ?_ hn hdb);exact Cr (thn (ha pos pins s σ H _ I h) fun us s1 ⟨vs,H1,I1,r1,q1⟩=>hc pins s1 σ H1 vs us Q I1 r1 q1) he hpl
end
end L2
namespace HT
open PySem PyProof.Rows
section
variable{prog:Program}{w:World}{A:Around}{E:Value->Ag->Prop}{s:Ag}
def sIx(n d:Nat):Option Int->Nat
 |none=>d
 |some v=>if v<0 then(v+(n:Int)).toNat else min v.toNat n
theorem z4t(v:Int)(n d:Nat):(if v<0 then max (v+(n:Int)) 0 else min v (n:Int))=((sIx n d (some v):Nat):Int):=by
 show(if v<0 then max (v+(n:Int)) 0 else min v (n:Int))=(((if v<0 then(v+(n:Int)).toNat else min v.toNat n):Nat):Int)
 by_cases hv:v<0
 ·grind
 ·grind
theorem z3k(lo hi:Option Int)(n:Nat):Kb lo hi 1 (n:Int)=(((sIx n 0 lo:Nat):Int),((sIx n n hi:Nat):Int)):=by
 refine Prod.ext ?_ ?_
 ·cases lo with
  |none=>rfl
  |some v=>exact z4t v n 0
 ·cases hi with
  |none=>rfl
  |some v=>exact z4t v n n
theorem z3l(i j:Nat):En (i:Int) (j:Int) 1=j-i:=by
 unfold En;have h1:(1:Int)>0:=by lia
 simp only[h1,if_true,Int.ediv_one];split<;>lia
theorem q6s(p:Jl v o)(h:Q o s):wpAny (model prog w) A (Ee.Slice.slicePartIndex v) Q E s:=by
 cases p with
 |none=>exact slicePart_none h
 |int i t=>exact slicePart_int h
theorem q4u{lo:Option Int}{n:Nat}(hs:s.heap.IsSliceOf sl vl vu .none)(pl:Jl vl lo)(pu:Jl vu hi)(h:Q (((sIx n 0 lo:Nat):Int),1,sIx n n hi-sIx n 0 lo) s):wpAny (model prog w) A (Ee.Slice.sliceApplied (.ref sl) (pure (n:Int))) Q E s:=by
 obtain⟨os,hos,hcs,hds⟩:=id hs;refine Ab (Ab (Ci hos hds rfl (Ab (Ci hos hds rfl (Ab (Ci hos hds rfl (An ?_)))))));refine Ab (slicePart_none ?_);refine Ab (q6s pl (Ab (q6s pu (Ab (An ?_)))));show wpAny _ _ (match Kb lo hi 1 (n:Int) with|(lo,hi)=>pure (lo,(1:Int),En lo hi 1)) _ _ s;rw[z3k lo hi n];show wpAny _ _ (pure (((sIx n 0 lo:Nat):Int),(1:Int),En ((sIx n 0 lo:Nat):Int) ((sIx n n hi:Nat):Int) 1)) _ _ s;rw[z3l];exact An h
theorem z7r(xs:Array Value)(i k:Nat):((List.range k).filterMap fun(m:Nat)=>xs[((i:Int)+(m:Int)*1).toNat]?).toArray=((xs.toList.drop i).take k).toArray:=by
 have e:(fun(m:Nat)=>xs[((i:Int)+(m:Int)*1).toNat]?)=fun m=>xs[i+m]?:=by grind
 rw[e];have:=pick_run xs i k;rw[List.filterMap_map] at this;have e2:((fun x=>xs[x]?)∘fun x=>i+x)=fun m=>xs[i+m]?:=rfl;rw[e2] at this;rw[this]
theorem getItem_tuple_cut{lo:Option Int}(ht:IsTup s.heap t items)(hs:s.heap.IsSliceOf sl vl vu .none)(pl:Jl vl lo)(pu:Jl vu hi)(hw:¬(sIx items.size 0 lo=0/\sIx items.size items.size hi=items.size))(h:Q (.ref s.heap.objs.size) { s with heap:=s.heap.push { cls:=.type "tuple",data:=.seq ((items.toList.drop (sIx items.size 0 lo)).take (sIx items.size items.size hi-sIx items.size 0 lo)).toArray } })(hsz:items.size<=sizeLine):wpAny (model prog w) A (getItem (.ref t) (.ref sl)) Q E s:=by
 have htake:sizeOk (.seq ((items.toList.drop (sIx items.size 0 lo)).take (sIx items.size items.size hi-sIx items.size 0 lo)).toArray):=by
  show((items.toList.drop (sIx items.size 0 lo)).take (sIx items.size items.size hi-sIx items.size 0 lo)).toArray.size<=sizeLine;rw[Az,Bv,Bk,Gn];lia
 obtain⟨os,hos,hcs,hds⟩:=id hs;have hTs:s.TypeIs (.ref sl) "slice" := ⟨os,hos,hcs⟩
 unfold getItem;try with_reducible refine Gg ?_
 refine Ab (wpAny_sequenceKey ht.typeIs (by decide) ?_);refine Ab (Cu ht.typeIs Ex
  (Dk Ex ht.typeIs entry_tuple_getitem ?_ (args_tuple_getitem _ _)))
 show wpAny _ _ (Ee.Tuple.tupleItemsOf (.ref t) >>= _) _ _ s;refine Ab (tupleItemsOf_ ht ?_);refine Ab (wpAny_typeOf hTs ?_);refine Ab (q4u hs pl pu ?_);have hno:¬((((sIx items.size 0 lo:Nat):Int)==0&&(1:Int)==1&&(sIx items.size items.size hi-sIx items.size 0 lo)==items.size)=true):=by grind
 show wpAny _ _ (if (((sIx items.size 0 lo:Nat):Int)==0&&(1:Int)==1&&(sIx items.size items.size hi-sIx items.size 0 lo)==items.size)=true then _ else _) _ _ s;rw[if_neg hno,z7r];first
  |exact Ab (Dm (An ⟨_,rfl,An h⟩) htake)
  |exact Ab (Dm (Ab (An (An ⟨_,rfl,An h⟩))) htake)
  |exact Ab (Ab (Dm (An (An ⟨_,rfl,An h⟩)) htake))
  |exact Ab (Ab (Dm (An ⟨_,rfl,An h⟩) htake))
end
end HT
namespace L2
open PySem PySem.Spec PyProof.Rows
abbrev TO:=St->Hp->(Option Int->Hp->Prop)->Prop
def PO(X:Cx)(e:Option Expr)(t:TO):Prop :=
 ∀(pins:List (Addr×Obj)) (s:Ag) (σ:St) (H:Hp) (Q:Option Int->Hp->Prop),Inv X pins σ H s->t σ H Q ->
  wpAny (model X.prog X.w) X.A (evalPart e X.env) (fun u s'=>∃o H',Inv X pins σ H' s'/\Jl u o/\Q o H') X.xe s
def tNoPart:TO:=fun _ H Q=>Q none H
def tPart(t:TE):TO:=fun σ H Q=>t σ H fun x H1=>∃i,x=.int i/\Q (some i) H1
section
variable{X:Cx}{e:Expr}{te:TE}{lo hi:Option Expr}{tl th:TO}{pos p2:Pos}
theorem q7i:PO X none tNoPart:=by
 intro pins s σ H Q I h;exact An ⟨none,H,I,.none,h⟩
theorem q1i(h:PE X e te):PO X (some e) (tPart te):=by
 intro pins s σ H Q I hw;refine thn (h pins s σ H _ I hw) fun u s1 ⟨x,H1,I1,r1,q1⟩=>?_;obtain⟨i,rfl,q⟩:=q1;obtain⟨t,rfl⟩:=r1;exact⟨some i,H1,I1,.int i t,q⟩
def SlR(X:Cx)(r:V->Option Int->Option Int->Hp->VK->Prop):Prop :=
 ∀(pins:List (Addr×Obj)) (s:Ag) (σ:St) (H:Hp) (x:V) (v vl vu:Value) (lo hi:Option Int) (sl:Addr) (Q:VK),Inv X pins σ H s->RelV x v->s.heap.IsSliceOf sl vl vu .none->Jl vl lo->Jl vu hi->r x lo hi H Q ->
  ∃T id,Oj (.type T) "__getitem__" = pure (some (.builtin id))/\s.TypeIs v T/\wpAny (model X.prog X.w) X.A (getItem v (.ref sl)) (EP X pins σ Q) X.xe s
theorem SlR.or(h:SlR X r)(h':SlR X r'):SlR X (fun x lo hi H Q=>r x lo hi H Q\/r' x lo hi H Q):=by
 intro pins s σ H x v vl vu lo hi sl Q I rx hs pl pu q;rcases q with q|q
 ·exact h pins s σ H x v vl vu lo hi sl Q I rx hs pl pu q
 ·exact h' pins s σ H x v vl vu lo hi sl Q I rx hs pl pu q
def tSl(r:V->Option Int->Option Int->Hp->VK->Prop)(te:TE)(tl th:TO):TE:=fun σ H Q=>te σ H fun x H1=>tl σ H1 fun l H2=>th σ H2 fun u H3=>r x l u H3 Q
theorem q1u{r:V->Option Int->Option Int->Hp->VK->Prop}(hr:SlR X r)(he:PE X e te)(hl:PO X lo tl)(hu:PO X hi th):PE X (.Subscript e (.Slice lo hi none p2) pos) (tSl r te tl th):=by
 intro pins s σ H Q I h;refine Ol (thn (he pins s σ H _ I h) fun v s1 ⟨x,H1,I1,r1,q1⟩=>?_);refine wpAny_Slice (thn (hl pins s1 σ H1 _ I1 q1) fun vl s2 ⟨l,H2,I2,pl,q2⟩=>thn (hu pins s2 σ H2 _ I2 q2) fun vu s3 ⟨u,H3,I3,pu,q3⟩=>?_);refine An ?_;have I4:Inv X pins σ H3 { s3 with heap:=s3.heap.push { cls:=.type "slice",data:=.fields #[vl,vu,.none] } }:=I3.kept (t':=s3.toks) fun b ob q=>Ak _ q;obtain⟨T,id,hT,ht,hg⟩:=hr pins { s3 with heap:=s3.heap.push { cls:=.type "slice",data:=.fields #[vl,vu,.none] } } σ H3 x v vl vu l u s3.heap.objs.size Q I4 r1 (Heap.IsSliceOf.new ..) pl pu q3;exact tail_any ht hT hg (by with_unfolding_all rfl)
def cutV(xs:List V)(lo hi:Option Int):List V:=(xs.drop (HT.sIx xs.length 0 lo)).take (HT.sIx xs.length xs.length hi-HT.sIx xs.length 0 lo)
theorem q5i(xs:List V)(lo hi:Option Int):(cutV xs lo hi).length<=xs.length:=by
 unfold cutV;rw[Bv,Bk];lia
def rSlT(K:Ae):V->Option Int->Option Int->Hp->VK->Prop:=fun x lo hi H Q=>∃a xs,x=.ref a/\SqT K H a xs /\
 ¬(HT.sIx xs.length 0 lo=0/\HT.sIx xs.length xs.length hi=xs.length)/\∀p,H p=none->Q (.ref p) (upd H p (.tup (cutV xs lo hi)))
theorem sl_tup:SlR X (rSlT X.K):=by
 intro pins s σ H x v vl vu lo hi sl Q I rx hs pl pu h;obtain⟨a,xs,rfl,hx,hw,q⟩:=h;cases rx;obtain⟨its,r,ht,hz⟩:=I.tuple hx;have hlen:its.toArray.size=xs.length:=by rw[Az];exact r.length.symm
 refine⟨"tuple",_,Ex.lookup,ht.typeIs,?_⟩;refine HT.getItem_tuple_cut ht hs pl pu (by rw[hlen];exact hw) ?_ (by rw[hlen];exact hz);rw[hlen];refine⟨.ref s.heap.objs.size,_,I.laid (t':=s.toks) (fun b ob q=>Ak _ q) (Af _) ?_,rfl,q _ (I.hok.fresh (Af _))⟩;exact⟨Ap (q5i xs lo hi) hz,_,(r.drop (HT.sIx xs.length 0 lo)).take (HT.sIx xs.length xs.length hi-HT.sIx xs.length 0 lo),IsTup.new _ _⟩
end
open PySem PySem.Spec PyProof.Rows
def ixN(n:Nat)(i:Int):Option Nat:=if 0<=i then(if i<n then some i.toNat else none) else if -(n:Int)<=i then some (i+n).toNat else none
def atI{α:Type}(xs:List α)(i:Int):Option α:=(ixN xs.length i).bind fun j=>xs[j]?
theorem z4u(h:ixN n i=some j):seqIndex? i n=some j/\j<n /\ -(n:Int)<=i/\i<n:=by
 unfold ixN at h;by_cases h0:0<=i
 ·rw[if_pos h0] at h;by_cases h1:i<n
  ·rw[if_pos h1] at h;have e:=Bq h;exact⟨by rw[Ld h0 h1,e],by lia,by lia,h1⟩
  ·grind
 ·rw[if_neg h0] at h;by_cases h1 : -(n:Int)<=i
  ·rw[if_pos h1] at h;have e:=Bq h;exact⟨by rw[seqIndex_neg (by lia) h1,e],by lia,h1,by lia⟩
  ·grind
theorem q7j{xs:List α}{v:α}(h:atI xs i=some v):∃j,seqIndex? i xs.length=some j/\xs[j]?=some v/\j<xs.length /\ -(xs.length:Int)<=i/\i<xs.length:=by
 unfold atI at h;cases e:ixN xs.length i with
 |none=>rw[e] at h;cases h
 |some j =>
  rw[e] at h;obtain⟨h1,h2,h3,h4⟩:=z4u e;exact⟨j,h1,h,h2,h3,h4⟩
theorem q1m{xs:List α}{j:Nat}{v:α}(h:xs[j]?=some v):atI xs (j:Int)=some v:=by
 have hj:=(Aj.mp h).1;have e:ixN xs.length (j:Int)=some j:=by
  unfold ixN;rw[if_pos (by lia),if_pos (by lia)];simp
 unfold atI;rw[e];exact h
theorem z1z(xs:List α)(v:α):atI (xs++[v]) (-1)=some v:=by
 have hl:(xs++[v]).length=xs.length+1:=by simp
 have e:ixN (xs++[v]).length (-1)=some xs.length:=by
  unfold ixN;rw[hl,if_neg (by decide),if_pos (by lia)];congr 1;lia
 unfold atI;rw[e];simp
def PlainIx(b:Expr):Prop:=∀o i,Le b false o i=operate [o,i] (getItem o i)
def IxR(X:Cx)(r:R2):Prop :=
 ∀(value slice:Expr) (pins:List (Addr×Obj)) (s:Ag) (σ:St) (H:Hp) (x y:V) (v u:Value) (Q:VK),Inv X pins σ H s->RelV x v->RelV y u->r x y H Q ->
  Le slice false v u=operate [v,u] (getItem v u)->wpAny (model X.prog X.w) X.A (subscriptTail value slice v u) (EP X pins σ Q) X.xe s
def MtR(X:Cx)(id:String)(r:V->List V->Hp->VK->Prop):Prop :=
 ∀(pins:List (Addr×Obj)) (s:Ag) (σ:St) (H:Hp) (x:V) (xs:List V) (v:Value) (us:List Value) (Q:VK),Inv X pins σ H s->RelV x v->Vals xs us->r x xs H Q ->
  wpAny (model X.prog X.w) X.A (call (.builtin id) (v::us)) (EP X pins σ Q) X.xe s
section
variable{X:Cx}{a b:Expr}{ta tb:TE}{pos:Pos}
theorem IxR.or(h:IxR X r)(h':IxR X r'):IxR X (fun x y H Q=>r x y H Q\/r' x y H Q):=by
 intro value slice pins s σ H x y v u Q I rx ry q hs;rcases q with q|q
 ·exact h value slice pins s σ H x y v u Q I rx ry q hs
 ·exact h' value slice pins s σ H x y v u Q I rx ry q hs
theorem MtR.or{id:String}(h:MtR X id r)(h':MtR X id r'):MtR X id (fun x xs H Q=>r x xs H Q\/r' x xs H Q):=by
 intro pins s σ H x xs v us Q I rx rs q;rcases q with q|q
 ·exact h pins s σ H x xs v us Q I rx rs q
 ·exact h' pins s σ H x xs v us Q I rx rs q
theorem q0t{r:R2}(hr:IxR X r)(ha:PE X a ta)(hb:PE X b tb)(hs:PlainIx b):PE X (.Subscript a b pos) (tOp r ta tb):=by
 intro pins s σ H Q I h;exact Ol (binT ha hb I h fun v u s2 x y H2 I2 rx ry q=>hr a b pins s2 σ H2 x y v u Q I2 rx ry q (hs _ _))
def rIxL(K:Ae):R2:=fun x y H Q=>∃p xs i v,x=.ref p/\y=.int i/\SqL K H p xs/\atI xs i=some v/\Q v H
def rIxT(K:Ae):R2:=fun x y H Q=>∃p xs i v,x=.ref p/\y=.int i/\SqT K H p xs/\atI xs i=some v/\Q v H
def rIxS:R2:=fun x y H Q=>∃z i c,x=.str z/\y=.int i/\z.length<=sizeLine/\atI z.cps.toList i=some c/\Q (.str ⟨#[c]⟩) H
theorem ix_list:IxR X (rIxL X.K):=by
 intro value slice pins s σ H x y v u Q I rx ry h hs;obtain⟨p,xs,i,z,rfl,rfl,hq,he,q⟩:=h;cases rx;obtain⟨t,rfl⟩:=ry;obtain⟨its,r,pl,hz⟩:=I.list hq;obtain⟨j,h1,h2,h3,h4,h5⟩:=q7j he;obtain⟨w,ew,rw'⟩:=r.get h2;have hl:=r.length;have hn:=line63;have fin:EP X pins σ Q w s:=⟨z,H,I,rw',q⟩
 by_cases h0:0<=i
 ·have hj:i.toNat=j:=by
   rw[Ld h0 h5] at h1;exact Bq h1
  exact item_listR pl.isList h0 (by lia) (by rw[hj];simpa using ew) fin hs
 ·have hj:(i+(its.toArray.size:Int)).toNat=j:=by
   rw[seqIndex_neg (by lia) h4] at h1;rw[Az,<- hl];exact Bq h1
  exact Lf pl.isList.typeIs slot_list_getitem.lookup
   (Lg pl.isList (by lia) (by rw[Az]<;>lia) (by lia) (by rw[hj];simpa using ew) ⟨rfl,fin⟩) hs
theorem ix_tup:IxR X (rIxT X.K):=by
 intro value slice pins s σ H x y v u Q I rx ry h hs;obtain⟨p,xs,i,z,rfl,rfl,hq,he,q⟩:=h;cases rx;obtain⟨t,rfl⟩:=ry;obtain⟨its,r,pl,hz⟩:=I.tuple hq;obtain⟨j,h1,h2,h3,h4,h5⟩:=q7j he;obtain⟨w,ew,rw'⟩:=r.get h2;have hl:=r.length;have hn:=line63;have fin:EP X pins σ Q w s:=⟨z,H,I,rw',q⟩
 exact Lf pl.typeIs slot_tuple_getitem.lookup
  (getItem_tuple pl (by lia) (by lia) (by rw[Az,<- hl];exact h1) (by simpa using ew) ⟨rfl,fin⟩) hs
theorem ix_str:IxR X rIxS:=by
 intro value slice pins s σ H x y v u Q I rx ry h hs;obtain⟨z,i,c,rfl,rfl,hz,he,q⟩:=h;obtain⟨t,rfl⟩:=rx;obtain⟨t',rfl⟩:=ry;obtain⟨j,h1,h2,h3,h4,h5⟩:=q7j he;have hl:z.cps.toList.length=z.length:=by simp[Str.length]
 rw[hl] at h1 h4 h5;have hn:=line63;exact tail_any (Ff s z t) slot_str_getitem.lookup (getItem_str (by
  have e1:decide (i < -(2^63:Int))=false:=decide_eq_false (by lia);have e2:decide (i>=2^63)=false:=decide_eq_false (by lia);rw[e1,e2,Bool.or_false]) (by rw[h1];simpa using h2) ⟨.str ⟨#[c]⟩,H,I.tok _,⟨_,rfl⟩,q⟩) hs
def rIx(K:Ae):R2:=fun x y H Q=>rIxL K x y H Q\/rIxT K x y H Q\/rIxS x y H Q
theorem ix_seq:IxR X (rIx X.K):=ix_list.or (ix_tup.or ix_str)
theorem z3m(its:List Value)(n j:Nat)(u:Value):Kc (·.setIfInBounds j u) { cls:=.type "list",data:=.seq its.toArray n }={ cls:=.type "list",data:=.seq (its.set j u).toArray n }:=by
 simp[Kc]
theorem Inv.lst{pins:List (Addr×Obj)}{σ:St}{H:Hp}{s:Ag}{p:Addr}{xs:List V}(I:Inv X pins σ H s)(h:H p=some (.lst xs)):
  ∃(its:List Value) (n:Nat),Vals xs its/\s.heap.get? p=some { cls:=.type "list",data:=.seq its.toArray n }/\xs.length<=sizeLine:=by
 obtain⟨z,its,n,r,e⟩:=I.hok p _ h;exact⟨its,n,r,e,z⟩
theorem Inv.lstUpd{σ:St}{its:List Value}(I:Inv X pins σ H s)(h:H p=some (.lst xs))(ho:s.heap.get? p=some { cls:=.type "list",data:=.seq its.toArray n })(hf:f { cls:=.type "list",data:=.seq its.toArray n }={ cls:=.type "list",data:=.seq its'.toArray n' })(r:Vals ys its')(hz:ys.length<=sizeLine)(t:Nat):
  Inv X pins σ (upd H p (.lst ys)) { s with heap:=s.heap.update p f,toks:=t }:=by
 have e:(s.heap.update p f).get? p=some { cls:=.type "list",data:=.seq its'.toArray n' }:=by
  rw[Lq f ho (by rw[hf]<;>rfl),hf]
 refine I.write (by rw[h];trivial) (.inl rfl) (fun b u hb q=>(Lh _ _ (Gk hb)).trans q) ⟨_,e⟩ ?_;exact⟨hz,its',n',r,e⟩
def rSetL:V->V->V->Hp->(Hp->Prop)->Prop:=fun o i v H Q=>∃p xs k j,o=.ref p/\i=.int k/\H p=some (.lst xs)/\ixN xs.length k=some j/\Q (upd H p (.lst (xs.set j v)))
theorem q4x:PSet X rSetL:=by
 intro pins s σ H o i v ov iv u Q I ro ri rv h;obtain⟨p,xs,k,j,rfl,rfl,hp,hj,q⟩:=h;cases ro;obtain⟨t,rfl⟩:=ri;obtain⟨its,n,r,ho,hz⟩:=I.lst hp;obtain⟨h1,h2,h3,h4⟩:=z4u hj;have hl:=r.length;have hn:=line63;have I':Inv X pins σ (upd H p (.lst (xs.set j v))) { s with heap:=s.heap.update p (Kc (·.setIfInBounds j u)) } :=
  I.lstUpd hp ho (z3m its n j u) (r.set rv j) (by rw[List.length_set];exact hz) s.toks
 by_cases h0:0<=k
 ·have hk:k.toNat=j:=by
   rw[Ld h0 h4] at h1;exact Bq h1
  exact W.ki_setAt ho h0 (by lia) (by rw[Az,<- hl];exact h4) (by rw[hk];exact⟨_,I',q⟩)
 ·have hk:(k+(its.toArray.size:Int)).toNat=j:=by
   rw[seqIndex_neg (by lia) h3] at h1;rw[Az,<- hl];exact Bq h1
  exact W.ki_setBack ho (by lia) (by rw[Az,<- hl];exact h3) (by lia) (by rw[hk];exact⟨_,I',q⟩)
theorem q9j(lo hi:Option Int)(n:Nat):(Gm lo hi none n).1=((HT.sIx n 0 lo:Nat):Int)/\(Gm lo hi none n).2.1=((HT.sIx n n hi:Nat):Int)/\(Gm lo hi none n).2.2=1:=by
 refine⟨?_,?_,rfl⟩
 ·cases lo with
  |none=>simp[Gm,HT.sIx]
  |some i =>
   simp only[Gm,HT.sIx,Nz,show(1:Int)>0 by decide,if_true];by_cases h:i<0
   ·simp only[h,if_true]<;>lia
   ·simp only[h,if_false]<;>lia
 ·cases hi with
  |none=>simp[Gm,HT.sIx]
  |some i =>
   simp only[Gm,HT.sIx,Nz,show(1:Int)>0 by decide,if_true];by_cases h:i<0
   ·simp only[h,if_true]<;>lia
   ·simp only[h,if_false]<;>lia
theorem q7k(its:List Value)(lo hi:Option Int):slicePick its.toArray lo hi none=((its.drop (HT.sIx its.length 0 lo)).take (HT.sIx its.length its.length hi-HT.sIx its.length 0 lo)).toArray:=by
 obtain⟨h1,h2,h3⟩:=q9j lo hi its.toArray.size;unfold slicePick;rw[h1,h2,h3];simp only[sliceRange_one,pick_run,Az]<;>rfl
def rSlL(K:Ae):V->Option Int->Option Int->Hp->VK->Prop:=fun x lo hi H Q=>∃a xs,x=.ref a/\SqL K H a xs/\∀p,H p=none->Q (.ref p) (upd H p (.lst (cutV xs lo hi)))
theorem sl_list:SlR X (rSlL X.K):=by
 intro pins s σ H x v vl vu lo hi sl Q I rx hs pl pu h;obtain⟨a,xs,rfl,hx,q⟩:=h;cases rx;obtain⟨its,r,ht,hz⟩:=I.list hx;have hlen:=r.length;refine⟨"list",_,slot_list_getitem.lookup,ht.isList.typeIs,?_⟩;refine wpAny_getItem_list_slice ht.isList hs pl pu .none (by simp) ?_ (by rw[Az]<;>lia);rw[q7k,<- hlen];refine⟨.ref s.heap.objs.size,_,I.laid (t':=s.toks) (fun b ob q=>Ak _ q) (Af _) ?_,rfl,q _ (I.hok.fresh (Af _))⟩;exact⟨Ap (q5i xs lo hi) hz,_,0,(r.drop (HT.sIx xs.length 0 lo)).take (HT.sIx xs.length xs.length hi-HT.sIx xs.length 0 lo),Bc _ rfl⟩
def flatV:V->Bool
 |.non=>true
 |.bl _=>true
 |.int _=>true
 |.str _=>true
 |_=>false
def eqV:V->V->Bool
 |.non,.non=>true
 |.bl a,.bl b=>a==b
 |.bl a,.int b=>(if a then 1 else 0)==b
 |.int a,.bl b=>a==(if b then 1 else 0)
 |.int a,.int b=>a==b
 |.str a,.str b=>a==b
 |_,_=>false
theorem eqAt_V(ry:RelV y u)(rx:RelV x v)(fy:flatV y=true)(fx:flatV x=true):Dd A s u v (eqV y x):=by
 cases y with
 |non =>
  cases ry;cases x with
  |non=>cases rx;exact Dd.same _
  |bl b=>cases rx;exact Dd.none_bool b
  |int b=>obtain⟨t,rfl⟩:=rx;exact Dd.none_int b t
  |str b=>obtain⟨t,rfl⟩:=rx;exact Dd.none_str b t
  |_=>exact absurd (show false=true from fx) Bf
 |bl a =>
  cases ry;cases x with
  |non=>cases rx;exact Dd.bool_none a
  |bl b=>cases rx;exact Dd.bool_bool a b
  |int b=>obtain⟨t,rfl⟩:=rx;exact Dd.bool_int a b t
  |str b=>obtain⟨t,rfl⟩:=rx;exact Dd.bool_str a b t
  |_=>exact absurd (show false=true from fx) Bf
 |int a =>
  obtain⟨t',rfl⟩:=ry;cases x with
  |non=>cases rx;exact Dd.int_none a t'
  |bl b=>cases rx;exact Dd.int_bool a t' b
  |int b=>obtain⟨t,rfl⟩:=rx;exact Dd.int_int a t' b t
  |str b=>obtain⟨t,rfl⟩:=rx;exact Mt a t' b t
  |_=>exact absurd (show false=true from fx) Bf
 |str a =>
  obtain⟨t',rfl⟩:=ry;cases x with
  |non=>cases rx;exact Dd.str_none a t'
  |bl b=>cases rx;exact Dd.str_bool a t' b
  |int b=>obtain⟨t,rfl⟩:=rx;exact Mu a t' b t
  |str b=>obtain⟨t,rfl⟩:=rx;exact Dd.str_str a t' b t
  |_=>exact absurd (show false=true from fx) Bf
 |_=>exact absurd (show false=true from fy) Bf
def eqU(x:V)(u:Value):Bool:=match u with
 |.none=>eqV .non x
 |.bool b=>eqV (.bl b) x
 |.int i _=>eqV (.int i) x
 |.str z _=>eqV (.str z) x
 |_=>false
theorem z9p(r:RelV y u)(f:flatV y=true):eqU x u=eqV y x:=by
 cases y with
 |non=>cases r;rfl
 |bl b=>cases r;rfl
 |int i=>obtain⟨t,rfl⟩:=r;rfl
 |str z=>obtain⟨t,rfl⟩:=r;rfl
 |_=>exact absurd (show false=true from f) Bf
theorem q5j{x:V}:∀{xs:List V} {us:List Value},Vals xs us->xs.all flatV=true->us.any (eqU x)=xs.any fun y=>eqV y x
 |_,_,.nil,_=>rfl
 |y::xs,u::us,.cons r t,f=>by
  rw[List.all_cons,Fy] at f;rw[Ml,Ml,z9p r f.1,q5j t f.2]
theorem q4a{A:Around}{s:Ag}{x:V}{v:Value}(rx:RelV x v)(fx:flatV x=true):∀{xs:List V} {us:List Value},Vals xs us->xs.all flatV=true->∀u∈us,Dd A s u v (eqU x u)
 |_,_,.nil,_=>fun u hu=>by cases hu
 |y::xs,u::us,.cons r t,f=>fun u' hu=>by
  rw[List.all_cons,Fy] at f;rcases Am.mp hu with rfl|hu
  ·rw[z9p r f.1];exact eqAt_V r rx f.1 fx
  ·exact q4a rx fx t f.2 u' hu
def inV(x:V)(xs:List V):Bool:=xs.any fun y=>eqV y x
def rIn(K:Ae)(neg:Bool):R2:=fun x y H Q=>∃p xs,y=.ref p/\(SqL K H p xs\/SqT K H p xs)/\flatV x=true/\xs.all flatV=true/\Q (.bl (if neg then !inV x xs else inV x xs)) H
theorem z4v:OpR X (Ck .In) (rIn X.K false):=by
 intro pins s σ H x y v u Q I rx ry h;obtain⟨p,xs,rfl,hq,fx,fs,q⟩:=h;cases ry;rcases hq with hq|hq
 ·obtain⟨its,r,pl,hz⟩:=I.list hq;refine SeqAt.in_listAt (eqU x) pl.isList (fun w hw=>q4a rx fx r fs w (by simpa using hw)) ⟨.bl _,H,I,rfl,?_⟩;rw[show its.toArray.any (eqU x)=its.any (eqU x) by simp,q5j r fs];exact q
 ·obtain⟨its,r,pl,hz⟩:=I.tuple hq;refine SeqAt.in_tupleAt (eqU x) pl (fun w hw=>q4a rx fx r fs w (by simpa using hw)) ⟨.bl _,H,I,rfl,?_⟩;rw[show its.toArray.any (eqU x)=its.any (eqU x) by simp,q5j r fs];exact q
theorem q9k:OpR X (Ck .NotIn) (rIn X.K true):=by
 intro pins s σ H x y v u Q I rx ry h;obtain⟨p,xs,rfl,hq,fx,fs,q⟩:=h;cases ry;rcases hq with hq|hq
 ·obtain⟨its,r,pl,hz⟩:=I.list hq;refine SeqAt.notIn_listAt (eqU x) pl.isList (fun w hw=>q4a rx fx r fs w (by simpa using hw)) ⟨.bl _,H,I,rfl,?_⟩;rw[show its.toArray.any (eqU x)=its.any (eqU x) by simp,q5j r fs];exact q
 ·obtain⟨its,r,pl,hz⟩:=I.tuple hq;refine SeqAt.notIn_tupleAt (eqU x) pl (fun w hw=>q4a rx fx r fs w (by simpa using hw)) ⟨.bl _,H,I,rfl,?_⟩;rw[show its.toArray.any (eqU x)=its.any (eqU x) by simp,q5j r fs];exact q
theorem op_notIn_str:OpR X (Ck .NotIn) (fun x y H Q=>∃i j,x=.str i/\y=.str j/\Q (.bl (!(!(Dc j i 0 j.length 1).isEmpty))) H):=by
 intro pins s σ H x y v u Q I rx ry h;obtain⟨i,j,rfl,rfl,q⟩:=h;obtain⟨t,rfl⟩:=rx;obtain⟨t',rfl⟩:=ry;exact notIn_str ⟨.bl _,H,I,rfl,q⟩
theorem CallR.or(h:CallR X f r)(h':CallR X f r'):CallR X f (fun xs H Q=>r xs H Q\/r' xs H Q):=by
 intro pins s σ H xs us Q I rs q;rcases q with q|q
 ·exact h pins s σ H xs us Q I rs q
 ·exact h' pins s σ H xs us Q I rs q
theorem q9l:CallR X (.type "list") (fun xs H Q=>∃p ys,xs=[.ref p]/\(SqL X.K H p ys\/SqT X.K H p ys)/\∀l,H l=none->Q (.ref l) (upd H l (.lst ys))):=by
 intro pins s σ H xs us Q I r h;obtain⟨p,ys,rfl,hq,q⟩:=h;obtain⟨u,rfl,rx⟩:=vals1 r;cases rx;have fin:∀(its:List Value),Vals ys its->ys.length<=sizeLine->∀(h':Heap) (c':Nat),(∀b o',s.heap.get? b=some o'->h'.get? b=some o') ->
   h'.get? s.heap.objs.size=some { cls:=.type "list",dict:=none,data:=.seq its.toArray c',slots:=#[] }->EP X pins σ Q (.ref s.heap.objs.size) { s with heap:=h' }:=fun its r' hz h' c' kp e =>
  ⟨.ref s.heap.objs.size,_,I.laid (t':=s.toks) kp (Af _) (show ObjOk X.prog X.w _ h' _ (.lst ys) from⟨hz,its,c',r',e⟩),rfl,q _ (I.hok.fresh (Af _))⟩
 rcases hq with hq|hq
 ·obtain⟨its,r',pl,hz⟩:=I.list hq;have hlen:=r'.length;obtain⟨o,ho,hc,n,hd⟩:=pl.isList;exact call_list_seq p (.inl rfl) ho hc hd (fun h' c' kp e=>fin its r' hz h' c' kp e) (by simp only[Az]<;>lia)
 ·obtain⟨its,r',pl,hz⟩:=I.tuple hq;have hlen:=r'.length;obtain⟨o,ho,hc,n,hd⟩:=pl;exact call_list_seq p (.inr rfl) ho hc hd (fun h' c' kp e=>fin its r' hz h' c' kp e) (by simp only[Az]<;>lia)
theorem q7l:CallR X (.type "tuple") (fun xs H Q=>∃p ys,xs=[.ref p]/\((SqL X.K H p ys/\∀l,H l=none->Q (.ref l) (upd H l (.tup ys)))\/(SqT X.K H p ys/\Q (.ref p) H))):=by
 intro pins s σ H xs us Q I r h;obtain⟨p,ys,rfl,h⟩:=h;obtain⟨u,rfl,rx⟩:=vals1 r;cases rx;rcases h with⟨hq,q⟩|⟨hq,q⟩
 ·obtain⟨its,r',pl,hz⟩:=I.list hq;have hlen:=r'.length;refine call_tuple_list pl.isList (fun h' kp=>?_) (by simp only[Az]<;>lia);have I1:Inv X pins σ H { s with heap:=h' }:=I.kept (t':=s.toks) kp;have I2:Inv X pins σ (upd H h'.objs.size (.tup ys)) { s with heap:=h'.push { cls:=.type "tuple",data:=.seq its.toArray } } :=
   I1.laid (t':=s.toks) (fun b o e=>Ak _ e) (Af _) (show ObjOk X.prog X.w _ _ _ (.tup ys) from⟨hz,its,r',IsTup.new _ _⟩)
  exact⟨.ref h'.objs.size,_,I2,rfl,q _ (I1.hok.fresh (Af _))⟩
 ·obtain⟨its,r',pl,hz⟩:=I.tuple hq;exact call_tuple_same pl ⟨.ref p,H,I,rfl,q⟩
def tyV(K:Ae)(T:String)(x:V)(H:Hp):Prop:=match x with
 |.str _=>T = "str"
 |.int _=>T = "int"
 |.ref p=>(T = "list" /\ ∃xs,SqL K H p xs)\/(T = "tuple" /\ ∃o,K.lookup p=some o/\o.cls=.type "tuple" /\ o.dict=none) \/
   (T = "dict" /\ ((∃kvs,H p=some (.dK kvs))\/∃kvs,H p=some (.dT kvs)))\/(T = "set" /\ ∃S n,H p=some (.set S n))
 |_=>False
theorem z9q{σ:St}(I:Inv X pins σ H s)(r:RelV x v)(ty:tyV X.K T x H):
  s.TypeIs v T/\∀a,v=.ref a->∃ob,s.heap.get? a=some ob/\ob.dict=none:=by
 cases x with
 |str z =>
  obtain⟨t,rfl⟩:=r;cases(show T = "str" from ty);exact⟨Ff s z t,fun _ e=>nomatch e⟩
 |int i =>
  obtain⟨t,rfl⟩:=r;cases(show T = "int" from ty);exact⟨Om s i t,fun _ e=>nomatch e⟩
 |ref p =>
  cases r;rcases ty with⟨rfl,xs,hq⟩|⟨rfl,o,hk,hc,hd⟩|⟨rfl,hk⟩|⟨rfl,S,n,hk⟩
  ·obtain⟨its,_,pl,_⟩:=I.list hq;refine⟨pl.isList.typeIs,fun a e=>?_⟩;cases e;obtain⟨o,n,e,c,hd,_⟩:=pl;exact⟨o,e,hd⟩
  ·refine⟨⟨o,I.kIn p o hk,hc⟩,fun a e=>?_⟩;cases e;exact⟨o,I.kIn _ o hk,hd⟩
  ·have z:∃o,s.heap.get? p=some o/\o.ExactDict:=by
    rcases hk with⟨kvs,hk⟩|⟨kvs,hk⟩
    ·obtain⟨_,_,_,_,o,_,_,e,ex,_⟩:=I.hok p _ hk;exact⟨o,e,ex⟩
    ·obtain⟨_,_,_,_,o,_,_,e,ex,_⟩:=I.hok p _ hk;exact⟨o,e,ex⟩
   obtain⟨o,e,ex⟩:=z;refine⟨⟨o,e,ex.1⟩,fun a e2=>?_⟩;cases e2;exact⟨o,e,ex.2.1⟩
  ·obtain⟨o,_,_,_,e,ex,_⟩:=I.hok p _ hk;refine⟨⟨o,e,ex.1⟩,fun a e2=>?_⟩;cases e2;exact⟨o,e,ex.2.1⟩
 |_=>exact False.elim ty
def tBM0(K:Ae)(T:String)(r:V->List V->Hp->VK->Prop)(to:TE):TE:=fun σ H Q=>to σ H fun x H1=>tyV K T x H1/\r x [] H1 Q
def tBM(K:Ae)(T:String)(r:V->List V->Hp->VK->Prop)(to:TE)(t:TA):TE:=fun σ H Q=>to σ H fun x H1=>tyV K T x H1/\t σ H1 fun xs H2=>r x xs H2 Q
variable{o e:Expr}{es:List Expr}{to:TE}{t:TA}{name:Str}{apos cpos:Pos}{T id:String}{r:V->List V->Hp->VK->Prop}
theorem pe_bm0(pa:Mi T)(slot:Slot T name id)(hty:typeOf (.builtin id)=pure (.type "method_descriptor"))(hm:MtR X id r)(ho:PE X o to)(hbase:Gh o name X.env (eval o X.env)=eval o X.env:=by rfl)(hline:(apos.endLine==cpos.line)=true:=by rfl):PE X (.Call (.Attribute o name apos) [] [] cpos) (tBM0 X.K T r to):=by
 intro pins s σ H Q I h;refine wpAny_Call_method0_late hbase hline (thn (ho pins s σ H _ I h) fun v s1 ⟨x,H1,I1,r1,ty,q1⟩=>?_);obtain⟨h1,h2⟩:=z9q I1 r1 ty;exact⟨T,id,pa,slot,hty,h1,h2,Fm rfl (PySem.evalArgs_none (hm pins s1 σ H1 x [] v [] Q I1 r1 .nil q1))⟩
theorem pe_bm(pa:Mi T)(slot:Slot T name id)(hty:typeOf (.builtin id)=pure (.type "method_descriptor"))(hm:MtR X id r)(ho:PE X o to)(ha:PA X (e::es) t)(hbase:Gh o name X.env (eval o X.env)=eval o X.env:=by rfl)(hfew:((Fc cpos (Be (e::es) X.env)).all (fun x => !x.1)&&(Oa cpos (Li [] X.env)).all (fun x=>x.1.isSome)
   && decide ((e::es).length+([]:List Je).length+(if ([]:List Je).isEmpty then 0 else 1)<30))=true:=by rfl)(hline:(apos.endLine==cpos.line)=true:=by rfl)(hs:Be (e::es) X.env=(false,eval e X.env)::Be es X.env:=by rfl)(hplain:(Fc cpos (Be es X.env)).any (·.1)=false:=by rfl):
  PE X (.Call (.Attribute o name apos) (e::es) [] cpos) (tBM X.K T r to t):=by
 intro pins s σ H Q I h;refine Ho hbase hfew hline rfl (thn (ho pins s σ H _ I h) fun v s1 ⟨x,H1,I1,r1,ty,q1⟩=>?_);obtain⟨h1,h2⟩:=z9q I1 r1 ty;refine⟨T,id,pa,slot,hty,h1,h2,?_⟩;have hA:=ha cpos pins s1 σ H1 _ I1 q1;rw[hs] at hA ⊢;refine Fm (by show(false||(Fc cpos (Be es X.env)).any (·.1))=false;rw[hplain]<;>rfl) (Ik ?_);exact thn hA fun us s2 ⟨vs,H2,I2,r2,q2⟩=>hm pins s2 σ H2 x vs v us Q I2 r1 r2 q2
end
open PySem PySem.Spec PyProof.Rows
def MtM(X:Cx)(id:String)(r:V->List V->Hp->VK->Prop):Prop :=
 ∀(pins:List (Addr×Obj)) (s:Ag) (σ:St) (H:Hp) (x:V) (xs:List V) (v:Value) (us:List Value) (Q:VK),Inv X pins σ H s->RelV x v->Vals xs us->r x xs H Q ->
  wpAny (model X.prog X.w) X.A (call (.builtin id) (v::us)) (EP X pins σ Q) X.xe s
theorem Vals.one:∀{x:V} {us:List Value},Vals [x] us->∃u,us=[u]/\RelV x u
 |_,_,.cons r .nil=>⟨_,rfl,r⟩
theorem Vals.two:∀{x y:V} {us:List Value},Vals [x,y] us->∃u v,us=[u,v]/\RelV x u/\RelV y v
 |_,_,_,.cons r (.cons q .nil)=>⟨_,_,rfl,r,q⟩
theorem Vals.zero:∀{us:List Value},Vals [] us->us=[]
 |_,.nil=>rfl
theorem Vals.dropLast(h:Vals xs us):Vals xs.dropLast us.dropLast:=by
 induction h with
 |nil=>exact .nil
 |cons r t ih =>
  cases t with
  |nil=>exact .nil
  |cons q t'=>exact .cons r ih
theorem Vals.reverse(h:Vals xs us):Vals xs.reverse us.reverse:=by
 induction h with
 |nil=>exact .nil
 |cons r t ih=>rw[Jx,Jx];exact Vals.append ih (.cons r .nil)
theorem Vals.rep{xs:List V}{us:List Value}(h:Vals xs us):∀k:Nat,Vals (List.replicate k xs).flatten (List.replicate k us).flatten
 |0=>.nil
 |k+1=>by
  rw[Iz,Iz,Ct,Ct];exact Vals.append h (Vals.rep h k)
theorem q9m(its:List Value):∀(k:Nat) (acc:List Value),
  List.foldl (fun x1 x2=>x1++x2) acc.toArray (List.replicate k its.toArray)=(acc++(List.replicate k its).flatten).toArray
 |0,acc=>by simp
 |k+1,acc=>by
  have e:acc.toArray++its.toArray=(acc++its).toArray:=by simp
  have e2:(acc++its)++(List.replicate k its).flatten=acc++(List.replicate (k+1) its).flatten:=by grind
  rw[<- e2,<- q9m its k (acc++its),<- e,Iz,Dn]
section
variable{X:Cx}{pins:List (Addr×Obj)}{σ:St}{H:Hp}{s:Ag}{l b:Addr}{xs ys zs:List V}
theorem Inv.lset{its:List Value}(I:Inv X pins σ H s)(hH:H l=some (.lst xs))(e:s.heap.get? l=some { cls:=.type "list",data:=.seq its.toArray n })(hf:f its.toArray=its'.toArray)(hv:Vals ys its')(hz:ys.length<=sizeLine):
  Inv X pins σ (upd H l (.lst ys)) { s with heap:=s.heap.update l (Kc f),toks:=t' }:=by
 have q:=PySem.IsL.update e f;rw[hf] at q;refine I.write (by rw[hH];exact trivial) (.inl rfl) (fun b' u hb hu=>(Lh s.heap (Kc f) (Gk hb)).trans hu) ⟨_,q⟩ ?_;exact⟨hz,its',_,hv,q⟩
theorem Inv.lnew(I:Inv X pins σ H s)(hv:Vals ys its)(hz:ys.length<=sizeLine):
  Inv X pins σ (upd H s.heap.objs.size (.lst ys)) { s with heap:=s.heap.push { cls:=.type "list",data:=.seq its.toArray },toks:=t' } :=
 I.laid (fun _ _ q=>Ak _ q) (Af _) ⟨hz,its,0,hv,Bc _ rfl⟩
theorem Inv.fresh(I:Inv X pins σ H s):H s.heap.objs.size=none:=I.hok.fresh (Af _)
theorem Inv.lstM(I:Inv X pins σ H s)(hH:H l=some (.lst xs)):xs.length<=sizeLine/\∃(its:List Value) (n:Nat),Vals xs its/\xs.length=its.length/\s.heap.get? l=some { cls:=.type "list",data:=.seq its.toArray n }:=by
 obtain⟨z,its,n,r,e⟩:=I.hok l _ hH;exact⟨z,its,n,r,r.length,e⟩
theorem notLongL(h:n<=sizeLine):Hb n=false:=by
 exact decide_eq_false (by lia)
end
section
variable{X:Cx}
def rAppend:V->List V->Hp->VK->Prop:=fun x vs H Q=>∃l xs y,x=.ref l/\vs=[y]/\H l=some (.lst xs)/\xs.length<sizeLine/\Q .non (upd H l (.lst (xs++[y])))
theorem q1g:MtM X "list.append" rAppend:=by
 intro pins s σ H x vs v us Q I rx rv h;obtain⟨l,xs,y,rfl,rfl,hH,hz,q⟩:=h;cases rx;obtain⟨u,rfl,ru⟩:=rv.one;obtain⟨z,its,n,r,hl,e⟩:=I.lstM hH;refine Fz F.slot_list_append ⟨_,e,rfl⟩ F.entry_list_append (F.args_list_append_2 _ _) (PySem.list_append l its.toArray n u (by rw[Az];lia)) ⟨e,?_⟩;refine⟨.non,_,I.lset (its':=its++[u]) hH e (by simp) (r.append (.cons ru .nil)) ?_,rfl,q⟩;rw[Ac,Bh];lia
def rExtend:V->List V->Hp->VK->Prop:=fun x vs H Q=>∃l b xs zs,x=.ref l/\vs=[.ref b]/\H l=some (.lst xs)/\H b=some (.lst zs)/\xs.length+zs.length<=sizeLine/\Q .non (upd H l (.lst (xs++zs)))
theorem q9n:MtM X "list.extend" rExtend:=by
 intro pins s σ H x vs v us Q I rx rv h;obtain⟨l,b,xs,zs,rfl,rfl,hH,hB,hz,q⟩:=h;cases rx;obtain⟨u,rfl,ru⟩:=rv.one;cases ru;obtain⟨z,its,n,r,hl,e⟩:=I.lstM hH;obtain⟨z2,its2,n2,r2,hl2,e2⟩:=I.lstM hB;have hsz:its.toArray.size+its2.toArray.size<=sizeLine:=by grind
 have hlong:¬(!its.toArray.isEmpty&&Hb (its.toArray.size+its2.toArray.size))=true:=by
  rw[notLongL hsz,Bool.and_false];exact Bf
 refine Fz F.slot_list_extend ⟨_,e,rfl⟩ F.entry_list_extend (F.args_list_extend_2 _ _)
  (AutoSeq1.list_extend_list_list_0 l its.toArray n b its2.toArray n2 hlong (by rw[Az];lia) (by lia)) ⟨e,e2,?_⟩
 refine⟨.non,_,I.lset (its':=its++its2) hH e (by simp) (r.append r2) ?_,rfl,q⟩;rw[Ac];lia
def rReverse:V->List V->Hp->VK->Prop:=fun x vs H Q=>∃l xs,x=.ref l/\vs=[]/\H l=some (.lst xs)/\Q .non (upd H l (.lst xs.reverse))
theorem z3n:MtM X "list.reverse" rReverse:=by
 intro pins s σ H x vs v us Q I rx rv h;obtain⟨l,xs,rfl,rfl,hH,q⟩:=h;cases rx;have hus:=rv.zero;subst hus;obtain⟨z,its,n,r,hl,e⟩:=I.lstM hH;refine Fz F.slot_list_reverse ⟨_,e,rfl⟩ F.entry_list_reverse (F.args_list_reverse_1 _) (AutoSeq1.list_reverse_list_0 l its.toArray n (by rw[Az];lia)) ⟨e,?_⟩;refine⟨.non,_,I.lset (its':=its.reverse) hH e (by simp) r.reverse ?_,rfl,q⟩;rw[Ja];lia
def rCat:R2:=fun x y H Q=>∃l b xs zs,x=.ref l/\y=.ref b/\H l=some (.lst xs)/\H b=some (.lst zs)/\xs.length+zs.length<=sizeLine/\∀p,H p=none->Q (.ref p) (upd H p (.lst (xs++zs)))
theorem op_cat:OpR X (Ek .Add) rCat:=by
 intro pins s σ H x y v u Q I rx ry h;obtain⟨l,b,xs,zs,rfl,rfl,hH,hB,hz,q⟩:=h;cases rx;cases ry;obtain⟨z,its,n,r,hl,e⟩:=I.lstM hH;obtain⟨z2,its2,n2,r2,hl2,e2⟩:=I.lstM hB;refine PySem.P.add_list e e2 ?_ (by rw[Az,Az];lia);have ea:its.toArray++its2.toArray=(its++its2).toArray:=by simp
 rw[ea];exact⟨.ref _,_,I.lnew (t':=s.toks) (r.append r2) (by rw[Ac];lia),rfl,q _ I.fresh⟩
def rRep:R2:=fun x y H Q=>∃l k xs,x=.ref l/\y=.int k/\H l=some (.lst xs) /\ -(2^63)<=k/\k<2^63/\xs.length*k.toNat<=sizeLine /\
 ∀p,H p=none->Q (.ref p) (upd H p (.lst (List.replicate k.toNat xs).flatten))
theorem x0w{α:Type}(xs:List α)(k:Nat):(List.replicate k xs).flatten.length=k*xs.length:=by simp_all
theorem op_rep:OpR X (Ek .Mult) rRep:=by
 intro pins s σ H x y v u Q I rx ry h;obtain⟨l,k,xs,rfl,rfl,hH,h1,h2,hz,q⟩:=h;cases rx;obtain⟨t,rfl⟩:=ry;obtain⟨z,its,n,r,hl,e⟩:=I.lstM hH;have hlen:its.toArray.size*k.toNat<=sizeLine:=by simp_all
 have hcap:¬its.toArray.size*k.toNat>(2^63-1) / 8:=by
  have:(sizeLine:Nat)<=(2^63-1) / 8:=by decide
  lia
 have hfit:¬(!Builtin.List.listFitsIndex k)=true:=by
  rw[fitsIndex_both h1 h2];exact Bf
 have hlong:¬Hb (its.toArray.size*k.toNat)=true:=by
  rw[notLongL hlen];exact Bf
 have hnew:List.foldl (fun x1 x2=>x1++x2) #[] (List.replicate (if its.toArray.isEmpty=true then 0 else k.toNat) its.toArray)=(List.replicate k.toNat its).flatten.toArray:=by
  have f0:∀m:Nat,List.foldl (fun x1 x2=>x1++x2) #[] (List.replicate m its.toArray)=(List.replicate m its).flatten.toArray:=fun m=>by
   have:=q9m its m [];exact this
  cases its with
  |nil=>simp
  |cons a r'=>grind
 refine wpAny_binaryOp_repeat_ref (by decide) ⟨_,e,rfl⟩ (fun s'=>Om s' k t) noFill_list_mul F.fills_int_mul Oo repeat_list F.slot_int_index.lookup
  (Fz Oo (Om s k t) F.entry_int_rmul (F.args_int_rmul_2 _ _) (int___rmul___int_list k t l its.toArray n)
   ⟨e,rfl,⟨_,e,rfl⟩,Fz F.slot_list_mul ⟨_,e,rfl⟩ F.entry_list_mul (F.args_list_mul_2 _ _) (AutoListH.list___mul___list_int_3 l its.toArray n k t hfit hcap hlong) ⟨e,?_⟩⟩)
 rw[hnew];exact⟨.ref _,_,I.lnew (t':=s.toks) (r.rep k.toNat) (by rw[x0w,Nb];exact hz),rfl,q _ I.fresh⟩
end
end L2
namespace Att
open PySem PySem.W PySem.Calls PyProof.Rows
theorem q5k:∀(ns:List Int) (vs:List Value),WellAll P h vs (ns.map WData.int)->Nm vs ns:=by
 intro ns;induction ns with
 |nil =>
  intro vs w;cases w;exact .nil
 |cons n ns ih =>
  intro vs w;cases w with
  |cons a b =>
   cases a;exact .cons _ _ (ih _ b)
theorem z4w{l:OpenLaw}(hn:l.most=some n)(hpre:l.row.toRowW.claim.pre args=true)(hwl:WellAll P h vals args):
  ∃a vs ns,vals=[Value.ref a]/\args=[WData.list (ns.map WData.int)]/\h.get? a=some { cls:=.type "list",data:=.seq vs.toArray }/\Nm vs ns/\ns.length<=n:=by
 have hsh:=(pre_splitW hpre).1;have hc:l.pre.holds [] { args:=args }=true:=(pre_splitW hpre).2;obtain⟨d,r,rfl,h1,h2⟩:=hasAllW_cons hsh;obtain rfl:=hasAllW_nil h2;obtain⟨xs,rfl,h3⟩:=hasW_list h1;obtain⟨ns,rfl⟩:=items_int h3;have hlen:ns.length<=n:=by
  have h4:(WTm.not (.lt (.lit (.int (n:Int))) (.len (.arg 0)))).holds [] { args:=[.list (ns.map .int)] }=true:=by
   have h4:=(holds_andW hc).1;rw[hn] at h4;exact h4
  have h5:=condW_of h4 (w_not (w_lt w_lit (w_len_list (w_arg rfl))));first
   |(rw[decide_eq_true q'] at h5;exact absurd h5 (by decide))
   |(simp at h5;lia)
 cases hwl with
 |cons w1 w2 =>
  cases w2;cases w1 with
  |list ho hall=>exact⟨_,_,ns,rfl,rfl,ho,q5k ns _ hall,hlen⟩
theorem z4x(l:OpenLaw)(args:List WData):l.row.toRowW.claim.post args (.bool true) args=true :=
 postW_of
  (show WShape.has [] (.bool true) .bool=true by first|rfl|decide|simp[WShape.has,WShape.arms,WShape.armsAll])
  (show(WTm.eq .res (.lit (.bool true))).value [] { args:=args,res:=some (.bool true),after:=args }=some (.bool (true==true)) from w_eq_bool (w_res rfl) w_lit) rfl
theorem attach_call{l:OpenLaw}(hn:l.most=some n)(hdf:d.params.defaults=[])(call:∀(w:World) (s₀ s₁:Ag) (mg mb:Str->Option Value) (fa:Addr) (o:Obj) (pm cd doc:Value) (a:Addr) (vs:List Value) (ns:List Int),
   Ground q loose [] XP w s₀ mg mb s₁.heap->YP w s₁.heap ->
   s₁.heap.get? fa=some o->o.data=.func (docDef d.name d.params d.body d.scope pm cd doc)->s₁.heap.CodeRec cd d.name->mg d.name=some (.ref fa) ->
   s₁.heap.get? a=some { cls:=.type "list",data:=.seq vs.toArray }->Nm vs ns->ns.length<=n->s₁.gens=#[] ->
   Fb (model l.prog w) Ki (.call (.ref fa) ⟨[.ref a],[]⟩) (fun r s'=>r=.ok (.ret (.bool true))/\OldK s₁.heap s'.heap/\s'.os=s₁.os/\Hy s'.gens) s₁):
  WalkO q loose XP YP l.row.toRowW d [] (fun f vs=>Oq f vs):=by
 intro w s₀ s₁ mg mb G Y fa o pm cd doc dV kV ho hd hcd hD hmg hg args vals as hpre hlay hrd hwl hlo;obtain rfl:dV=.none:=Dflts.none hD hdf;obtain rfl:kV=.none:=Dflts.noKw hD;obtain⟨a,vs,ns,rfl,rfl,hobj,hints,hlen⟩:=z4w hn hpre hwl;refine enter_call (Gx (call w s₀ s₁ mg mb fa o pm cd doc a vs ns G Y ho (fd_plain hd) hcd hmg hobj hints hlen hg) fun r s' hq=>?_);obtain⟨rfl,h2,h3,h4⟩:=hq;exact⟨.inl ⟨.bool true,.bool true,[],rfl,fun _=>rfl,.bool true,z4x l _,fun _=>⟨List.Pairwise.nil,fun _ hm=>(nomatch hm)⟩⟩,h2,h3,h4⟩
end Att
namespace L2
open PySem PySem.Spec PyProof.Rows
theorem q9o:∀{vs:List Value} {ns:List Int},Nm vs ns->Vals (ns.map V.int) vs
 |_,_,.nil=>.nil
 |_,_,.cons n t h=>.cons ⟨t,rfl⟩ (q9o h)
def Only(H:Hp):Prop:=∀b,H b=none\/∃o xs,H b=some (.frz o (.lst xs))
theorem z7s{K:Ae}(KX:K.In s₁.heap)(hns:s₁.heap.Ns Cm mg)(hb:s₁.heap.Ns builtinsNs mb)(hbb:∀x:Str,x ≠ "__name__" -> mb x=Eg x)(hlim:s₁.heap.NoLimit)(hg:s₁.gens=#[])(ha:s₁.heap.get? a=some { cls:=.type "list",data:=.seq vs.toArray })(hi:Nm vs ns)(hl:ns.length<=sizeLine)(hr:Room k Ki)(F:∀base:Heap,K.In base->base.Ns Cm mg->FnOk P w K mg base CX k fa fd [x] sp)(hbind:∀(s:Ag) (u:Value),Lp s fd ⟨[u],[]⟩ [(x,u)])(hsp:∀H:Hp,Only H->SqL K H a (ns.map V.int)->sp [.ref a] H (fun v _=>v=.bl true) fun _ _ _=>False)(hCX:∀H e s',CX [] H s₁ (fun _ _ _=>False) e s'->False):
  Fb (model P w) Ki (.call (.ref fa) ⟨[.ref a],[]⟩) (fun r s'=>r=.ok (.ret (.bool true))/\OldK s₁.heap s'.heap/\s'.os=s₁.os/\Hy s'.gens) s₁:=by
 have rv:=q9o hi;have lenV:=hi.length;have core:∀H:Hp,Only H->SqL K H a (ns.map V.int)->HOk P w H s₁.heap->(∀b,H b≠none->b=a)->(H a≠none->K.lookup a=none) ->
   Fb (model P w) Ki (.call (.ref fa) ⟨[.ref a],[]⟩) (fun r s'=>r=.ok (.ret (.bool true))/\OldK s₁.heap s'.heap/\s'.os=s₁.os/\Hy s'.gens) s₁:=by
  intro H hO hS hok hA hK;have base_of:∀{b:Addr} {o:Obj},s₁.heap.get? b=some o->H b=none->(hidT s₁.heap H).get? b=some o:=fun e n=>z7l e n;have noA:∀{b:Addr} {o:Obj} {es:Array DictEntry} {ep:Nat},s₁.heap.get? b=some o->o.data=.dict es ep->H b=none:=fun{b o es ep} e d=>by
   cases q:H b with
   |none=>rfl
   |some u =>
    have e':=hA b (by rw[q];simp);subst e';rw[ha] at e;cases e;have d':=d;cases d'
  have nsK:∀{b:Addr} {m:Str->Option Value},s₁.heap.Ns b m->(hidT s₁.heap H).Ns b m:=fun{b m} ⟨o,es,ep,e,d,r⟩=>⟨o,es,ep,base_of e (noA e d),d,r⟩
  have hKb:=fun b o e=>base_of (KX b o e) (by
   cases q:H b with
   |none=>rfl
   |some u =>
    have e':=hA b (by rw[q];simp);subst e';rw[hK (by rw[q];simp)] at e;cases e)
  have hM:Mod K mg (hidT s₁.heap H):=⟨hKb,nsK hns,⟨mb,nsK hb,hbb⟩,let ⟨mc,h1,h2⟩:=hlim;⟨mc,nsK h1,h2⟩⟩
  have e0:Env0 P w K mg (hidT s₁.heap H) Ki [] s₁ H:=⟨rfl,hM,fun b o e=>x0r e,Di (z4h _ _),trivial,fun b hb=>absurd (show b∈([]:List Addr) from hb) (by simp),hok,.of_eq hg⟩
  refine Gx ((F _ hKb (nsK hns)).run Ki [] s₁ H ⟨[.ref a],[]⟩ [.ref a] [.ref a] _ _ hr e0 (hbind s₁ (.ref a)) (.cons rfl .nil) (hsp H hO hS)) fun r s' h=>?_;cases r with
  |error e=>exact(hCX H e s' h).elim
  |ok fl =>
   cases fl with
   |next=>exact False.elim h
   |brk=>exact False.elim h
   |cont=>exact False.elim h
   |ret u =>
    obtain⟨v,H',os,bare,un,hok',r',q⟩:=h;have q':=q;subst q';obtain rfl:u=Value.bool true:=r';refine⟨rfl,OldK.of_keep fun b o e=>?_,os,bare⟩;cases q:H b with
    |none=>exact un.keep b o e q (by intro z;exact absurd (show b∈([]:List Addr) from z) (by simp)) (by simp)
    |some u =>
     rcases hO b with z|⟨ob,xs,z⟩
     ·grind
     ·have z2:=un.frzs b ob _ z;obtain⟨e1,_⟩:=hok b _ z;obtain⟨e2,_⟩:=hok' b _ z2;rw[e] at e1;cases e1;exact e2
 cases hk:K.lookup a with
 |some o =>
  have e:=KX a o hk;rw[ha] at e;cases e;refine core (fun _=>none) (fun _=>.inl rfl) (.inr ⟨_,vs.toArray,_,hk,rfl,rfl,rfl,by rw[Az,lenV];exact hl,by simpa using rv⟩) (fun b u z=>by have z':(none:Option HO)=some u:=z;cases z') (fun b z=>absurd rfl z) fun z=>absurd rfl z
 |none =>
  refine core (fun b=>if b=a then some (.frz { cls:=.type "list",data:=.seq vs.toArray } (.lst (ns.map V.int))) else none) (fun b=>?_) (.inl (.inr ⟨{ cls:=.type "list",data:=.seq vs.toArray },if_pos rfl⟩)) (fun b u z=>?_) (fun b z=>?_) fun _=>hk
  ·by_cases hb:b=a
   ·simp_all
   ·simp_all
  ·by_cases hb:b=a
   ·have z':=(if_pos hb).symm.trans z;cases z';subst hb;exact⟨ha,by rw[Ad];exact hl,vs,_,rv,ha⟩
   ·grind
  ·grind
theorem walk_of{l:Pd}{K:Params->Ae}{CX:World->CXT}{sp:World->Sp}(hn:l.most=some n)(hn2:n<=sizeLine)(hdf:d.params.defaults=[])(hr:Room k Ki)(hY:∀(w:World) (h:Heap),YP w h->(K w.params).In h)(F:∀(w:World) (mg:Str->Option Value) (fa:Addr) (h:Heap),(K w.params).In h->h.Ns Cm mg->mg d.name=some (.ref fa) ->
   ∃fd:Jc,(∀(s:Ag) (u:Value),Lp s fd ⟨[u],[]⟩ [(x,u)]) /\
    ∀base:Heap,(K w.params).In base->base.Ns Cm mg->FnOk l.prog w (K w.params) mg base (CX w) k fa fd [x] (sp w))(hsp:∀(w:World) (H:Hp) (a:Addr) (ns:List Int),ns.length<=n->Only H->SqL (K w.params) H a (ns.map V.int)->sp w [.ref a] H (fun v _=>v=.bl true) fun _ _ _=>False)(hCX:∀(w:World) (H:Hp) (s:Ag) (e:Value) (s':Ag),CX w [] H s (fun _ _ _=>False) e s'->False):
  W.WalkO q loose XP YP l.row.toRowW d [] (fun f vs=>Oq f vs):=by
 refine Att.attach_call hn hdf fun w s₀ s₁ mg mb fa o pm cd doc a vs ns G Y ho hd hcd hmg hobj hints hlen hg=>?_;have KX:=hY w _ Y;obtain⟨fd,hb,hF⟩:=F w mg fa _ KX G.T.g hmg;exact z7s KX G.T.g G.T.b G.T.builtins G.T.nolimit hg hobj hints (Ap hlen hn2) hr hF hb (fun H hO hS=>hsp w H a ns hlen hO hS) fun H e s'=>hCX w H s₁ e s'
def defArgs(s:Stmt):Arguments:=match s with
 |.FunctionDef _ a _ _ _ _ _ _ _ _=>a
 |_=>{ posonlyargs:=[],args:=[],vararg:=none,kwonlyargs:=[],kw_defaults:=[],kwarg:=none,defaults:=[] }
def defBody(s:Stmt):List Stmt:=match s with
 |.FunctionDef _ _ b _ _ _ _ _ _ _=>b
 |_=>[]
def defScope(s:Stmt):Scope:=match s with
 |.FunctionDef _ _ _ _ _ _ sc _ _ _=>sc
 |_=>{ kind:=.function,names:=[],isGenerator:=false,isCoroutine:=false }
abbrev CX0:CXT:=fun _ _ _ _ _ _=>False
abbrev E0:XK:=fun _ _ _=>False
theorem pass0:Passes CX0 X E0:=fun _ _ _ _ _ _ _ h=>h.elim
structure Fun (K:Ae) (x qual:Str) (st:Stmt) (f:Addr) (fd:Jc):Prop where
 ex:∃(oc:Value) (od:Option Addr) (kV doc pm:Value) (an:Option Addr) (cdv ct:Value) (osl:Array (Option Value)),
  fd=Ij x qual (defArgs st) (defBody st) (defScope st) .none kV doc pm an cdv ct/\K.lookup f=some ⟨oc,od,.func fd,osl⟩/\Mh K cdv qual=true
 kp:Jd K (.ref f)=true
section
variable{P:Program}{w:World}{K:Ae}{mg:Str->Option Value}{base:Heap}
theorem Fun.ok{st:Stmt}(F:Fun K x qual st f fd)(S:FnScope N ps (defScope st))(len:∀vs H Q E,sp vs H Q E->vs.length=ps.length)(hbody:∀(cdv:Value) (A:Around) (outer:List Env) (s:Ag) (H:Hp) (vs:List V) (Q:VK) (E:XK),Room k (A.deeper (Ii qual (defScope st) s.heap.objs.size f cdv))->sp vs H Q E ->
   ∃t,PSs (cxOf CX0 P w K mg base N qual (defScope st) f cdv A outer s H E).nox (defBody st) t/\t { nx:=fun _ H'=>Q .non H',rt:=Q } (start N vs) H):FnOk P w K mg base CX0 (k+1) f fd ps sp:=by
 obtain⟨oc,od,kV,doc,pm,an,cdv,ct,osl,rfl,lk,hcd⟩:=F.ex;refine fn_of lk hcd S len fun A outer s H vs Q E hr hsp=>?_
 obtain⟨t,h,q⟩:=hbody cdv A outer s H vs Q E hr hsp;exact⟨t,h.nox,q⟩
theorem Fun.binds{st:Stmt}(F:Fun K x qual st f fd)(h:∀(kV doc pm:Value) (an:Option Addr) (cdv ct:Value) (us:List Value),us.length=ps.length->bindArgs (Ij x qual (defArgs st) (defBody st) (defScope st) .none kV doc pm an cdv ct) ⟨us,[]⟩=pure (ps.zip us)):Binds K fd ps []:=by
 obtain⟨oc,od,kV,doc,pm,an,cdv,ct,osl,rfl,lk,hcd⟩:=F.ex;exact .all (h kV doc pm an cdv ct)
theorem z4y{st:Stmt}{kV:Value}(l:K.lookup f=some ⟨oc,od,.func (Ij x qual (defArgs st) (defBody st) (defScope st) .none kV doc pm an cdv ct),osl⟩)(c:Mh K cdv qual=true)(k:Jd K (.ref f)=true):Fun K x qual st f (Ij x qual (defArgs st) (defBody st) (defScope st) .none kV doc pm an cdv ct):=⟨⟨oc,od,kV,doc,pm,an,cdv,ct,osl,rfl,l,c⟩,k⟩
end
theorem z0r(hr:Room k A):A.units+1<cLine:=Nc (Nat.add_le_add_left (by decide:1<=64) _) hr.units
section
variable{X:Cx}
theorem pv(i:Nat){x:Str}{pos:Pos}(hN:X.N[i]?=some x:=by rfl)(hv:Vis X.env.scope x:=by first|exact Or.inl rfl|exact Or.inr (Or.inl rfl)|exact Or.inr (Or.inr rfl))(hd:(x==("__debug__" : Str))=false:=by decide)(hcd:(x==("__classdict__" : Str))=false:=by decide):PE X (.Name x pos) (tVar i):=pe_var hN hv hd hcd
end
theorem iteF{B:Prop}(h:B):if false=true then A else B:=by
 exact h
theorem iteT{B:Prop}(h:A):if true=true then A else B:=by
 exact h
theorem ite2{B:Prop}[Decidable c](h1:c->A)(h2:¬c->B):if c then A else B:=by grind
def Same(H H':Hp):Prop:=∀b o,H b=some o->H' b=some o
theorem Same.refl(H:Hp):Same H H:=fun _ _ h=>h
theorem Same.trans(a:Same H H1)(b:Same H1 H2):Same H H2:=fun c o h=>b c o (a c o h)
theorem Same.free(e:Same H H')(h:H' l=Option.none):H l=Option.none:=by
 cases q:H l with
 |none=>rfl
 |some o =>
  rw[e l o q] at h;cases h
theorem Same.seq{K:Ae}(e:Same H H')(h:SqL K H a xs):SqL K H' a xs:=by
 rcases h with(h|⟨o,h⟩)|h
 ·exact .inl (.inl (e _ _ h))
 ·exact .inl (.inr ⟨o,e _ _ h⟩)
 ·exact .inr h
open PySem PySem.Spec PyProof.Rows
abbrev Caps:=List (Str×Nat)
def capV(σ:St):Caps->St
 |[]=>[]
 |(_,i)::r=>(σ[i]?).join::capV σ r
def CapOk(X:Cx)(scope:Scope):Caps->Prop
 |[]=>True
 |(x,i)::r=>(X.N[i]?=some x/\scope.names.lookup x=some .free/\(X.env.scope.names.lookup x=some .cell\/X.env.scope.names.lookup x=some .free))/\CapOk X scope r
def cxComp(X:Cx)(N:List Str)(scope:Scope)(cl:List (Str×Addr))(C:Addr)(fp:List Addr)(s:Ag)(H:Hp):Cx where
 prog:=X.prog
 w:=X.w
 K:=X.K
 mg:=X.mg
 base:=X.base
 A:=X.A
 N:=N
 s₀:=s
 H₀:=H
 env:=Cy scope cl C X.env
 outer:=X.stack
 stack:=X.stack
 ex:=fp
 fn:=fun _=>false
 calm:=X.calm
 pn:=[]
 xe:=fun _ _=>False
theorem z3o(names:List (Str×Bb))(hh:∀x,(x,Bb.free)∈names->∃c,env.cells.lookup x=some c):∀acc:List (Str×Addr),
  ∃cl,(forIn names acc (fun(x:Str×Bb) (r:List (Str×Addr))=>match x with
   |(name,kind)=>if (kind==Bb.free)=true then do let a<-cellOf env name;pure (ForInStep.yield ((name,a)::r)) else pure (ForInStep.yield r)):Sem (List (Str×Addr)))=pure cl /\
   (∀x c,(x,c)∈cl->(x,c)∈acc\/env.cells.lookup x=some c)/\(∀x,((x,Bb.free)∈names\/∃c,(x,c)∈acc)->∃c,(x,c)∈cl):=by
 induction names with
 |nil=>intro acc;exact⟨acc,rfl,fun x c h=>.inl h,fun x h=>h.elim (fun z=>nomatch z) id⟩
 |cons n r ih =>
  intro acc;obtain⟨name,kind⟩:=n;by_cases hk:kind=Bb.free
  ·subst hk;obtain⟨c,hc⟩:=hh name Ai;obtain⟨cl,e,h1,h2⟩:=ih (fun x hx=>hh x (Ah _ hx)) ((name,c)::acc);refine⟨cl,?_,fun x d hd=>?_,fun x hx=>?_⟩
   ·rw[Ot];have:cellOf env name=pure c:=by unfold cellOf;rw[hc]
    simp only[beq_self_eq_true,if_true,this];exact e
   ·rcases h1 x d hd with z|z
    ·rcases Am.mp z with z|z
     ·cases z;exact .inr hc
     ·exact .inl z
    ·exact .inr z
   ·refine h2 x ?_;rcases hx with hx|⟨d,hd⟩
    ·rcases Am.mp hx with z|z
     ·simp_all
     ·exact .inl z
    ·grind
  ·obtain⟨cl,e,h1,h2⟩:=ih (fun x hx=>hh x (Ah _ hx)) acc;refine⟨cl,?_,h1,fun x hx=>h2 x ?_⟩
   ·simp_all
   ·grind
theorem q7m{cl:List (Str×Addr)}(h:(x,c)∈cl):∃d,cl.lookup x=some d:=by
 induction cl with
 |nil=>cases h
 |cons y r ih =>
  obtain⟨n,a⟩:=y;cases e:x==n with
  |true=>simp_all
  |false =>
   rcases Am.mp h with z|z
   ·cases z;simp at e
   ·obtain⟨d,hd⟩:=ih z;exact⟨d,by simp only[Ga,e];exact hd⟩
theorem z3p(hh:∀x,(x,Bb.free)∈scope.names->∃c,env.cells.lookup x=some c):
  ∃cl,Ou scope env=pure cl/\(∀x c,cl.lookup x=some c->env.cells.lookup x=some c)/\∀x,(x,Bb.free)∈scope.names->∃c,cl.lookup x=some c:=by
 obtain⟨cl,e,h1,h2⟩:=z3o scope.names hh [];refine⟨cl,?_,fun x c h=>?_,fun x hx=>?_⟩
 ·unfold Ou;have e2:=congrArg (fun m:Sem (List (Str×Addr))=>m >>= fun cs=>(pure cs:Sem _)) e;exact e2
 ·rcases h1 x c (Dq h) with z|z
  ·cases z
  ·exact z
 ·obtain⟨c,hc⟩:=h2 x (.inl hx);exact q7m hc
theorem q3r{env:Env}{k:Bb}(hk:k=.cell\/k=.free):∀{names:List (Str×Bb)} {x:Str},(∀y∈names,y.2≠.cell) ->
  (names.map fun(n,k)=>if (k==Bb.free&&env.scope.kind==.function&&env.kindOf n==some .cell) then(n,Bb.cell) else(n,k)).lookup x=some k->(x,Bb.free)∈names
 |[],_,_,h=>by simp at h
 |(n,k')::r,x,hc,h=>by
  have ih:=@q3r env k hk r x fun y hy=>hc y (Ah _ hy);by_cases c:(k'==Bb.free&&env.scope.kind==.function&&env.kindOf n==some .cell)=true
  ·have h':((n,Bb.cell)::r.map fun(n,k)=>if (k==Bb.free&&env.scope.kind==.function&&env.kindOf n==some .cell) then(n,Bb.cell) else(n,k)).lookup x=some k:=by
    have e:(if (k'==Bb.free&&env.scope.kind==.function&&env.kindOf n==some .cell)=true then(n,Bb.cell) else(n,k'))=(n,Bb.cell):=if_pos c;rw[<- e];exact h
   cases e:x==n with
   |true =>simp_all
   |false=>exact Ah _ (ih (by simp only[Ga,e] at h';exact h'))
  ·have h':((n,k')::r.map fun(n,k)=>if (k==Bb.free&&env.scope.kind==.function&&env.kindOf n==some .cell) then(n,Bb.cell) else(n,k)).lookup x=some k:=by
    have e:(if (k'==Bb.free&&env.scope.kind==.function&&env.kindOf n==some .cell)=true then(n,Bb.cell) else(n,k'))=(n,k'):=if_neg c;rw[<- e];exact h
   cases e:x==n with
   |true =>simp_all
   |false=>exact Ah _ (ih (by simp only[Ga,e] at h';exact h'))
theorem q4r{env:Env}:∀{names:List (Str×Bb)} {x:Str},names.lookup x=some .free ->
    ((names.map fun(n,k)=>if (k==Bb.free&&env.scope.kind==.function&&env.kindOf n==some .cell) then(n,Bb.cell) else(n,k)).lookup x=some .cell \/
     (names.map fun(n,k)=>if (k==Bb.free&&env.scope.kind==.function&&env.kindOf n==some .cell) then(n,Bb.cell) else(n,k)).lookup x=some .free)
  |[],_,h=>by simp at h
  |(n,k')::r,x,h=>by
    have ih:=@q4r env r x;by_cases c:(k'==Bb.free&&env.scope.kind==.function&&env.kindOf n==some .cell)=true
    · have e:(if (k'==Bb.free&&env.scope.kind==.function&&env.kindOf n==some .cell)=true then(n,Bb.cell) else(n,k'))=(n,Bb.cell):=if_pos c;show(List.lookup x ((if (k'==Bb.free&&env.scope.kind==.function&&env.kindOf n==some .cell)=true then(n,Bb.cell) else(n,k'))::_)=_\/List.lookup x ((if (k'==Bb.free&&env.scope.kind==.function&&env.kindOf n==some .cell)=true then(n,Bb.cell) else(n,k'))::_)=_);rw[e];cases ex:x==n with
      |true=>simp_all
      |false =>
        simp only[Ga,ex] at h ⊢;exact ih h
    · have e:(if (k'==Bb.free&&env.scope.kind==.function&&env.kindOf n==some .cell)=true then(n,Bb.cell) else(n,k'))=(n,k'):=if_neg c;show(List.lookup x ((if (k'==Bb.free&&env.scope.kind==.function&&env.kindOf n==some .cell)=true then(n,Bb.cell) else(n,k'))::_)=_\/List.lookup x ((if (k'==Bb.free&&env.scope.kind==.function&&env.kindOf n==some .cell)=true then(n,Bb.cell) else(n,k'))::_)=_);rw[e];cases ex:x==n with
      |true =>simp_all
      |false =>
        simp only[Ga,ex] at h ⊢;exact ih h
theorem q5l(σ:St):∀caps:Caps,(capV σ caps).length=caps.length
 |[]=>rfl
 |(_,_)::r=>congrArg (· + 1) (q5l σ r)
theorem z2a:∀{caps:Caps} {j:Nat} {x:Str} {v:V},CapOk X scope caps->(caps.map (·.1))[j]?=some x->(capV σ caps)[j]?=some (some v) ->
  ∃i:Nat,X.N[i]?=some x/\σ[i]?=some (some v)/\scope.names.lookup x=some .free/\(X.env.scope.names.lookup x=some .cell\/X.env.scope.names.lookup x=some .free)
 |[],_,_,_,_,h,_=>by simp at h
 |(y,i)::r,0,x,v,hc,h1,h2=>by
  simp at h1;subst h1;have e:(σ[i]?).join=some v:=by simpa[capV] using h2
  refine⟨i,hc.1.1,?_,hc.1.2⟩;cases q:σ[i]? with
  |none=>rw[q] at e;cases e
  |some z=>simp_all
 |(y,i)::r,j+1,x,v,hc,h1,h2=>z2a hc.2 (by simpa using h1) (by simpa[capV] using h2)
def tg0(tg:List Str)(σ:St)(caps:Caps):St:=tg.map (fun _=>none)++capV σ caps
theorem Inv.ofcomp{σ:St}{C:Addr}(tg:List Str)(I:Inv X pins σ H s)(hkind:scope.kind=.function)(hnc:∀y∈scope.names,y.2≠.cell)(hc1:∀x c,cl.lookup x=some c->X.env.cells.lookup x=some c)(hc2:∀x,(x,Bb.free)∈scope.names->∃c,cl.lookup x=some c)(hf:∀b∈fp,FpOk X pins H b)(hfo:∀b∈fp,∃o,s.heap.get? b=some o)(hC:s.heap.objs.size<=C)(hns:h₁.Ns C m)(hk:∀b o,s.heap.get? b=some o->h₁.get? b=some o)(co:CapOk X scope caps):
  Inv (cxComp X (tg++caps.map (·.1)) scope cl C fp s H) [] (tg0 tg σ caps) H { s with heap:=h₁,toks:=tk }:=by
 have hfs:∀b∈fp,b∉frs X.stack:=fun b hb hx=>by
  rcases Am.mp (I.stkSub b hx) with z|z
  ·exact(hf b hb).2.1 z
  ·exact(hf b hb).2.2.1 z
 have ok:(cxComp X (tg++caps.map (·.1)) scope cl C fp s H).Ok:=by
  refine⟨I.ok.mod,hkind,I.ok.glob,I.ok.blt,hC,fun x y c h1 h2=>I.ok.inj x y c (hc1 x c h1) (hc1 y c h2),fun x hx=>?_,fun x c h=>(nomatch h),I.ok.hd,I.ok.frames,.inl rfl,fun b hb=>⟨?_,fun x c h=>(hf b hb).2.2.2.2.1 x c (hc1 x c h)⟩,
   I.bs,Ap I.ok.bsz I.sz,fun b o e hb=>?_,hfs,I.stack,I.stkFree⟩
  ·rcases hx with hx|hx
   ·exact hc2 x (q3r (.inl rfl) hnc hx)
   ·exact hc2 x (q3r (.inr rfl) hnc hx)
  ·obtain⟨o,e⟩:=hfo b hb;exact Ce (Bj (Ba e) hC)
  ·rcases(hf b hb).2.2.2.1 with z|z
   ·exact I.ok.noex b o e z
   ·exact absurd (Bj (Ba (I.ok.bs b o e).1) z) (Ej _)
 refine⟨ok,rfl,I.bare,Un.kept hk,⟨m,hns,fun j x v h1 h2 h3=>?_⟩,fun x c h=>?_,I.hok.fresh hC,fun x c h=>I.freeC x c (hc1 x c h),fun p hp=>(nomatch hp),I.hok.kept hk,?_⟩
 ·have h1':(tg++caps.map (·.1))[j]?=some x:=h1;have h2':(tg.map (fun _=>none)++capV σ caps)[j]?=some (some v):=h2;by_cases hj:j<tg.length
  ·rw[Co (by simpa using hj),Bg] at h2';cases e:tg[j]? with
   |none=>grind
   |some z=>simp_all
  ·rw[Cn (by simpa using hj)] at h2' h1';rw[Ad] at h2';obtain⟨i,e1,e2,e3,e4⟩:=z2a co h1' h2';obtain⟨mX,hn,hl⟩:=I.loc;obtain⟨u,r,l⟩:=hl i x v e1 e2 (.inr e4);refine⟨u,r,?_⟩;have key:∃c,X.env.cells.lookup x=some c/\s.heap.IsCell c (some u):=by
    rcases l with⟨k,_⟩|⟨_,c,e,z⟩
    ·have k':X.env.scope.names.lookup x=some .local:=k;rcases e4 with e4|e4 <;> · rw[e4] at k';cases k'
    ·exact⟨c,e,z⟩
   obtain⟨c,ec,o,ho,hd⟩:=key;obtain⟨d,ed⟩:=hc2 x (Dq e3);have hdc:=Bq ((hc1 x d ed).symm.trans ec);subst hdc;exact .inr ⟨q4r e3,d,ed,o,hk _ o ho,hd⟩
 ·obtain⟨v,o,ho,hd⟩:=I.cell x c (hc1 x c h);exact⟨v,o,hk _ o ho,hd⟩
 ·show(tg.map (fun _=>(none:Option V))++capV σ caps).length=(tg++caps.map (·.1)).length;rw[Ac,Ac,Ad,Ad,q5l]
def PIfs(X:Cx)(ifs:List Expr)(t:TT):Prop :=
 ∀(pins:List (Addr×Obj)) (s:Ag) (σ:St) (H:Hp) (Q:Bool->Hp->Prop),Inv X pins σ H s->t σ H Q ->
  wpAny (model X.prog X.w) X.A (forIn ifs true fun c r=>if r=true then do let ok<-isTrue c X.env (eval c X.env);pure (ForInStep.yield ok) else pure (ForInStep.yield r)) (TP X pins σ Q) X.xe s
def tIf0:TT:=fun _ H Q=>Q true H
theorem z0s:PIfs X [] tIf0:=fun pins s σ H Q I h=>Kz ⟨H,I,h⟩
theorem q5m{X:Cx}{c:Expr}{t:TT}(h:PT X c t):PIfs X [c] t:=fun pins s σ H Q I q=>wpAny_tests_one (h pins s σ H Q I q)
def Keeps0(σ0 σ2:St):Prop:=σ0.length=σ2.length/\∀(i:Nat) v,σ0[i]?=some (some v)->σ2[i]?=some (some v)
def CompW(J:It)(g:TG)(tt:TT)(te:TE)(σ0:St)(D:Addr)(Fin:List V->Hp->Prop)(H1:Hp):Prop :=
 ∃W:Nat->Nat->List V->Hp->Prop,(∃m,W 0 m [] (upd H1 D (.lst [])))/\∀i m ys H,W i m ys H->H D=some (.lst ys) /\
  ((J.stop i H/\Fin ys H)\/(J.go i H/\∃N:List V->Hp->Prop,(∀zs H',N zs H'->∃m',m'<m/\W (i+1) m' zs H')/\∀x H',J.yld i H x H'->g x σ0 H' fun σ2 H2=>Keeps0 σ0 σ2/\tt σ2 H2 fun b H3 =>
   if b=true then te σ2 H3 fun v H4=>H4 D=some (.lst ys)/\ys.length<sizeLine/\N (ys++[v]) (upd H4 D (.lst (ys++[v])))
   else N ys H3))
theorem z2b{σ:St}{Fin:Addr->List V->Hp->Prop}{RR:Value->Addr->Result->Ag->Prop}(hc:X.calm=true)(hkind:scope.kind=.function)(hnc:∀y∈scope.names,y.2≠.cell)(hc1:∀x c,cl.lookup x=some c->X.env.cells.lookup x=some c)(hc2:∀x,(x,Bb.free)∈scope.names->∃c,cl.lookup x=some c)(co:CapOk X scope caps)(hg:∀C s H,PG (cxComp X (tg++caps.map (·.1)) scope cl C fp s H) target g)(ht:∀C s H,PIfs (cxComp X (tg++caps.map (·.1)) scope cl C fp s H) ifs tt)(he:∀C s H,PE (cxComp X (tg++caps.map (·.1)) scope cl C fp s H) elt te)(I2:Inv X pins σ H1 s₂)(T:Turn X.prog X.w X.K target J fp it tn)(st:tn 0 s₂.heap)(hf:∀b∈fp,FpOk X pins H1 b)(hw:∀D,H1 D=none->CompW J g tt te (tg0 tg σ caps) D (Fin D) H1)(hRR:∀D C ys H' s',H1 D=none->Inv X pins σ H' s'->(∃m,s'.heap.Ns C m)->FpOk X pins H' C->Fin D ys H'->RR (.ref D) C (.ok .next) s'):
  wpAny (model X.prog X.w) X.A (newList []) (fun acc s₃=>wpAny (model X.prog X.w) X.A (newFunctionEnv scope X.env.globals cl [] X.env.qual none .none (some X.env)) (fun cenv s₄ =>
   Fb (model X.prog X.w) X.A (.compStart (.ListComp elt [⟨target,iter,ifs,0⟩] scope pos) 0 (.ref it) acc { cenv with scope:=relabel scope X.env }) (RR acc cenv.locals) s₄) E s₃) E s₂:=by
 have I3:Inv X pins σ (upd H1 s₂.heap.objs.size (.lst [])) { s₂ with heap:=s₂.heap.push { cls:=.type "list",dict:=none,data:=.seq ([]:List Value).toArray },toks:=s₂.toks }:=I2.lnew .nil (Au _);have hD0:=I2.fresh;refine Dm (Mj hnc (by intro y hy;simp at hy) (fun h₁ hns₁ hsb₁=>?_) hkind);dsimp only at hns₁ hsb₁ ⊢;generalize hDd:s₂.heap.objs.size=D at I3 hD0 hns₁ hsb₁ ⊢;generalize hs3:({ s₂ with heap:=s₂.heap.push { cls:=.type "list",dict:=none,data:=.seq ([]:List Value).toArray } }:Ag)=s₃ at I3 hns₁ hsb₁ ⊢;have e3:s₂.heap.push { cls:=.type "list",dict:=none,data:=.seq ([]:List Value).toArray }=s₃.heap:=by grind
 have o3:({ s₂ with heap:=h₁,toks:=s₂.toks+([]:List (Str×Value)).length }:Ag)={ s₃ with heap:=h₁,toks:=s₂.toks }:=by grind
 have size3:s₃.heap.objs.size=D+1:=by rw[<- e3,Er,hDd]
 rw[e3] at hns₁ hsb₁ ⊢;have old3:∀b o,s₂.heap.get? b=some o->s₃.heap.get? b=some o:=fun b o e=>by rw[<- e3];exact Ak _ e
 generalize hCd:s₃.heap.objs.size=C at hns₁ hsb₁ ⊢;have hk:=fun b o e=>hsb₁.extBut b o (by rw[<- hCd];exact Ce (Ba e)) (Ak _ e);have fpo:∀b∈fp,∃o,s₂.heap.get? b=some o:=fun b hb=>by obtain⟨o,e,_⟩:=T.obj 0 _ st b hb;exact⟨o,e⟩
 have fpne:∀b∈fp,b≠D:=fun b hb=>by obtain⟨o,e⟩:=fpo b hb;rw[<- hDd];exact Ce (Ba e)
 have hf3:∀b∈fp,FpOk X pins (upd H1 D (.lst [])) b:=fun b hb=>⟨by rw[q0m (fpne b hb)];exact(hf b hb).1,(hf b hb).2⟩
 have IY:=Inv.ofcomp (tk:=s₂.toks) tg I3 hkind hnc hc1 hc2 hf3 (fun b hb=>let ⟨o,e⟩:=fpo b hb;⟨o,old3 b o e⟩) (Di hCd) hns₁ hk co;have FC:FpOk X pins H1 C:=by
  have z:=I3.fpOk (H':=H1) (Di hCd) (I2.hok.fresh (by rw[hDd,<- hCd,size3];exact Nw _));exact z
 generalize hY:cxComp X (tg++caps.map (·.1)) scope cl C fp s₃ (upd H1 D (.lst []))=Y at IY;have hgY:PG Y target g:=by grind
 have htY:PIfs Y ifs tt:=by grind
 have heY:PE Y elt te:=by grind
 have hYp:Y.prog=X.prog:=by rw[<- hY];rfl
 have hYw:Y.w=X.w:=by rw[<- hY];rfl
 have hYK:Y.K=X.K:=by rw[<- hY];rfl
 have hYA:Y.A=X.A:=by rw[<- hY];rfl
 have hYe:Y.env=Cy scope cl C X.env:=by rw[<- hY];rfl
 have hYx:Y.ex=fp:=by rw[<- hY];rfl
 have hYn:Y.pn=[]:=by rw[<- hY];rfl
 have hYc:Y.calm=true:=by rw[<- hY];exact hc
 have hYxe:Y.xe=fun _ _=>False:=by rw[<- hY];rfl
 have fpY:∀{H':Hp},(∀b∈fp,H' b=none)->∀b∈fp,FpOk Y [] H' b:=fun{H'} hn b hb=>by
  refine⟨hn b hb,?_,?_,.inl (by rw[hYx];exact hb),fun x c e=>?_,fun p hp=>?_⟩
  ·have:=(IY.ok.exf b (by rw[hYx];exact hb)).1;exact this
  ·exact IY.ok.exfs b (by rw[hYx];exact hb)
  ·exact(IY.ok.exf b (by rw[hYx];exact hb)).2 x c e
  ·grind
 obtain⟨W,⟨m0,w0⟩,turn⟩:=hw D hD0;have stY:=T.keep 0 _ _ st fun b hb o e=>hk b o (old3 b o e)
 have back:∀{H':Hp} {s':Ag} {σ':St},Inv Y [] σ' H' s'->Inv X pins σ H' s':=fun{H' s' σ'} IE=>by
  have hun:=IE.base;have hos:=IE.os;rw[<- hY] at hun hos;exact I3.call' hos hun (by have z:=IE.hok;rw[hYp,hYw] at z;exact z) IE.bare fun b hb=>⟨(hf b hb).2.2.2.1,(hf b hb).2.1,(hf b hb).2.2.2.2.1,(hf b hb).2.2.2.2.2⟩
 have gY:∀pins s σ H v u Q (E':Value->Ag->Prop),Inv Y pins σ H s->RelV v u->g v σ H Q->wpAny (model X.prog X.w) X.A (assign target (Cy scope cl C X.env) u) (fun _ s'=>∃σ' H',Inv Y pins σ' H' s'/\Q σ' H') E' s:=fun pins s σ H v u Q E' IE r q=>by
  have z:=hgY pins s σ H v u Q IE r q;rw[hYp,hYw,hYA,hYe,hYxe] at z;exact Cg z (fun _ _ x=>x) fun _ _ f=>f.elim
 have tY:∀pins s σ H Q (E':Value->Ag->Prop),Inv Y pins σ H s->tt σ H Q->wpAny (model X.prog X.w) X.A (forIn ifs true fun c r=>if r=true then do let ok<-isTrue c (Cy scope cl C X.env) (eval c (Cy scope cl C X.env));pure (ForInStep.yield ok) else pure (ForInStep.yield r)) (TP Y pins σ Q) E' s:=fun pins s σ H Q E' IE q=>by
  have z:=htY pins s σ H Q IE q;rw[hYp,hYw,hYA,hYe,hYxe] at z;exact Cg z (fun _ _ x=>x) fun _ _ f=>f.elim
 have eY:∀pins s σ H Q (E':Value->Ag->Prop),Inv Y pins σ H s->te σ H Q->wpAny (model X.prog X.w) X.A (eval elt (Cy scope cl C X.env)) (EP Y pins σ Q) E' s:=fun pins s σ H Q E' IE q=>by
  have z:=heY pins s σ H Q IE q;rw[hYp,hYw,hYA,hYe,hYxe] at z;exact Cg z (fun _ _ x=>x) fun _ _ f=>f.elim
 have aY:∀pins s σ H ys v u Q (E':Value->Ag->Prop),Inv Y pins σ H s->RelV v u->H D=some (.lst ys)->ys.length<sizeLine->Q .non (upd H D (.lst (ys++[v])))->wpAny (model X.prog X.w) X.A (call (.builtin "list.append") [.ref D,u]) (EP Y pins σ Q) E' s:=fun pins s σ H ys v u Q E' IE r hH hz q=>by
  have z:=q1g pins s σ H (.ref D) [v] (.ref D) [u] Q IE rfl (.cons r .nil) ⟨D,ys,v,rfl,rfl,hH,hz,q⟩;rw[hYp,hYw,hYA,hYxe] at z;exact Cg z (fun _ _ x=>x) fun _ _ f=>f.elim
 have tiY:∀i pins s σ H (E':Value->Ag->Prop),Inv Y pins σ H s->(∀b∈fp,FpOk Y pins H b)->tn i s.heap->J.go i H ->
   wpAny (model X.prog X.w) X.A (Ig (.ref it)) (fun r s1=>∃u,r=some u /\
    wpAny (model X.prog X.w) X.A (Gq target (.ref it) u) (fun _ s2=>∃x H',Inv Y pins σ H' s2/\RelV x u/\J.yld i H x H'/\tn (i+1) s2.heap/\∀b∈fp,H' b=none) E' s1) E' s:=fun i pins s σ H E' IE hfy st go=>by
  have z:=T.item Y hYp hYw hYK hYc i pins s σ H E' IE hfy st go;rw[hYA] at z;exact z
 have tdY:∀i pins s σ H (E':Value->Ag->Prop),Inv Y pins σ H s->(∀b∈fp,FpOk Y pins H b)->tn i s.heap->J.stop i H ->
   wpAny (model X.prog X.w) X.A (Ig (.ref it)) (fun r s1=>r=none/\Inv Y pins σ H s1) E' s:=fun i pins s σ H E' IE hfy st go=>by
  have z:=T.done Y hYp hYw hYK hYc i pins s σ H E' IE hfy st go;rw[hYA] at z;exact z
 have loop:Fb (model X.prog X.w) X.A (.compLoop (.ListComp elt [⟨target,iter,ifs,0⟩] scope pos) 0 (.ref it) (.ref D) (Cy scope cl C X.env)) (RR (.ref D) C) { s₃ with heap:=h₁,toks:=s₂.toks }:=by
  refine Nd rfl (fun n s'=>∃i ys H',Inv Y [] (tg0 tg σ caps) H' s'/\tn i s'.heap/\(∀b∈fp,H' b=none)/\W i n ys H') ?_ m0 ⟨0,[],_,IY,stY,fun b hb=>(hf3 b hb).1,w0⟩;rintro n s4 ⟨i,ys,H4,I4,st4,fr4,w4⟩;refine Nx ?_;obtain⟨hHD,alt⟩:=turn i n ys H4 w4;rcases alt with⟨stop,fin⟩|⟨go,N,hN,step⟩
  ·refine Ab (Dl (Ab (thn (tdY i [] s4 _ H4 _ I4 (fpY fr4) st4 stop) fun r s5 ⟨hr,I5⟩=>?_)));subst hr;refine An (hRR D C ys H4 s5 hD0 (back I5) ?_ ⟨?_,FC.2⟩ fin)
   ·obtain⟨m,hm,_⟩:=I5.loc;rw[hYe] at hm;exact⟨m,hm⟩
   ·have z:=I5.free;rw[hYe] at z;exact z
  ·refine Ab (Dl (Ab (thn (tiY i [] s4 _ H4 _ I4 (fpY fr4) st4 go) fun r s5 ⟨u,hr,h5⟩=>?_)));subst hr;refine Ab (thn h5 fun _ s6 ⟨x,H6,I6,r6,y6,st6,fr6⟩=>?_);have I6':=I6.pinned (fpY fr6) (T.obj _ _ st6);refine Ab (thn (gY _ s6 _ H6 x u _ _ I6' r6 (step x H6 y6)) fun _ s7 ⟨σ7,H7,I7,kp,q7⟩=>?_);refine Ab (thn (tY _ s7 σ7 H7 _ _ I7 q7) fun b s8 ⟨H8,I8,q8⟩=>?_);have again:∀{H9:Hp} {s9:Ag} {zs:List V} {m':Nat},Inv Y ([]++pinsAt fp s6.heap) σ7 H9 s9->m'<n->W (i+1) m' zs H9->∃m,m<n/\∃i ys H',Inv Y [] (tg0 tg σ caps) H' s9/\tn i s9.heap/\(∀b∈fp,H' b=none)/\W i m ys H':=fun{H9 s9 zs m'} I9 hm w9=>by
    refine⟨m',hm,i+1,zs,H9,I9.unpinned.weak kp.1 kp.2,T.keep _ _ _ st6 fun b hb o e=>(I9.pin (b,o) (Av _ (Av _ (q1n hb e)))).1,fun b hb=>?_,w9⟩;obtain⟨o,e,d⟩:=T.obj _ _ st6 b hb;exact(I9.pin (b,o) (Av _ (Av _ (q1n hb e)))).2.1
   cases b with
   |true =>
    refine Ab (Ab (thn (eY _ s8 σ7 H8 _ _ I8 q8) fun v s9 ⟨vv,H9,I9,r9,hH9,hz9,n9⟩=>?_));obtain⟨m',hm',w9⟩:=hN _ _ n9;refine Ab (thn (aY _ s9 σ7 H9 ys vv v (fun _ H10=>W (i+1) m' (ys++[vv]) H10) _ I9 r9 hH9 hz9 w9) fun _ s10 ⟨_,H10,I10,_,w10⟩=>?_);exact An (An ⟨rfl,again I10 hm' w10⟩)
   |false =>
    obtain⟨m',hm',w8⟩:=hN _ _ q8;exact An ⟨rfl,again I8 hm' w8⟩
 rw[o3];exact Lj loop (T.self _ 0 _ _ _ stY loop)
def isCF(k:Option Bb):Bool:=k==some .cell||k==some .free
def capChk(N:List Str)(names outer:List (Str×Bb)):Caps->Bool
 |[]=>true
 |(x,i)::r=>decide (N[i]?=some x)&&(names.lookup x==some .free)&&isCF (outer.lookup x)&&capChk N names outer r
def compChk(N:List Str)(outer scope:Scope)(caps:Caps):Bool :=
 (scope.kind==.function)&&(scope.names.all fun y=>y.2 != .cell&&(y.2 != .local||scope.names.lookup y.1==some .local)&&(y.2 != .free||isCF (outer.names.lookup y.1)))&&capChk N scope.names outer.names caps
theorem z4z(h:isCF k=true):k=some .cell\/k=some .free:=by
 unfold isCF at h;simpa using h
theorem q9p:∀{caps:Caps},capChk X.N scope.names X.env.scope.names caps=true->CapOk X scope caps
 |[],_=>trivial
 |(x,i)::r,h=>by
  unfold capChk at h;simp only[Fy] at h;obtain⟨⟨⟨h1,h2⟩,h3⟩,h4⟩:=h;exact⟨⟨of_decide_eq_true h1,by simpa using h2,z4z h3⟩,q9p h4⟩
theorem q4h(h:compChk X.N X.env.scope scope caps=true):
  scope.kind=.function/\(∀y∈scope.names,y.2≠.cell)/\(∀y∈scope.names,y.2=.local->scope.names.lookup y.1=some .local)/\(∀x,(x,Bb.free)∈scope.names->X.env.scope.names.lookup x=some .cell\/X.env.scope.names.lookup x=some .free)/\CapOk X scope caps:=by
 unfold compChk at h;simp only[Fy,Ht] at h;obtain⟨⟨h1,h2⟩,h3⟩:=h;refine⟨by simpa using h1,fun y hy e=>?_,fun y hy e=>?_,fun x hx=>?_,q9p h3⟩
 ·have z:=(h2 y hy).1.1;rw[e] at z;simp at z
 ·have z:=(h2 y hy).1.2;rw[e] at z;simpa using z
 ·have z:=(h2 _ hx).2;exact z4z (by simpa using z)
def tComp(wi:TI)(g:TG)(tt:TT)(te:TE)(tg:List Str)(caps:Caps):TE:=fun σ H Q=>wi σ H fun J H1=>∀D,H1 D=none->CompW J g tt te (tg0 tg σ caps) D (fun _ H'=>Q (.ref D) H') H1
section
variable{X:Cx}{iter target elt:Expr}{ifs:List Expr}{scope:Scope}{pos:Pos}{wi:TI}{g:TG}{tt:TT}{te:TE}
theorem z0t{σ:St}(I:Inv X pins σ H s)(hfree:∀x,(x,Bb.free)∈scope.names->X.env.scope.names.lookup x=some .cell\/X.env.scope.names.lookup x=some .free):
  ∃cl,Ou scope X.env=pure cl/\(∀x c,cl.lookup x=some c->X.env.cells.lookup x=some c)/\∀x,(x,Bb.free)∈scope.names->∃c,cl.lookup x=some c :=
 z3p fun x hx=>I.ok.has x (hfree x hx)
theorem q4y(tg:List Str)(caps:Caps)(hc:X.calm=true)(hi:PI X target iter wi)(hg:∀cl C fp s H,PG (cxComp X (tg++caps.map (·.1)) scope cl C fp s H) target g)(ht:∀cl C fp s H,PIfs (cxComp X (tg++caps.map (·.1)) scope cl C fp s H) ifs tt)(he:∀cl C fp s H,PE (cxComp X (tg++caps.map (·.1)) scope cl C fp s H) elt te)(hk:compChk X.N X.env.scope scope caps=true:=by rfl)(hs:∀x,Ea iter X.env x=pure x:=by intro _;rfl):
  PE X (.ListComp elt [⟨target,iter,ifs,0⟩] scope pos) (tComp wi g tt te tg caps):=by
 intro pins s σ H Q I h;obtain⟨hkind,hnc,hnames,hfree,co⟩:=q4h hk;obtain⟨cl,hclos,hc1,hc2⟩:=z0t I hfree;refine Hc rfl hs hclos hkind hnames (thn (hi pins s σ H _ I h) fun v s1 h1=>thn h1 fun itv s2 h2=>?_);obtain⟨it,fp,tn,J,H2,e,I2,T,st2,f2,hw⟩:=h2;subst e;refine z2b hc hkind hnc hc1 hc2 co (fun C s H=>hg cl C fp s H) (fun C s H=>ht cl C fp s H) (fun C s H=>he cl C fp s H) I2 T st2 f2 hw ?_;intro D C ys H' s' hD I' hm F fin;obtain⟨m,hm⟩:=hm;refine⟨m,hm,fun h' hsb=>⟨.ref D,H',I'.turned (t':=s'.toks) (fun b o hb e=>(hsb.2 b hb).trans e) F.1 F.2.1 F.2.2.2.1 F.2.2.2.2.1 F.2.2.2.2.2,rfl,fin⟩⟩
def tSetC(wi:TI)(g:TG)(tt:TT)(te:TE)(tg:List Str)(caps:Caps)(i:Nat):TS:=fun D' σ H=>wi σ H fun J H1=>∀D,H1 D=none->CompW J g tt te (tg0 tg σ caps) D (fun _ H'=>D'.nx (σ.set i (some (.ref D))) H') H1
theorem q7n{i:Nat}{y:Str}{py spos:Pos}(tg:List Str)(caps:Caps)(hN:X.N.Nodup)(hiN:X.N[i]?=some y)(hx:Loc X.env.scope y)(hc:X.calm=true)(hi:PI X target iter wi)(hg:∀cl C fp s H,PG (cxComp X (tg++caps.map (·.1)) scope cl C fp s H) target g)(ht:∀cl C fp s H,PIfs (cxComp X (tg++caps.map (·.1)) scope cl C fp s H) ifs tt)(he:∀cl C fp s H,PE (cxComp X (tg++caps.map (·.1)) scope cl C fp s H) elt te)(hk:compChk X.N X.env.scope scope caps=true:=by rfl)(hs:∀x,Ea iter X.env x=pure x:=by intro _;rfl)(hsw:My (.ListComp elt [⟨target,iter,ifs,0⟩] scope pos) (some (.Name y py)) spos.line X.env=pure true:=by rfl)(hf:X.fn y=true\/X.env.scope.names.lookup y=some .local:=by first|exact .inl rfl|exact .inr rfl|assumption):
  PS X (.Assign [.Name y py] (.ListComp elt [⟨target,iter,ifs,0⟩] scope pos) spos) (tSetC wi g tt te tg caps i):=by
 intro pins s σ H D' I h;obtain⟨hkind,hnc,hnames,hfree,co⟩:=q4h hk;obtain⟨cl,hclos,hc1,hc2⟩:=z0t I hfree;rw[exec_Assign_Name_used _ _ _ _ hsw];refine Ab (Dl (Ab ?_));refine Ab (Cg (Hc (use:=some (assign (.Name y py) X.env)) rfl hs hclos hkind hnames
  (thn (hi pins s σ H _ I h) fun v s1 h1=>thn h1 fun itv s2 h2=>?_)) (fun _ s' hq=>An (An hq)) fun _ _ e=>e)
 obtain⟨it,fp,tn,J,H2,e,I2,T,st2,f2,hw⟩:=h2;subst e;refine z2b (RR:=fun acc C=>compPost (model X.prog X.w) X.A X.xe (some (assign (.Name y py) X.env)) (fun _ s'=>SP X pins D' .next s') acc C) (Fin:=fun D _ H'=>D'.nx (σ.set i (some (.ref D))) H') hc hkind hnc hc1 hc2 co (fun C s H=>hg cl C fp s H) (fun C s H=>ht cl C fp s H) (fun C s H=>he cl C fp s H) I2 T st2 f2 hw ?_;intro D C ys H' s' hD I' hm F fin;obtain⟨m,hm⟩:=hm;refine Nn (q9b (v:=.ref D) I' hN hiN hx rfl (fun s'' I'' hsb=>?_) hf);obtain⟨a,sb,ha⟩:=hsb;have hCa:C≠a:=by
  rcases ha with ha|ha
  ·rw[ha];exact F.2.1
  ·exact fun z=>F.2.2.2.2.1 y a ha z.symm
 refine⟨m,hm.sameBut sb hCa,fun h' hs'=>?_⟩;exact⟨_,H',I''.turned (t':=s''.toks) (fun b o hb e=>(hs'.2 b hb).trans e) F.1 F.2.1 F.2.2.2.1 F.2.2.2.2.1 F.2.2.2.2.2,fin⟩
end
theorem z0u{Fin:List V->Hp->Prop}(Pv:Nat->List V->Hp->Prop)(h0:Pv 0 [] (upd H1 D (.lst [])))(hl:∀i ys H,Pv i ys H->H D=some (.lst ys))(hgo:∀i ys H,i<n->Pv i ys H->J.go i H)(hstop:∀ys H,Pv n ys H->J.stop n H)(hs:∀i ys H x H',i<n->Pv i ys H->J.yld i H x H'->g x σ0 H' fun σ2 H2=>Keeps0 σ0 σ2/\tt σ2 H2 fun b H3 =>
   if b=true then te σ2 H3 fun v H4=>H4 D=some (.lst ys)/\ys.length<sizeLine/\Pv (i+1) (ys++[v]) (upd H4 D (.lst (ys++[v]))) else Pv (i+1) ys H3)(hd:∀ys H,Pv n ys H->Fin ys H):CompW J g tt te σ0 D Fin H1:=by
 refine⟨fun i m ys H=>m=n-i/\i<=n/\Pv i ys H,⟨n,by simp,Au _,h0⟩,?_⟩;rintro i m ys H ⟨rfl,hi,p⟩;refine⟨hl i ys H p,?_⟩;by_cases hlt:i<n
 ·exact .inr ⟨hgo i ys H hlt p,Pv (i+1),fun zs H' q=>⟨n-(i+1),by lia,rfl,hlt,q⟩,fun x H' y=>hs i ys H x H' hlt p y⟩
 ·grind
theorem z3q{lo:Int}{Fin:List V->Hp->Prop}(Pv:Nat->List V->Hp->Prop)(h0:Pv 0 [] (upd H1 D (.lst [])))(hl:∀i ys H,Pv i ys H->H D=some (.lst ys))(hs:∀i ys H,i<n->Pv i ys H->g (.int (lo+i)) σ0 H fun σ2 H2=>Keeps0 σ0 σ2/\tt σ2 H2 fun b H3 =>
   if b=true then te σ2 H3 fun v H4=>H4 D=some (.lst ys)/\ys.length<sizeLine/\Pv (i+1) (ys++[v]) (upd H4 D (.lst (ys++[v]))) else Pv (i+1) ys H3)(hd:∀ys H,Pv n ys H->Fin ys H):CompW (Itr lo n) g tt te σ0 D Fin H1 :=
 z0u Pv h0 hl (fun i ys H h _=>h) (fun ys H _=>Af _) (fun i ys H x H' h p y=>by obtain⟨e,y⟩:=y;subst e y;exact hs i ys _ h p) hd
theorem q4b{K:Ae}{Fin:List V->Hp->Prop}(Pv:Nat->List V->Hp->Prop)(h0:Pv 0 [] (upd H1 D (.lst [])))(hl:∀i ys H,Pv i ys H->H D=some (.lst ys)/\SqL K H a xs)(hs:∀i ys H x,xs[i]?=some x->Pv i ys H->g x σ0 H fun σ2 H2=>Keeps0 σ0 σ2/\tt σ2 H2 fun b H3 =>
   if b=true then te σ2 H3 fun v H4=>H4 D=some (.lst ys)/\ys.length<sizeLine/\Pv (i+1) (ys++[v]) (upd H4 D (.lst (ys++[v]))) else Pv (i+1) ys H3)(hd:∀ys H,Pv xs.length ys H->Fin ys H):CompW (Itl K a) g tt te σ0 D Fin H1 :=
 z0u Pv h0 (fun i ys H p=>(hl i ys H p).1) (fun i ys H h p=>⟨xs,xs[i],(hl i ys H p).2,by simp[h]⟩) (fun ys H p=>⟨xs,(hl _ ys H p).2,Af _⟩)
  (fun i ys H x H' h p y=>by obtain⟨e,y⟩:=y;subst e;exact hs i ys _ x (y xs (hl i ys _ p).2) p) hd
theorem q1o{r:St}:Keeps0 (none::r) (v::r):=⟨rfl,fun i w h=>by
 cases i with
 |zero=>cases h
 |succ i=>exact h⟩
theorem z3r{r:St}:Keeps0 (none::none::r) (v::w::r):=⟨rfl,fun i u h=>by
 cases i with
 |zero=>cases h
 |succ i=>cases i with
  |zero=>cases h
  |succ i=>exact h⟩
open PySem PySem.Spec PyProof.Rows
section
variable{X:Cx}
def rSlS:V->Option Int->Option Int->Hp->VK->Prop:=fun x lo hi H Q=>∃z,x=.str z/\z.length<=sizeLine/\Q (.str (Pe z lo hi)) H
theorem q5n(h:Jl v o):∃p:Option (Int×Tok),v=partValue p/\o=p.map (·.1):=by
 cases h with
 |none=>exact⟨none,rfl,rfl⟩
 |int i t=>exact⟨some (i,t),rfl,rfl⟩
theorem sl_str:SlR X rSlS:=by
 intro pins s σ H x v vl vu lo hi sl Q I rx hs pl pu h;obtain⟨z,rfl,hz,q⟩:=h;obtain⟨t,rfl⟩:=rx;obtain⟨p1,rfl,rfl⟩:=q5n pl;obtain⟨p2,rfl,rfl⟩:=q5n pu;refine⟨"str",_,F.slot_str_getitem.lookup,Ff _ _ _,wpAny_getItem_str_slice (st:=none) hs rfl
  (post_val_or_str ⟨Ap (Txt.slice_le z _ _) hz,fun t' k=>⟨.str (Pe z (p1.map (·.1)) (p2.map (·.1))),H,I.tok _,⟨t',rfl⟩,q⟩⟩)⟩
def rLower:V->List V->Hp->VK->Prop:=fun x vs H Q=>∃z,x=.str z/\vs=[]/\3*z.length<=sizeLine/\Q (.str (Jm z)) H
theorem fit3(h:n<=3*m)(h2:3*m<=sizeLine):Ee.Str.tooLong n=false:=by
 exact decide_eq_false (by lia)
theorem q3m:MtM X "str.lower" rLower:=by
 intro pins s σ H x vs v us Q I rx rv h;obtain⟨z,rfl,rfl,hz,q⟩:=h;obtain⟨t,rfl⟩:=rx;cases rv.zero;exact SC.lower (fit3 (len_lower z) hz) ⟨.str _,H,I.tok _,⟨_,rfl⟩,q⟩
def rUpper:V->List V->Hp->VK->Prop:=fun x vs H Q=>∃z,x=.str z/\vs=[]/\3*z.length<=sizeLine/\Q (.str (Jn z)) H
theorem q4z:MtM X "str.upper" rUpper:=by
 intro pins s σ H x vs v us Q I rx rv h;obtain⟨z,rfl,rfl,hz,q⟩:=h;obtain⟨t,rfl⟩:=rx;cases rv.zero;exact SC.upper (fit3 (len_upper z) hz) ⟨.str _,H,I.tok _,⟨_,rfl⟩,q⟩
theorem q4i:∀{ys:List Str} {us:List Value},Vals (ys.map V.str) us->StrsAre us ys
 |[],_,.nil=>.nil
 |y::ys,_,.cons r t=>by obtain⟨k,rfl⟩:=r;exact .cons y k (q4i t)
theorem q3p:∀(l:List (Str×Tok)),Vals ((l.map (·.1)).map V.str) (strValues l)
 |[]=>.nil
 |(x,t)::r=>.cons ⟨t,rfl⟩ (q3p r)
def rJoin(K:Ae):V->List V->Hp->VK->Prop:=fun x vs H Q=>∃(z:Str) (p:Addr) (ys:List Str),x=.str z/\vs=[.ref p]/\(SqL K H p (ys.map V.str)\/SqT K H p (ys.map V.str))/\(ys.map (·.length)).sum+ys.length*z.length<=16777216/\Q (.str (Kk z ys)) H
theorem x0x:MtM X "str.join" (rJoin X.K):=by
 intro pins s σ H x vs v us Q I rx rv h;obtain⟨z,p,ys,rfl,rfl,hq,hz,q⟩:=h;obtain⟨t,rfl⟩:=rx;obtain⟨u,rfl,ru⟩:=rv.one;cases ru;rcases hq with hq|hq
 ·obtain⟨its,r,pl,_⟩:=I.list hq;exact join_list pl.isList (q4i (by simpa using r)) hz fun t' k=>⟨.str _,H,I.tok _,⟨_,rfl⟩,q⟩
 ·obtain⟨its,r,pl,_⟩:=I.tuple hq;exact join_tuple pl (q4i (by simpa using r)) hz fun t' k=>⟨.str _,H,I.tok _,⟨_,rfl⟩,q⟩
def rSplit:V->List V->Hp->VK->Prop:=fun x vs H Q=>∃z y,x=.str z/\vs=[.str y]/\(y.length==0)=false/\z.length+1<=sizeLine/\(Fv z y).length<=sizeLine/\(Ee.Str.partsBetween z (Dc z y 0 z.length (z.length+1)) y.length).length<=sizeLine/\∀p,H p=none->Q (.ref p) (upd H p (.lst ((Fv z y).map V.str)))
theorem z7t:MtM X "str.split" rSplit:=by
 intro pins s σ H x vs v us Q I rx rv h;obtain⟨z,y,rfl,rfl,hy,hz,hz2,hz3,q⟩:=h;obtain⟨t,rfl⟩:=rx;obtain⟨u,rfl,ru⟩:=rv.one;obtain⟨t',rfl⟩:=ru;have fin:∀(l:List (Str×Tok)) (tk:Nat),l.map (·.1)=Fv z y->EP X pins σ Q (.ref s.heap.objs.size) { s with toks:=tk,heap:=s.heap.push { cls:=.type "list",data:=.seq (strValues l).toArray } }:=fun l tk e=>by
  refine⟨.ref s.heap.objs.size,_,I.lnew (t':=tk) (by rw[<- e];exact q3p l) (by rw[Ad];exact hz2),rfl,q _ I.fresh⟩
 cases h1:(decide (z.length<y.length)||decide (Mo z<Mo y))
 ·cases hf:(Dc z y 0 z.length (z.length+1)).isEmpty
  ·refine Fz Kl (Ff _ _ _) Jy (Jo _ _) (meets_str_split_sep z y t t' h1 hy hf (by lia) hz3) ?_;rw[strsFrom_eq];exact fin (numbered s.toks _) _ ((numbered_texts _ _).trans ((if_neg (ne_true_of_eq_false h1)).trans (if_neg (ne_true_of_eq_false hf))).symm)
  ·exact Fz Kl (Ff _ _ _) Jy (Jo _ _) (meets_str_split_not_found z y t t' h1 hy hf)
    (fin [(z,t)] _ ((if_neg (ne_true_of_eq_false h1)).trans (if_pos hf)).symm)
 ·exact Fz Kl (Ff _ _ _) Jy (Jo _ _) (meets_str_split_cannot_occur z y t t' h1)
   (fin [(z,t)] _ (if_pos h1).symm)
def rMulS:R2:=fun x y H Q=>∃z n,x=.str z/\y=.int n/\MulOk z n/\Q (.str (Txt.mul z n)) H
theorem op_mulS:OpR X (Ek .Mult) rMulS:=by
 intro pins s σ H x y v u Q I rx ry h;obtain⟨z,n,rfl,rfl,hm,q⟩:=h;obtain⟨t,rfl⟩:=rx;obtain⟨t',rfl⟩:=ry;exact SB.mul hm fun t2 k=>⟨.str _,H,I.tok _,⟨_,rfl⟩,q⟩
theorem q5o:∀{bs:List Bool} {us:List Value},Vals (bs.map V.bl) us->LSm.BoolsAre us bs
 |[],_,.nil=>.nil
 |b::bs,_,.cons r t=>by cases r;exact .cons b (q5o t)
theorem z7u(hc:X.calm=true):CallR X (.builtin "all") (fun xs H Q=>∃(p:Addr) (bs:List Bool),xs=[.ref p]/\SqL X.K H p (bs.map V.bl)/\Q (.bl (bs.all id)) H):=by
 intro pins s σ H xs us Q I r h;obtain⟨p,bs,rfl,hq,q⟩:=h;obtain⟨u,rfl,rx⟩:=vals1 r;cases rx;obtain⟨its,r',pl,hz⟩:=I.list hq;have hb:=q5o r';have hlt:p<s.heap.objs.size:=by obtain⟨_,e,_⟩:=pl.isList;exact Ba e
 refine call_all_walk (Jv pl.isList ?_);refine⟨s.heap.objs.size,[s.heap.objs.size,p],[s.heap.objs.size],its.toArray.size,_,_,fun i=>(bs[i]?).getD true,rfl,Walks.list (A:=X.A.in1) (I.ok.hd hc) _ p (Ce hlt) its.toArray,
  ⟨⟨_,Bc _ rfl,rfl,rfl⟩,pl.isList.push _⟩,fun i v s' Q' E' hP hQ=>?_,fun h' tk hk=>?_⟩
 ·obtain⟨b,e,rfl⟩:=hb.get i v (by simpa using hP);simp only[e,Option.getD_some] at hQ;exact El hQ
 ·have e:((List.range its.toArray.size).all fun i=>(bs[i]?).getD true)=bs.all id:=by
   rw[Az,hb.length];exact LSm.range_all bs
  rw[e];exact⟨.bl _,H,I.kept (t':=tk) (LSm.kept_iter hk),rfl,q⟩
def Its(z:Str):It:=⟨fun i _=>i<z.length,fun i H x H'=>H'=H/\∃c,z.cps[i]?=some c/\x=.str ⟨#[c]⟩,fun i _=>z.length<=i⟩
end
theorem z5a{K:Ae}(it:Addr)(z:Str)(t:Tok):Turn P w K tg (Its z) [it] it (fun i h=>i<=z.length/\h.IsStrIter it "str_ascii_iterator" z t i) where
 mem:=by simp
 obj:=fun i h st b hb=>by
  have e:b=it:=by grind
  subst e;obtain⟨_,o,e,c,d⟩:=st;exact⟨o,e,fun v z=>by rw[d] at z;cases z⟩
 keep:=fun i h h' st k=>⟨st.1,let ⟨o,e,c,d⟩:=st.2;⟨o,k it (by simp) o e,c,d⟩⟩
 item:=by
  intro X hP hw hK hc i pins s σ H E I hf st hg;obtain⟨f0,f1,f2,f3,f4,f5⟩:=hf it (by simp);have hi:i<z.cps.size:=hg;refine wpAny_pyNext_ascii_item st.2 (c:=z.cps[i]) (by simp[hi]) fun h' hit' hs'=>?_;have I1:Inv X pins σ H { s with heap:=h',toks:=s.toks+1 }:=I.turned (fun b o hb e=>(hs'.2 b hb).trans e) f0 f1 f3 f4 f5;obtain⟨o,e,c,d⟩:=id hit';exact⟨_,rfl,z3f e c d (by decide) ⟨.str ⟨#[z.cps[i]]⟩,H,I1,⟨_,rfl⟩,⟨rfl,_,by simp[hi],rfl⟩,⟨hg,hit'⟩,fun b hb=>(hf b hb).1⟩⟩
 done:=by
  intro X hP hw hK hc i pins s σ H E I hf st hg;obtain⟨f0,f1,f2,f3,f4,f5⟩:=hf it (by simp);have hi:z.cps.size<=i:=hg;exact wpAny_pyNext_ascii_end (I.ok.hd hc) st.2 (by simp;lia) fun h' eb=>⟨rfl,I.turned (t':=s.toks) (fun b o hb e=>eb b o hb e) f0 f1 f3 f4 f5⟩
 self:=fun _ _ _ _ _ st h=>wpAny_pyIter_striter_ascii st.2 h
theorem z5b{K:Ae}(it:Addr)(z:Str)(t:Tok):Turn P w K tg (Its z) [it] it (fun i h=>i<=z.length/\h.IsStrIter it "str_iterator" z t i) where
 mem:=by simp
 obj:=fun i h st b hb=>by
  have e:b=it:=by grind
  subst e;obtain⟨_,o,e,c,d⟩:=st;exact⟨o,e,fun v z=>by rw[d] at z;cases z⟩
 keep:=fun i h h' st k=>⟨st.1,let ⟨o,e,c,d⟩:=st.2;⟨o,k it (by simp) o e,c,d⟩⟩
 item:=by
  intro X hP hw hK hc i pins s σ H E I hf st hg;obtain⟨f0,f1,f2,f3,f4,f5⟩:=hf it (by simp);have hi:i<z.cps.size:=hg;refine wpAny_pyNext_wide_item st.2 (c:=z.cps[i]) (by simp[hi]) fun h' hit' hs'=>?_;have I1:Inv X pins σ H { s with heap:=h',toks:=s.toks+1 }:=I.turned (fun b o hb e=>(hs'.2 b hb).trans e) f0 f1 f3 f4 f5;obtain⟨o,e,c,d⟩:=id hit';exact⟨_,rfl,z3f e c d (by decide) ⟨.str ⟨#[z.cps[i]]⟩,H,I1,⟨_,rfl⟩,⟨rfl,_,by simp[hi],rfl⟩,⟨hg,hit'⟩,fun b hb=>(hf b hb).1⟩⟩
 done:=by
  intro X hP hw hK hc i pins s σ H E I hf st hg;obtain⟨f0,f1,f2,f3,f4,f5⟩:=hf it (by simp);have hi:z.cps.size<=i:=hg;exact wpAny_pyNext_wide_end (I.ok.hd hc) st.2 (by simp;lia) fun h' eb=>⟨rfl,I.turned (t':=s.toks) (fun b o hb e=>eb b o hb e) f0 f1 f3 f4 f5⟩
 self:=fun _ _ _ _ _ st h=>wpAny_pyIter_striter_wide st.2 h
theorem x0y{g:TG}{tb:TS}{D:Ends}(Pv:Nat->St->Hp->Prop)(h0:Pv 0 σ H)(hs:∀i c σ H,z.cps[i]?=some c->Pv i σ H->g (.str ⟨#[c]⟩) σ H fun σ2 H2=>tb { D with nx:=Pv (i+1),ct:=Pv (i+1),bk:=D.nx } σ2 H2)(hd:∀σ H,Pv z.length σ H->D.nx σ H):
  ∃W:Nat->Nat->St->Hp->Prop,(∃m,W 0 m σ H)/\∀i m σ H,W i m σ H ->
   ((Its z).stop i H/\D.nx σ H)\/((Its z).go i H/\∃N:St->Hp->Prop,(∀σ' H',N σ' H'->∃m',m'<m/\W (i+1) m' σ' H')/\∀x H',(Its z).yld i H x H'->g x σ H' fun σ2 H2=>tb { D with nx:=N,ct:=N,bk:=D.nx } σ2 H2):=by
 refine⟨fun i m σ H=>m=z.length-i/\i<=z.length/\Pv i σ H,⟨z.length,by simp,Au _,h0⟩,?_⟩;rintro i m σ H ⟨rfl,hi,p⟩;by_cases hlt:i<z.length
 ·refine .inr ⟨hlt,Pv (i+1),fun σ' H' p'=>⟨z.length-(i+1),by lia,rfl,hlt,p'⟩,fun x H' y=>?_⟩;obtain⟨e,c,hc,y⟩:=y;subst e y;exact hs i c σ _ hc p
 ·have e:i=z.length:=by lia
  subst e;exact .inl ⟨Af _,hd σ H p⟩
theorem q7o{Fin:List V->Hp->Prop}(Pv:Nat->List V->Hp->Prop)(h0:Pv 0 [] (upd H1 D (.lst [])))(hl:∀i ys H,Pv i ys H->H D=some (.lst ys))(hs:∀i ys H c,z.cps[i]?=some c->Pv i ys H->g (.str ⟨#[c]⟩) σ0 H fun σ2 H2=>Keeps0 σ0 σ2/\tt σ2 H2 fun b H3 =>
   if b=true then te σ2 H3 fun v H4=>H4 D=some (.lst ys)/\ys.length<sizeLine/\Pv (i+1) (ys++[v]) (upd H4 D (.lst (ys++[v]))) else Pv (i+1) ys H3)(hd:∀ys H,Pv z.length ys H->Fin ys H):CompW (Its z) g tt te σ0 D Fin H1 :=
 z0u Pv h0 hl (fun i ys H h _=>h) (fun ys H _=>Af _) (fun i ys H x H' h p y=>by obtain⟨e,c,hc,y⟩:=y;subst e y;exact hs i ys _ c hc p) hd
open PySem PySem.Spec PyProof.Rows
structure Vw (K:Ae) (H:Hp) (h:Heap):Prop where
 lst:∀a xs,SqL K H a xs->∃its:List Value,Vals xs its/\h.IsList a its.toArray
 tup:∀a xs,SqT K H a xs->∃its:List Value,Vals xs its/\h.IsTuple a its.toArray
theorem SqL.ne{K:Ae}(h:SqL K H a xs)(hb:H b=none)(hk:K.lookup b=none):a≠b:=by
 rintro rfl;rcases h with(h|⟨o,h⟩)|⟨o,_,_,h,_⟩
 ·rw[hb] at h;cases h
 ·rw[hb] at h;cases h
 ·rw[hk] at h;cases h
theorem SqT.ne{K:Ae}(h:SqT K H a xs)(hb:H b=none)(hk:K.lookup b=none):a≠b:=by
 rintro rfl;rcases h with(h|⟨o,h⟩)|⟨o,_,_,h,_⟩
 ·rw[hb] at h;cases h
 ·rw[hb] at h;cases h
 ·rw[hk] at h;cases h
theorem Vw.but{K:Ae}(v:Vw K H h)(hb:H b=none)(hk:K.lookup b=none)(k:∀c o,c≠b->h.get? c=some o->h'.get? c=some o):Vw K H h' :=
 ⟨fun a xs q=>let ⟨its,r,l⟩:=v.lst a xs q;⟨its,r,l.at fun o e=>k a o (q.ne hb hk) e⟩,fun a xs q=>let ⟨its,r,l⟩:=v.tup a xs q;⟨its,r,by
  obtain⟨o,e,z⟩:=l;exact⟨o,k a o (q.ne hb hk) e,z⟩⟩⟩
theorem Vw.linj{K:Ae}(v:Vw K H h)(p:SqL K H a xs)(q:SqL K H a ys):xs=ys:=by
 obtain⟨its,r,o,e,_,n,d⟩:=v.lst a xs p;obtain⟨its',r',o',e',_,n',d'⟩:=v.lst a ys q;have:its=its':=by grind
 subst this;exact r.inj r'
theorem Inv.vw{σ:St}(I:Inv X pins σ H s):Vw X.K H s.heap :=
 ⟨fun a xs q=>let ⟨its,r,l,_⟩:=I.list q;⟨its,r,l.isList⟩,fun a xs q=>let ⟨its,r,l,_⟩:=I.tuple q;⟨its,r,l⟩⟩
structure Srce (P:Program) (w:World) (K:Ae) (J:It) (it:Addr) (st:Nat->Heap->Prop):Prop where
 obj:∀i h,st i h->∃o,h.get? it=some o/\∀v,o.data≠.cell v
 keep:∀i h h',st i h->(∀o,h.get? it=some o->h'.get? it=some o)->st i h'
 item:∀(A:Around) (i:Nat) (s:Ag) (H:Hp) (Q:Value->Ag->Prop) (E:Value->Ag->Prop),A.handled=none->Vw K H s.heap->H it=none->K.lookup it=none->st i s.heap->J.go i H ->
  (∀u x h' tk,RelV x u->J.yld i H x H->st (i+1) h'->Gv it s.heap h'->Q u { s with heap:=h',toks:=tk })->wpAny (model P w) A (Kd (.ref it)) Q E s
 done:∀(A:Around) (i:Nat) (s:Ag) (H:Hp) (Q:Value->Ag->Prop) (E:Value->Ag->Prop),A.handled=none->Vw K H s.heap->H it=none->K.lookup it=none->st i s.heap->J.stop i H ->
  (∀h' e,Heap.ExtBut it s.heap h'->(∃o,h'.get? e=some o/\o.cls=.type "StopIteration")->E (.ref e) { s with heap:=h' })->wpAny (model P w) A (Kd (.ref it)) Q E s
theorem q5p{K:Ae}(a it:Addr):Srce P w K (Itl K a) it (fun i h=>h.IsListIter it a i) where
 obj:=fun i h st=>by obtain⟨o,e,c,d⟩:=st;exact⟨o,e,fun v z=>by rw[d] at z;cases z⟩
 keep:=fun i h h' st k=>st.at fun o e=>k o e
 item:=fun A i s H Q E hh vw hn hk st go hQ=>by
  obtain⟨xs,x,hq,hx⟩:=go;obtain⟨its,rv,p⟩:=vw.lst a xs hq;obtain⟨u,hu,ru⟩:=rv.get hx;refine wpAny_nextOf_list_item st p (by simpa using hu) fun h' st' sb=>?_
  exact hQ u x h' s.toks ru ⟨rfl,fun ys hy=>by rw[vw.linj hy hq];exact hx⟩ st' sb
 done:=fun A i s H Q E hh vw hn hk st stop hE=>by
  obtain⟨xs,hq,hx⟩:=stop;obtain⟨its,rv,p⟩:=vw.lst a xs hq;have hl:=rv.length;exact wpAny_nextOf_list_end hh st p (by simp;lia) hE
def stStr(it:Addr)(z:Str)(t:Tok)(i:Nat)(h:Heap):Prop:=h.IsStrIter it (Ep z) z t i
theorem q7p{K:Ae}(it:Addr)(z:Str)(t:Tok):Srce P w K (Its z) it (stStr it z t) where
 obj:=fun i h st=>by obtain⟨o,e,c,d⟩:=st;exact⟨o,e,fun v z=>by rw[d] at z;cases z⟩
 keep:=fun i h h' st k=>by obtain⟨o,e,r⟩:=st;exact⟨o,k o e,r⟩
 item:=fun A i s H Q E hh vw hn hk st go hQ=>by
  have hi:i<z.cps.size:=go;unfold stStr Ep at st;cases ha:z.cps.all (· < 128)
  ·rw[ha] at st;refine wpAny_nextOf_wide_item st (c:=z.cps[i]) (by simp[hi]) fun h' hit' hs'=>?_;exact hQ _ (.str ⟨#[z.cps[i]]⟩) h' (s.toks+1) ⟨_,rfl⟩ ⟨rfl,_,by simp[hi],rfl⟩ (by unfold stStr Ep;rw[ha];exact hit') hs'
  ·rw[ha] at st;refine wpAny_nextOf_ascii_item st (c:=z.cps[i]) (by simp[hi]) fun h' hit' hs'=>?_;exact hQ _ (.str ⟨#[z.cps[i]]⟩) h' (s.toks+1) ⟨_,rfl⟩ ⟨rfl,_,by simp[hi],rfl⟩ (by unfold stStr Ep;rw[ha];exact hit') hs'
 done:=fun A i s H Q E hh vw hn hk st stop hE=>by
  have hi:z.cps.size<=i:=stop;unfold stStr Ep at st;cases ha:z.cps.all (· < 128)
  ·rw[ha] at st;exact wpAny_nextOf_wide_end hh st (by simp;lia) hE
  ·rw[ha] at st;exact wpAny_nextOf_ascii_end hh st (by simp;lia) hE
theorem Inv.turnedL{σ:St}{ch:List Addr}(I:Inv X pins σ H s)(k:∀b o,b∉ch->s.heap.get? b=some o->h'.get? b=some o)(hf:∀b∈ch,FpOk X pins H b):Inv X pins σ H { s with heap:=h',toks:=t' }:=by
 have nit:∀b u,H b=some u->b∉ch:=fun b u e z=>by rw[(hf b z).1] at e;cases e
 refine I.step (g':=s.gens) (d':=s.drawn) (fun b hb=>?_) (fun b o _ _ hc e _=>k b o hc e) (fun b o _ _ hc e _=>⟨o.slots,k b o hc e⟩) (fun _ _ _ _ n=>n)
  (fun b o hc e=>?_) (fun _ _ e=>e) (fun _ _ _ e=>e) (fun b ps e=>⟨#[],by rw[e];simp⟩) (fun m hm=>?_) (fun b u e=>?_) I.bare
 ·exact⟨(hf b hb).2.2.2.1,(hf b hb).2.1,(hf b hb).2.2.2.2.1,(hf b hb).2.2.2.2.2⟩
 ·exact⟨o,k b o hc e⟩
 ·obtain⟨o,es,ep,ho,r⟩:=hm;exact⟨o,es,ep,k _ o (fun z=>(hf _ z).2.1 rfl) ho,r⟩
 ·refine(I.hok b u e).stay (fun c v hc q=>k c v ?_ q) (fun _ q=>q) fun _ _ q=>q;rcases hc with z|z
  ·rw[z];exact nit b u e
  ·exact nit c _ z
theorem Inv.track{σ:St}{T:Addr}(I:Inv X pins σ H s)(hT:X.s₀.heap.objs.size<=T)(hF:FpOk X pins H T)(new:ObjOk X.prog X.w (upd H T o) s.heap T o):Inv X pins σ (upd H T o) s:=by
 have hn:=hF.1;refine⟨I.ok,I.os,I.bare,⟨I.base.keep,I.base.slot,fun b ob e n hx=>?_,I.base.there,fun b xs e=>?_,fun b ob u e=>?_,fun b ps e=>?_⟩,I.loc,I.cell,?_,fun x c e=>?_,fun p hp=>?_,fun b u e=>?_,I.len⟩
 ·rw[q0m (Ce (Bj (Ba e) hT))];exact I.base.free b ob e n hx
 ·have z:=I.base.tups b xs e;rw[q0m (q0r z hn)];exact z
 ·have z:=I.base.frzs b ob u e;rw[q0m (q0r z hn)];exact z
 ·obtain⟨m,z⟩:=I.base.tbls b ps e;exact⟨m,by rw[q0m (q0r z hn)];exact z⟩
 ·rw[q0m (Gk hF.2.1)];exact I.free
 ·rw[q0m (hF.2.2.2.2.1 x c e)];exact I.freeC x c e
 ·obtain⟨e,n,ne,nf,d⟩:=I.pin p hp;exact⟨e,by rw[q0m (hF.2.2.2.2.2 p hp)];exact n,ne,nf,d⟩
 ·by_cases hb:b=T
  ·subst hb;rw[q0e] at e;cases e;exact new
  ·rw[q0m hb] at e;exact(I.hok b u e).stay (fun _ _ _ q=>q) (fun c q=>by rw[q0m (q0r q hn)];exact q) fun c xs q=>by rw[q0m (q0r q hn)];exact q
theorem FpOk.noK{σ:St}(I:Inv X pins σ H' s)(f:FpOk X pins H b):X.K.lookup b=none:=by
 cases e:X.K.lookup b with
 |none=>rfl
 |some o =>
  have e1:=I.ok.mod.kin b o e;rcases f.2.2.2.1 with z|z
  ·exact absurd z (I.ok.noex b o e1)
  ·exact absurd (Bj (Ba (I.ok.bs b o e1).1) z) (Ej _)
structure ZipA (z TI TO i1 i2:Addr):Prop where
 TIz:TI≠z
 TOz:TO≠z
 i1z:i1≠z
 i2z:i2≠z
 TITO:TI≠TO
 TIi1:TI≠i1
 TIi2:TI≠i2
 TOi1:TO≠i1
 TOi2:TO≠i2
 i12:i1≠i2
section
variable{prog:Program}{w:World}{K:Ae}{A:Around}{E:Value->Ag->Prop}{s:Ag}{J1 J2:It}{t1 t2:Nat->Heap->Prop}{z TI TO i1 i2:Addr}{H:Hp}
theorem z5c{Q:Value->Ag->Prop}(D:ZipA z TI TO i1 i2)(S1:Srce prog w K J1 i1 t1)(S2:Srce prog w K J2 i2 t2)(hh:A.handled=none)(vw:Vw K H s.heap)(nH:∀b∈[z,TI,TO,i1,i2],H b=none)(nK:∀b∈[z,TI,TO,i1,i2],K.lookup b=none)(hz:IsZip s.heap z TI TO .none)(hTI:Hq s.heap TI (.ref i1) (.ref i2))(hTO:Hq s.heap TO a b)(h1:t1 i s.heap)(h2:t2 i s.heap)(g1:J1.go i H)(g2:J2.go i H)(hQ:∀u v x y h' tk,RelV x u->RelV y v->J1.yld i H x H->J2.yld i H y H->IsZip h' z TI TO (Jk s.heap.objs.size)->Hq h' TO u v->t1 (i+1) h'->t2 (i+1) h'->Hq h' s.heap.objs.size u v->h'.objs.size=s.heap.objs.size+1 ->
   (∀c o,c≠z->c≠TO->c≠i1->c≠i2->s.heap.get? c=some o->h'.get? c=some o)->Q (.ref s.heap.objs.size) { s with heap:=h',toks:=tk }):
  wpAny (model prog w) A (Ee.«zip.__next__» ⟨[.ref z],[]⟩) (fun fin s'=>∃v,fin=.done (.ret v)/\Q v s') E s:=by
 show wpAny _ _ (field (.ref z) 2 >>= _) _ _ _;refine Ab (Ci hz rfl rfl ?_);refine Ab (Ci hz rfl rfl ?_);refine Ab (Es hTI rfl ?_);refine Ab ?_;refine Ab (Ci hz rfl rfl (An ?_));refine Ab (Il ?_);refine Ab (Ci hz rfl rfl ?_);refine Ab (Cp hz (by simp) fun h₁ hz₁ hs₁=>?_);replace hz₁:IsZip h₁ z TI TO .ellipsis:=hz₁;have vw₁:=vw.but (nH z (by simp)) (nK z (by simp)) fun c o hc e=>hs₁.extBut _ _ hc e;refine Ab ?_;refine Ab (Ab (Ju ?_));refine Ab (S1.item _ i _ H _ _ hh vw₁ (nH i1 (by simp)) (nK i1 (by simp)) (S1.keep _ _ _ h1 fun o e=>hs₁.extBut _ _ D.i1z e) g1 fun u x h₂ tk₂ rx yx h1₂ hs₂=>An ?_);have hTO₂:=hs₂.extBut _ _ D.TOi1 (hs₁.extBut _ _ D.TOz hTO);refine Ab (Es hTO₂ rfl ?_);refine Ab (Im hTO₂ fun h₃ hTO₃ hs₃=>?_);have vw₃:=(vw₁.but (nH i1 (by simp)) (nK i1 (by simp)) fun c o hc e=>hs₂.extBut _ _ hc e).but (nH TO (by simp)) (nK TO (by simp)) fun c o hc e=>hs₃.extBut _ _ hc e;refine Ab (Jh (An ?_));refine Ab (Ab (Ju ?_));refine Ab (S2.item _ i _ H _ _ hh vw₃ (nH i2 (by simp)) (nK i2 (by simp)) (S2.keep _ _ _ h2 fun o e=>hs₃.extBut _ _ D.TOi2.symm (hs₂.extBut _ _ D.i12.symm (hs₁.extBut _ _ D.i2z e))) g2 fun v y h₄ tk₄ ry yy h2₄ hs₄=>An ?_);have hTO₄:=hs₄.extBut _ _ D.TOi2 hTO₃;refine Ab (Es hTO₄ rfl ?_);refine Ab (Im hTO₄ fun h₅ hTO₅ hs₅=>?_);replace hTO₅:Hq h₅ TO u v:=hTO₅;refine Ab (Jh (An (An ?_)));refine Ab (Es hTO₅ rfl ?_);refine Ab (wpAny_newTuple ?_);have hsz:h₅.objs.size=s.heap.objs.size:=by rw[hs₅.1,hs₄.1,hs₃.1,hs₂.1,hs₁.1]
 have hz₅:=hs₅.extBut _ _ D.TOz.symm (hs₄.extBut _ _ D.i2z.symm (hs₃.extBut _ _ D.TOz.symm (hs₂.extBut _ _ D.i1z.symm hz₁)));have hk₅:∀c o,c≠z->c≠TO->c≠i1->c≠i2->s.heap.get? c=some o->h₅.get? c=some o:=fun c o c1 c2 c3 c4 e =>
  hs₅.extBut _ _ c2 (hs₄.extBut _ _ c4 (hs₃.extBut _ _ c2 (hs₂.extBut _ _ c3 (hs₁.extBut _ _ c1 e))))
 have h1₅:=S1.keep _ _ _ h1₂ fun o e=>hs₅.extBut _ _ D.TOi1.symm (hs₄.extBut _ _ D.i12 (hs₃.extBut _ _ D.TOi1.symm e));have h2₅:=S2.keep _ _ _ h2₄ fun o e=>hs₅.extBut _ _ D.TOi2.symm e;have hzlt:=Ba hz₅;refine Ab ?_;have hz₆:IsZip (h₅.push { cls:=.type "tuple",data:=.seq #[u,v] }) z TI TO .ellipsis:=Ak _ hz₅;refine Ab (Cp hz₆ (by simp) fun h₇ hz₇ hs₇=>?_);refine Cp hz₇ (by simp) fun h₈ hz₈ hs₈=>?_;have up:∀c o,c≠z->h₅.get? c=some o->h₈.get? c=some o:=fun c o c1 e=>hs₈.extBut _ _ c1 (hs₇.extBut _ _ c1 (Ak _ e));have hT₈:=hs₈.extBut _ _ (Gw hzlt) (hs₇.extBut _ _ (Gw hzlt) (Bc _ rfl));have hz8:h₈.objs.size=h₅.objs.size+1:=by rw[hs₈.1,hs₇.1,Er]
 rw[hsz] at hz₈ hT₈ hz8;refine An ⟨_,rfl,?_⟩;rw[hsz];exact hQ u v x y h₈ tk₄ rx ry yx yy hz₈ (up _ _ D.TOz hTO₅) (S1.keep _ _ _ h1₅ fun o e=>up _ o D.i1z e) (S2.keep _ _ _ h2₅ fun o e=>up _ o D.i2z e) hT₈ hz8 fun c o c1 c2 c3 c4 e=>up c o c1 (hk₅ c o c1 c2 c3 c4 e)
theorem z7v(D:ZipA z TI TO i1 i2)(S1:Srce prog w K J1 i1 t1)(S2:Srce prog w K J2 i2 t2)(hh:A.handled=none)(vw:Vw K H s.heap)(nH:∀b∈[z,TI,TO,i1,i2],H b=none)(nK:∀b∈[z,TI,TO,i1,i2],K.lookup b=none)(hz:IsZip s.heap z TI TO .none)(hTI:Hq s.heap TI (.ref i1) (.ref i2))(hTO:Hq s.heap TO a b)(h1:t1 i s.heap)(h2:t2 i s.heap)(hend:J1.stop i H\/(J1.go i H/\J2.stop i H))(hE:∀h' e tk,(∀c o,c≠z->c≠TO->c≠i1->c≠i2->s.heap.get? c=some o->h'.get? c=some o)->(∃o,h'.get? e=some o/\o.cls=.type "StopIteration")->E (.ref e) { s with heap:=h',toks:=tk }):
  wpAny (model prog w) A (Ee.«zip.__next__» ⟨[.ref z],[]⟩) Q E s:=by
 show wpAny _ _ (field (.ref z) 2 >>= _) _ _ _;refine Ab (Ci hz rfl rfl ?_);refine Ab (Ci hz rfl rfl ?_);refine Ab (Es hTI rfl ?_);refine Ab ?_;refine Ab (Ci hz rfl rfl (An ?_));refine Ab (Il ?_);refine Ab (Ci hz rfl rfl ?_);refine Ab (Cp hz (by simp) fun h₁ hz₁ hs₁=>?_);have vw₁:=vw.but (nH z (by simp)) (nK z (by simp)) fun c o hc e=>hs₁.extBut _ _ hc e;refine Ab ?_;refine Ab (Ab (Ju ?_));rcases hend with st|⟨g1,st⟩
 ·refine Ab (S1.done _ i _ H _ _ hh vw₁ (nH i1 (by simp)) (nK i1 (by simp)) (S1.keep _ _ _ h1 fun o e=>hs₁.extBut _ _ D.i1z e) st fun h₂ e hs₂ he=>?_);obtain⟨oe,hoe,hce⟩:=he;have hz₂:=hs₂ _ _ D.i1z.symm hz₁;have hez:e≠z:=fun x=>by subst x;rw[hz₂] at hoe;cases hoe;simp at hce
  refine Cp hz₂ (by simp) fun h₃ _ hs₃=>hE h₃ e _ (fun c o c1 _ c3 _ x=>hs₃.extBut _ _ c1 (hs₂ _ _ c3 (hs₁.extBut _ _ c1 x))) ⟨oe,hs₃.extBut _ _ hez hoe,hce⟩
 ·refine Ab (S1.item _ i _ H _ _ hh vw₁ (nH i1 (by simp)) (nK i1 (by simp)) (S1.keep _ _ _ h1 fun o e=>hs₁.extBut _ _ D.i1z e) g1 fun u x h₂ tk₂ rx yx h1₂ hs₂=>An ?_);have hTO₂:=hs₂.extBut _ _ D.TOi1 (hs₁.extBut _ _ D.TOz hTO);refine Ab (Es hTO₂ rfl ?_);refine Ab (Im hTO₂ fun h₃ hTO₃ hs₃=>?_);have vw₃:=(vw₁.but (nH i1 (by simp)) (nK i1 (by simp)) fun c o hc e=>hs₂.extBut _ _ hc e).but (nH TO (by simp)) (nK TO (by simp)) fun c o hc e=>hs₃.extBut _ _ hc e;refine Ab (Jh (An ?_));refine Ab (Ab (Ju ?_));refine Ab (S2.done _ i _ H _ _ hh vw₃ (nH i2 (by simp)) (nK i2 (by simp)) (S2.keep _ _ _ h2 fun o e=>hs₃.extBut _ _ D.TOi2.symm (hs₂.extBut _ _ D.i12.symm (hs₁.extBut _ _ D.i2z e))) st fun h₄ e hs₄ he=>?_);obtain⟨oe,hoe,hce⟩:=he;have hz₄:=hs₄ _ _ D.i2z.symm (hs₃.extBut _ _ D.TOz.symm (hs₂.extBut _ _ D.i1z.symm hz₁));have hez:e≠z:=fun x=>by subst x;rw[hz₄] at hoe;cases hoe;simp at hce
  refine Cp hz₄ (by simp) fun h₅ _ hs₅=>hE h₅ e _ (fun c o c1 c2 c3 c4 x=>hs₅.extBut _ _ c1 (hs₄ _ _ c4 (hs₃.extBut _ _ c2 (hs₂.extBut _ _ c3 (hs₁.extBut _ _ c1 x))))) ⟨oe,hs₅.extBut _ _ hez hoe,hce⟩
end
def Itz(J1 J2:It):It:=⟨fun i H=>J1.go i H/\J2.go i H,fun i H x H'=>∃T x1 x2,H T=none/\J1.yld i H x1 H/\J2.yld i H x2 H/\x=.ref T/\H'=upd H T (.tup [x1,x2]),fun i H=>J1.stop i H\/(J1.go i H/\J2.stop i H)⟩
def tnZip(z TI TO i1 i2:Addr)(t1 t2:Nat->Heap->Prop)(i:Nat)(h:Heap):Prop:=IsZip h z TI TO .none/\Hq h TI (.ref i1) (.ref i2)/\(∃a b,Hq h TO a b)/\t1 i h/\t2 i h
theorem z7w{K:Ae}{TI TO:Addr}(D:ZipA z TI TO i1 i2)(S1:Srce P w K J1 i1 t1)(S2:Srce P w K J2 i2 t2):
  Turn P w K (.Tuple elts kk pos) (Itz J1 J2) [z,TI,TO,i1,i2] z (tnZip z TI TO i1 i2 t1 t2) where
 mem:=by simp
 obj:=fun i h st b hb=>by
  obtain⟨hz,hTI,⟨a,c,hTO⟩,h1,h2⟩:=st;simp only[Am,Bl,or_false] at hb;rcases hb with rfl|rfl|rfl|rfl|rfl
  ·simp_all
  ·grind
  ·grind
  ·exact S1.obj i h h1
  ·exact S2.obj i h h2
 keep:=fun i h h' st k=>by
  obtain⟨hz,hTI,⟨a,c,hTO⟩,h1,h2⟩:=st;exact⟨k z (by simp) _ hz,k TI (by simp) _ hTI,⟨a,c,k TO (by simp) _ hTO⟩,S1.keep _ _ _ h1 fun o e=>k i1 (by simp) o e,S2.keep _ _ _ h2 fun o e=>k i2 (by simp) o e⟩
 item:=by
  intro X hP hw hK hc i pins s σ H E I hf st hg;subst hP hw hK;obtain⟨hz,hTI,⟨a,c,hTO⟩,h1,h2⟩:=st;have hT:s.TypeIs (.ref z) "zip" := ⟨_,hz,rfl⟩
  refine Ab (Gi (Cu hT Io
   (Dk Io hT Ob
    (z5c D S1 S2 (I.ok.hd hc) I.vw (fun b hb=>(hf b hb).1) (fun b hb=>(hf b hb).noK I) hz hTI hTO h1 h2 hg.1 hg.2 fun u v x y h' tk rx ry yx yy a1 a2 a3 a4 a5 a6 a7=>An ?_) (Nq _))))
  refine⟨_,rfl,?_⟩;refine wpAny_letOwnedTupleGo_zip a1 fun h2' hz2 hs2=>?_;have k2:∀c o,c∉[z,TI,TO,i1,i2]->s.heap.get? c=some o->h2'.get? c=some o:=fun c o hcn e=>by
   simp only[Am,Bl,or_false,not_or] at hcn;exact hs2.extBut _ _ hcn.1 (a7 c o hcn.1 hcn.2.2.1 hcn.2.2.2.1 hcn.2.2.2.2 e)
  have zlt:=Ba hz;have I1:Inv X pins σ H { s with heap:=h2',toks:=tk }:=I.turnedL k2 hf;have FT:=I.fpOk (Af _) I.fresh;have hT2:=hs2.extBut _ _ (Gw zlt) a5;have I2:Inv X pins σ (upd H s.heap.objs.size (.tup [x,y])) { s with heap:=h2',toks:=tk } :=
   I1.track I.sz FT ⟨by show 2<=sizeLine;decide,[u,v],.cons rx (.cons ry .nil),⟨_,hT2,rfl,_,rfl⟩⟩
  refine⟨.ref s.heap.objs.size,_,I2,rfl,⟨_,x,y,I.fresh,yx,yy,rfl,rfl⟩,⟨hz2,?_,⟨_,_,hs2.extBut _ _ D.TOz a2⟩,S1.keep _ _ _ a3 fun o e=>hs2.extBut _ _ D.i1z e,S2.keep _ _ _ a4 fun o e=>hs2.extBut _ _ D.i2z e⟩,fun b hb=>?_⟩
  ·exact hs2.extBut _ _ D.TIz (a7 _ _ D.TIz D.TITO D.TIi1 D.TIi2 hTI)
  ·have hb2:=(hf b hb).1;rw[q0m]
   ·exact hb2
   ·have:∃o,s.heap.get? b=some o:=by
     simp only[Am,Bl,or_false] at hb;rcases hb with rfl|rfl|rfl|rfl|rfl
     ·exact⟨_,hz⟩
     ·grind
     ·grind
     ·obtain⟨o,e,_⟩:=S1.obj _ _ h1;exact⟨o,e⟩
     ·obtain⟨o,e,_⟩:=S2.obj _ _ h2;exact⟨o,e⟩
    obtain⟨o,e⟩:=this;exact Ce (Ba e)
 done:=by
  intro X hP hw hK hc i pins s σ H E I hf st hg;subst hP hw hK;obtain⟨hz,hTI,⟨a,c,hTO⟩,h1,h2⟩:=st;have hT:s.TypeIs (.ref z) "zip" := ⟨_,hz,rfl⟩
  refine Ab (Gi (Cu hT Io
   (Dk Io hT Ob
    (z7v D S1 S2 (I.ok.hd hc) I.vw (fun b hb=>(hf b hb).1) (fun b hb=>(hf b hb).noK I) hz hTI hTO h1 h2 hg fun h' e tk hk he=>?_) (Nq _))))
  obtain⟨o,ho,hcl⟩:=he;refine Ab (Km ⟨o,ho,hcl⟩ Lr ?_);refine An ⟨rfl,I.turnedL (fun c o hcn e=>?_) hf⟩;simp only[Am,Bl,or_false,not_or] at hcn;exact hk c o hcn.1 hcn.2.2.1 hcn.2.2.2.1 hcn.2.2.2.2 e
 self:=fun _ _ _ _ _ st h=>wpAny_pyIter_zip st.1 h
open PySem PySem.Spec PyProof.Rows
abbrev zs1(h:Heap)(x:Str)(t:Tok):Heap:=h.push { cls:=.type (Ep x),data:=.fields #[.str x t,.int 0 0] }
abbrev zs2(h:Heap)(x y:Str)(t u:Tok):Heap:=(zs1 h x t).push { cls:=.type (Ep y),data:=.fields #[.str y u,.int 0 0] }
abbrev zs3(h:Heap)(x y:Str)(t u:Tok):Heap:=(zs2 h x y t u).push { cls:=.type "tuple",data:=.seq #[.ref h.objs.size,.ref (zs1 h x t).objs.size] }
abbrev zs4(h:Heap)(x y:Str)(t u:Tok):Heap:=(zs3 h x y t u).push { cls:=.type "tuple",data:=.seq #[.none,.none] }
abbrev zs5(h:Heap)(x y:Str)(t u:Tok):Heap:=(zs4 h x y t u).push { cls:=.type "zip",data:=.fields #[.none,.bool false,.bool false,.ref (zs2 h x y t u).objs.size,.ref (zs3 h x y t u).objs.size] }
set_option maxHeartbeats 4000000 in
theorem z0v(x y:Str)(t u:Tok):
  Meets (Ee.«zip.__new__» ⟨[.type "zip",.str x t,.str y u],[]⟩) (fun _ R s=>R (.ok (.ret (.ref (zs4 s.heap x y t u).objs.size))) { s with heap:=zs5 s.heap x y t u }) :=
 .of_wp fun prog w A R s h=>by
  obtain⟨hp,g,d,tk,os⟩:=s;have hsub:=sub_zip;have i1:∀{A:Around} {E:Value->Ag->Prop} {Q:Value->Ag->Prop},Q (.ref hp.objs.size) ⟨zs1 hp x t,g,d,tk,os⟩->wpAny (model prog w) A (Hn (.str x t)) Q E ⟨hp,g,d,tk,os⟩:=fun q=>Nr q
  have i2:∀{A:Around} {E:Value->Ag->Prop} {Q:Value->Ag->Prop},Q (.ref (zs1 hp x t).objs.size) ⟨zs2 hp x y t u,g,d,tk,os⟩->wpAny (model prog w) A (Hn (.str y u)) Q E ⟨zs1 hp x t,g,d,tk,os⟩:=fun q=>Nr q
  wp_walk using i1,i2
  exact⟨_,rfl,h⟩
theorem z5d(n:Nat):ZipA (n+4) (n+2) (n+3) n (n+1):=by
 constructor<;>(show(_:Nat)≠_;lia)
section
variable{X:Cx}{elts:List Expr}{kk:Nat}{tpos:Pos}
theorem z2c{σ:St}(I:Inv X pins σ H s)(S1:Srce X.prog X.w X.K J1 s.heap.objs.size t1)(S2:Srce X.prog X.w X.K J2 (s.heap.objs.size+1) t2)(hz:IsZip h' (s.heap.objs.size+4) (s.heap.objs.size+2) (s.heap.objs.size+3) .none)(hTI:Hq h' (s.heap.objs.size+2) (.ref s.heap.objs.size) (.ref (s.heap.objs.size+1)))(hTO:Hq h' (s.heap.objs.size+3) .none .none)(h1:t1 0 h')(h2:t2 0 h')(hk:∀c o,s.heap.get? c=some o->h'.get? c=some o)(q:R (Itz J1 J2) H):
  wpAny (model X.prog X.w) X.A (Hn (.ref (s.heap.objs.size+4))) (PIE X pins σ (.Tuple elts kk tpos) R) E { s with heap:=h' }:=by
 refine wpAny_pyIter_zip hz ?_;refine⟨_,_,_,_,H,rfl,I.kept (t':=s.toks) hk,z7w (z5d s.heap.objs.size) S1 S2,⟨hz,hTI,⟨_,_,hTO⟩,h1,h2⟩,fun b hb=>?_,q⟩;have hb':s.heap.objs.size<=b:=by grind
 exact I.fpOk hb' (I.hok.fresh hb')
def iZipS(ta:TA):TI:=fun σ H R=>ta σ H fun vs H1=>∃x y,vs=[.str x,.str y]/\R (Itz (Its x) (Its y)) H1
theorem x0z{p pos:Pos}(hg:Gl X "zip")(hm:X.mg "zip" = none)(ha:PA X [a,b] ta)(hs:Be [a,b] X.env=[(false,eval a X.env),(false,eval b X.env)]:=by rfl)(hs2:Be [b] X.env=[(false,eval b X.env)]:=by rfl):
  PI X (.Tuple elts kk tpos) (.Call (.Name "zip" p) [a,b] [] pos) (iZipS ta):=by
 intro pins s σ H R I h;refine Call_ (q4q I hg hm (by decide +kernel:Eg "zip" = some (.type "zip")) (Cr (thn (ha pos pins s σ H _ I h) fun us s1 ⟨vs,H1,I1,r1,q1⟩=>?_) (by rw[hs,hs2]) (by rw[hs2];rfl)));obtain⟨x,y,e,q⟩:=q1;subst e;obtain⟨u,v,rfl,⟨t,rfl⟩,⟨t',rfl⟩⟩:=r1.two;refine callType_new F.called_zip (by decide) (F.typeCall_zip_2 _ _) (F.newCall_zip_2 _ _) (fun obj=>F.args_object_init_3 obj _ _) F.entry_zip_new (z0v x y t t') ?_;have z1:(zs1 s1.heap x t).objs.size=s1.heap.objs.size+1:=Er ..;have z2:(zs2 s1.heap x y t t').objs.size=s1.heap.objs.size+2:=by simp_all
 have z3:(zs3 s1.heap x y t t').objs.size=s1.heap.objs.size+3:=by simp_all
 have z4:(zs4 s1.heap x y t t').objs.size=s1.heap.objs.size+4:=by simp_all
 have k1:∀c o,s1.heap.get? c=some o->(zs1 s1.heap x t).get? c=some o:=fun c o e=>Ak _ e;have k2:∀c o,(zs1 s1.heap x t).get? c=some o->(zs2 s1.heap x y t t').get? c=some o:=fun c o e=>Ak _ e;have k3:∀c o,(zs2 s1.heap x y t t').get? c=some o->(zs3 s1.heap x y t t').get? c=some o:=fun c o e=>Ak _ e;have k4:∀c o,(zs3 s1.heap x y t t').get? c=some o->(zs4 s1.heap x y t t').get? c=some o:=fun c o e=>Ak _ e;have k5:∀c o,(zs4 s1.heap x y t t').get? c=some o->(zs5 s1.heap x y t t').get? c=some o:=fun c o e=>Ak _ e;have g1:(zs1 s1.heap x t).get? s1.heap.objs.size=some { cls:=.type (Ep x),data:=.fields #[.str x t,.int 0 0] }:=Bc _ rfl;have g2:(zs2 s1.heap x y t t').get? (zs1 s1.heap x t).objs.size=some { cls:=.type (Ep y),data:=.fields #[.str y t',.int 0 0] }:=Bc _ rfl;have g3:(zs3 s1.heap x y t t').get? (zs2 s1.heap x y t t').objs.size=some { cls:=.type "tuple",data:=.seq #[.ref s1.heap.objs.size,.ref (zs1 s1.heap x t).objs.size] }:=Bc _ rfl;have g4:(zs4 s1.heap x y t t').get? (zs3 s1.heap x y t t').objs.size=some { cls:=.type "tuple",data:=.seq #[.none,.none] }:=Bc _ rfl;have g5:(zs5 s1.heap x y t t').get? (zs4 s1.heap x y t t').objs.size=some { cls:=.type "zip",data:=.fields #[.none,.bool false,.bool false,.ref (zs2 s1.heap x y t t').objs.size,.ref (zs3 s1.heap x y t t').objs.size] }:=Bc _ rfl;rw[z1] at g2;rw[z2,z1] at g3;rw[z3] at g4;rw[z4,z2,z3] at g5;rw[z4];exact⟨⟨_,g5,rfl⟩,z2c I1 (q7p _ x t) (q7p _ y t') g5 (k5 _ _ (k4 _ _ g3)) (k5 _ _ g4) ⟨_,k5 _ _ (k4 _ _ (k3 _ _ (k2 _ _ g1))),rfl,rfl⟩ ⟨_,k5 _ _ (k4 _ _ (k3 _ _ g2)),rfl,rfl⟩ (fun c o e=>k5 _ _ (k4 _ _ (k3 _ _ (k2 _ _ (k1 _ _ e))))) q⟩
def iZipL(K:Ae)(ta:TA):TI:=fun σ H R=>ta σ H fun vs H1=>∃a b xs ys,vs=[.ref a,.ref b]/\SqL K H1 a xs/\SqL K H1 b ys/\R (Itz (Itl K a) (Itl K b)) H1
theorem x1a{p pos:Pos}(hg:Gl X "zip")(hm:X.mg "zip" = none)(ha:PA X [a,b] ta)(hs:Be [a,b] X.env=[(false,eval a X.env),(false,eval b X.env)]:=by rfl)(hs2:Be [b] X.env=[(false,eval b X.env)]:=by rfl):
  PI X (.Tuple elts kk tpos) (.Call (.Name "zip" p) [a,b] [] pos) (iZipL X.K ta):=by
 intro pins s σ H R I h;refine Call_ (q4q I hg hm (by decide +kernel:Eg "zip" = some (.type "zip")) (Cr (thn (ha pos pins s σ H _ I h) fun us s1 ⟨vs,H1,I1,r1,q1⟩=>?_) (by rw[hs,hs2]) (by rw[hs2];rfl)));obtain⟨l1,l2,xs,ys,e,hx,hy,q⟩:=q1;subst e;obtain⟨u,v,rfl,r1,r2⟩:=r1.two;cases r1;cases r2;obtain⟨its,rv,pl,_⟩:=I1.list hx;obtain⟨its2,rv2,pl2,_⟩:=I1.list hy;exact call_zip_2 pl.isList pl2.isList fun h' a1 a2 a3 a4 a5 a6 a7=>z2c I1 (q5p l1 _) (q5p l2 _) a1 a2 a3 a4 a5 a7 q
theorem z5e{J:It}{g:TG}{tb:TS}{D:Ends}(Pv:Nat->St->Hp->Prop)(h0:Pv 0 σ H)(hgo:∀i σ H,i<n->Pv i σ H->J.go i H)(hstop:∀σ H,Pv n σ H->J.stop n H)(hs:∀i x σ H H',i<n->Pv i σ H->J.yld i H x H'->g x σ H' fun σ2 H2=>tb { D with nx:=Pv (i+1),ct:=Pv (i+1),bk:=D.nx } σ2 H2)(hd:∀σ H,Pv n σ H->D.nx σ H):
  ∃W:Nat->Nat->St->Hp->Prop,(∃m,W 0 m σ H)/\∀i m σ H,W i m σ H ->
   (J.stop i H/\D.nx σ H)\/(J.go i H/\∃N:St->Hp->Prop,(∀σ' H',N σ' H'->∃m',m'<m/\W (i+1) m' σ' H')/\∀x H',J.yld i H x H'->g x σ H' fun σ2 H2=>tb { D with nx:=N,ct:=N,bk:=D.nx } σ2 H2):=by
 refine⟨fun i m σ H=>m=n-i/\i<=n/\Pv i σ H,⟨n,by simp,Au _,h0⟩,?_⟩;rintro i m σ H ⟨rfl,hi,p⟩;by_cases hlt:i<n
 ·exact .inr ⟨hgo i σ H hlt p,Pv (i+1),fun σ' H' p'=>⟨n-(i+1),by lia,rfl,hlt,p'⟩,fun x H' y=>hs i x σ H H' hlt p y⟩
 ·grind
theorem z7x{K:Ih}{g:TG}{tb:TS}{D:Ends}(Pv:Nat->St->Hp->Prop)(h0:Pv 0 σ H)(hl:∀i σ H,Pv i σ H->SqL K H a xs/\SqL K H b ys)(hs:∀i x y T σ H,xs[i]?=some x->ys[i]?=some y->Pv i σ H->H T=none->g (.ref T) σ (upd H T (.tup [x,y])) fun σ2 H2=>tb { D with nx:=Pv (i+1),ct:=Pv (i+1),bk:=D.nx } σ2 H2)(hd:∀σ H,Pv (min xs.length ys.length) σ H->D.nx σ H):
  ∃W:Nat->Nat->St->Hp->Prop,(∃m,W 0 m σ H)/\∀i m σ H,W i m σ H ->
   ((Itz (Itl K a) (Itl K b)).stop i H/\D.nx σ H)\/((Itz (Itl K a) (Itl K b)).go i H/\∃N:St->Hp->Prop,(∀σ' H',N σ' H'->∃m',m'<m/\W (i+1) m' σ' H')/\∀v H',(Itz (Itl K a) (Itl K b)).yld i H v H'->g v σ H' fun σ2 H2=>tb { D with nx:=N,ct:=N,bk:=D.nx } σ2 H2):=by
 refine z5e Pv h0 (fun i σ H h p=>⟨?_,?_⟩) (fun σ H p=>?_) (fun i v σ H H' h p yl=>?_) hd
 ·exact⟨xs,xs[i]'(by lia),(hl i σ H p).1,by simp⟩
 ·exact⟨ys,ys[i]'(by lia),(hl i σ H p).2,by simp⟩
 ·by_cases hxy:xs.length<=ys.length
  ·exact .inl ⟨xs,(hl _ σ H p).1,by lia⟩
  ·exact .inr ⟨⟨xs,xs[min xs.length ys.length]'(by lia),(hl _ σ H p).1,by simp⟩,ys,(hl _ σ H p).2,by lia⟩
 ·obtain⟨T,x1,x2,hT,⟨_,y1⟩,⟨_,y2⟩,rfl,rfl⟩:=yl;exact hs i x1 x2 T σ H (y1 xs (hl i σ H p).1) (y2 ys (hl i σ H p).2) p hT
end
open PySem PySem.Spec PyProof.Rows
structure Cal (P:Program) (w:World) (K:Ae) (mg:Str->Option Value) (base:Heap) (x:Str) (k:Nat) (ps:List Str) (sp:Sp):Prop where
 ex:∃f fd,FnOk P w K mg base CX0 k f fd ps sp/\mg x=some (.ref f)/\Jd K (.ref f)=true/\Binds K fd ps []
structure Df (K:Ae) (mg:Str->Option Value) (x:Str) (st:Stmt) (ps:List Str):Prop where
 ex:∃f fd,Fun K x x st f fd/\mg x=some (.ref f)/\Binds K fd ps []
theorem Df.cal{K:Ae}{st:Stmt}(D:Df K mg x st ps)(S:FnScope N ps (defScope st))(len:∀vs H Q E,sp vs H Q E->vs.length=ps.length)(hbody:∀(f:Addr) (cdv:Value) (A:Around) (outer:List Env) (s:Ag) (H:Hp) (vs:List V) (Q:VK) (E:XK),Room k (A.deeper (Ii x (defScope st) s.heap.objs.size f cdv))->sp vs H Q E ->
   ∃t,PSs (cxOf CX0 P w K mg base N x (defScope st) f cdv A outer s H E).nox (defBody st) t/\t { nx:=fun _ H'=>Q .non H',rt:=Q } (start N vs) H):Cal P w K mg base x (k+1) ps sp:=by
 obtain⟨f,fd,F,hm,hb⟩:=D.ex;exact⟨f,fd,F.ok S len fun cdv A outer s H vs Q E hr h=>hbody f cdv A outer s H vs Q E hr h,hm,F.kp,hb⟩
theorem Cal.imp{K:Ae}(C:Cal P w K mg base x k ps sp)(h:∀vs H Q E,sp' vs H Q E->sp vs H Q E):Cal P w K mg base x k ps sp':=by
 obtain⟨f,fd,F,r⟩:=C.ex;exact⟨f,fd,F.imp h,r⟩
section
variable{X:Cx}{x:Str}{k j:Nat}{ps:List Str}{sp:Sp}{p pos:Pos}{e:Expr}{es:List Expr}{t:TA}
theorem pe_c(C:Cal X.prog X.w X.K X.mg X.base x k ps sp)(hr:Room j X.A)(ha:PA X (e::es) t)(hjk:k<=j:=by decide)(hg:Gl X x:=by rfl)(hdb:(x==("__debug__" : Str))=false:=by decide)(he:Be (e::es) X.env=(false,eval e X.env)::Be es X.env:=by rfl)(hpl:(Fc pos (Be es X.env)).any (·.1)=false:=by rfl):
  PE X (.Call (.Name x p) (e::es) [] pos) (tCall sp [] E0 t):=by
 obtain⟨f,fd,F,hm,hk,hb⟩:=C.ex;exact x0v F (hr.mono hjk) hg hm hk hb .nil pass0 ha hdb he hpl
theorem pe_c0(C:Cal X.prog X.w X.K X.mg X.base x k ps sp)(hr:Room j X.A)(hjk:k<=j:=by decide)(hg:Gl X x:=by rfl)(hdb:(x==("__debug__" : Str))=false:=by decide):
  PE X (.Call (.Name x p) [] [] pos) (tCall sp [] E0 tNil):=by
 obtain⟨f,fd,F,hm,hk,hb⟩:=C.ex;exact z7q F (hr.mono hjk) hg hm hk hb .nil pass0 hdb
end
theorem PI.or(h1:PI X tg l w1)(h2:PI X tg l w2):PI X tg l (fun σ H R=>w1 σ H R\/w2 σ H R):=by
 intro pins s σ H R I h;rcases h with h|h
 ·exact h1 pins s σ H R I h
 ·exact h2 pins s σ H R I h
structure FeedAt (H:Hp) (a b:Addr):Prop where
 fa:∃i j:Int,H a=some (.lst [.ref b,.int i,.int j])
 fb:∃ns:List Int,H b=some (.lst (ns.map V.int))
structure Fd (a b:Addr) (H H':Hp):Prop where
 feed:FeedAt H' a b
 keep:∀c o,H c=some o->c≠a->H' c=some o
theorem FeedAt.ne(F:FeedAt H a b):b≠a:=by
 obtain⟨⟨i,j,h⟩,ns,h'⟩:=F;refine z7k h' h ?_;intro z;cases ns with
 |nil=>cases z
 |cons n r=>simp at z
theorem Fd.refl(F:FeedAt H a b):Fd a b H H:=⟨F,fun _ _ h _=>h⟩
theorem Fd.trans(x:Fd a b H H1)(y:Fd a b H1 H2):Fd a b H H2:=⟨y.feed,fun c o h hc=>y.keep c o (x.keep c o h hc) hc⟩
theorem Fd.free(x:Fd a b H H')(h:H' p=none):H p=none:=by
 cases e:H p with
 |none=>rfl
 |some o =>
  by_cases hp:p=a
  ·subst hp;obtain⟨i,j,q⟩:=x.feed.fa;rw[h] at q;cases q
  ·rw[x.keep p o e hp] at h;cases h
theorem FeedAt.upd(F:FeedAt H a b)(ha:a≠p)(hb:b≠p):FeedAt (upd H p o) a b :=
 ⟨let ⟨i,j,h⟩:=F.fa;⟨i,j,by rw[q0m ha];exact h⟩,let ⟨ns,h⟩:=F.fb;⟨ns,by rw[q0m hb];exact h⟩⟩
theorem FeedAt.na(F:FeedAt H a b)(h:H p=none):a≠p:=by obtain⟨i,j,q⟩:=F.fa;exact q0r q h
theorem FeedAt.nb(F:FeedAt H a b)(h:H p=none):b≠p:=by obtain⟨ns,q⟩:=F.fb;exact q0r q h
theorem Fd.put(x:Fd a b H H')(F:FeedAt H a b)(h:H p=none):Fd a b H (upd H' p o) :=
 ⟨x.feed.upd (F.na h) (F.nb h),fun c u e hc=>by rw[q0m (q0r e h)];exact x.keep c u e hc⟩
theorem Fd.new(x:Fd a b H H')(h:H' p=none):Fd a b H (upd H' p o) :=
 ⟨x.feed.upd (x.feed.na h) (x.feed.nb h),fun c u e hc=>by rw[q0m (q0r (x.keep c u e hc) h)];exact x.keep c u e hc⟩
theorem Fd.at(x:Fd a b H H')(h:H c=some o)(hc:c≠a):H' c=some o:=x.keep c o h hc
theorem Fd.same(x:Fd a b H H')(s:Same H' H2):Fd a b H H2 :=
 ⟨⟨let ⟨i,j,h⟩:=x.feed.fa;⟨i,j,s _ _ h⟩,let ⟨ns,h⟩:=x.feed.fb;⟨ns,s _ _ h⟩⟩,fun c o e hc=>s _ _ (x.keep c o e hc)⟩
theorem Same.new(s:Same H H')(h:H' p=none):Same H (upd H' p o):=fun c u e=>by rw[q0m (q0r (s c u e) h)];exact s c u e
theorem Same.put(s:Same H H')(h:H p=none):Same H (upd H' p o):=fun c u e=>by rw[q0m (q0r e h)];exact s c u e
def spDraw:Sp:=fun vs H Q _=>∃a b m,vs=[.ref a,.int m]/\FeedAt H a b/\0<m/\m<1073741824/\∀(r:Int) H',0<=r->r<m->Fd a b H H'->Q (.int r) H'
def spConst(x:Str):Sp:=fun vs H Q _=>vs=[]/\Q (.str x) H
theorem x1b{xs:List α}(i:Int)(h:xs≠[]):∃x,x∈xs/\atI xs (i%(xs.length:Int))=some x:=by
 have hl:0<(xs.length:Int):=by
  cases xs with
  |nil=>exact absurd rfl h
  |cons a r=>grind
 have h0:=Ip i (show(xs.length:Int)≠0 by lia);have h1:=Hd i hl;have hn:(i%(xs.length:Int)).toNat<xs.length:=by lia
 unfold atI ixN;rw[if_pos h0,if_pos h1];simp[hn]
theorem z2d{xs:List α}(h0:0<=i)(h1:i<(xs.length:Int)):∃x,xs[i.toNat]?=some x/\atI xs i=some x:=by
 have hn:i.toNat<xs.length:=by lia
 unfold atI ixN;rw[if_pos h0,if_pos h1];simp[hn]
open PySem PySem.Spec PyProof.Rows
mutual
inductive Dt (K : Ae) (H : Hp) : V → PyData → Prop
  | non : Dt K H .non .none
  | bl (b : Bool) : Dt K H (.bl b) (.bool b)
  | int (i : Int) : Dt K H (.int i) (.int i)
  | str (x : Str) : Dt K H (.str x) (.str x)
  | lst {a : Addr} {xs : List V} {ds : List PyData} : SqL K H a xs → Dts K H xs ds → Dt K H (.ref a) (.list ds)
  | tup {a : Addr} {xs : List V} {ds : List PyData} : SqT K H a xs → Dts K H xs ds → Dt K H (.ref a) (.tuple ds)
inductive Dts (K : Ae) (H : Hp) : List V → List PyData → Prop
  | nil : Dts K H [] []
  | cons {x : V} {xs : List V} {d : PyData} {ds : List PyData} : Dt K H x d → Dts K H xs ds → Dts K H (x :: xs) (d :: ds)
end
section
variable{X:Cx}{pins:List (Addr×Obj)}{σ:St}{H:Hp}{s:Ag}
mutual
theorem Dt.reads (I : Inv X pins σ H s) : ∀ {x : V} {d : PyData} {u : Value}, Dt X.K H x d → RelV x u → ∃ as, Reads s.heap u d as
  | _, _, _, .non, r => by cases r; exact ⟨_, .none⟩
  | _, _, _, .bl b, r => by cases r; exact ⟨_, .bool b⟩
  | _, _, _, .int i, r => by obtain ⟨t, rfl⟩ := r; exact ⟨_, .int i t⟩
  | _, _, _, .str x, r => by obtain ⟨t, rfl⟩ := r; exact ⟨_, .str x t⟩
  | _, _, _, .lst q ds, r => by
    cases r
    obtain ⟨its, rv, ⟨o, n, e, c, _, d⟩, _⟩ := I.list q
    obtain ⟨as, h⟩ := Dts.reads I ds rv
    exact ⟨_, .list e c d (by simpa using h)⟩
  | _, _, _, .tup q ds, r => by
    cases r
    obtain ⟨its, rv, ⟨o, e, c, n, d⟩, _⟩ := I.tuple q
    obtain ⟨as, h⟩ := Dts.reads I ds rv
    exact ⟨_, .tuple e c d (by simpa using h)⟩
theorem Dts.reads (I : Inv X pins σ H s) : ∀ {xs : List V} {ds : List PyData} {us : List Value}, Dts X.K H xs ds → Vals xs us → ∃ as, ReadsAll s.heap us ds as
  | _, _, _, .nil, .nil => ⟨_, .nil⟩
  | _, _, _, .cons d ds, .cons r rs => by
    obtain ⟨as, h⟩ := Dt.reads I d r
    obtain ⟨bs, h'⟩ := Dts.reads I ds rs
    exact ⟨_, .cons h h'⟩
end
end
section
variable{X:Cx}{k:Nat}
def rEqD(K:Ae):R2:=fun x y H Q=>∃d e,Dt K H x d/\Dt K H y e/\d.canLay0=true/\e.canLay0=true/\min d.depth e.depth<=100/\Q (.bl (De d e)) H
def rNeD(K:Ae):R2:=fun x y H Q=>∃d e,Dt K H x d/\Dt K H y e/\d.canLay0=true/\e.canLay0=true/\min d.depth e.depth<=100/\Q (.bl (!PyData.eqv d e)) H
theorem op_eqD(hr:Room k X.A):OpR X (Ck .Eq) (rEqD X.K):=by
 intro pins s σ H x y v u Q I rx ry h;obtain⟨d,e,hd,he,cd,ce,hm,q⟩:=h;obtain⟨as,r1⟩:=hd.reads I rx;obtain⟨bs,r2⟩:=he.reads I ry;have hu:=hr.un;exact SeqAt.rcAt_reads r1 r2 cd ce (by lia) X.prog X.w X.xe _ ⟨.bl _,H,I,rfl,q⟩
theorem op_neD(hr:Room k X.A):OpR X (Ck .NotEq) (rNeD X.K):=by
 intro pins s σ H x y v u Q I rx ry h;obtain⟨d,e,hd,he,cd,ce,hm,q⟩:=h;obtain⟨as,r1⟩:=hd.reads I rx;obtain⟨bs,r2⟩:=he.reads I ry;have hu:=hr.un;exact SeqAt.rcNeAt_reads r1 r2 cd ce (by lia) X.prog X.w X.xe _ ⟨.bl _,H,I,rfl,q⟩
def rAddU:R2:=fun x y H Q=>(∃i j,x=.int i/\y=.int j/\Q (.int (i+j)) H)\/(∃i j,x=.str i/\y=.str j/\i.length+j.length<=sizeLine/\Q (.str (i++j)) H)\/rCat x y H Q
theorem q0n:OpR X (Ek .Add) rAddU:=op_add.or (op_add_str.or op_cat)
def rMulU:R2:=fun x y H Q=>(∃i j,x=.int i/\y=.int j/\CMul i j/\Q (.int (i*j)) H)\/rMulS x y H Q\/rRep x y H Q
theorem q5q:OpR X (Ek .Mult) rMulU:=op_mul.or (op_mulS.or op_rep)
def rEqU(K:Ae):R2:=fun x y H Q=>rEq x y H Q\/rEqD K x y H Q
theorem op_eqU(hr:Room k X.A):OpR X (Ck .Eq) (rEqU X.K):=op_eq.or (op_eqD hr)
def rNeU(K:Ae):R2:=fun x y H Q=>rNe x y H Q\/rNeD K x y H Q
theorem op_neU(hr:Room k X.A):OpR X (Ck .NotEq) (rNeU X.K):=op_ne.or (op_neD hr)
def rInU(K:Ae):R2:=fun x y H Q=>(∃i j,x=.str i/\y=.str j/\Q (.bl (!(Dc j i 0 j.length 1).isEmpty)) H)\/rIn K false x y H Q
theorem op_inU:OpR X (Ck .In) (rInU X.K):=op_in_str.or z4v
def rNinU(K:Ae):R2:=fun x y H Q=>(∃i j,x=.str i/\y=.str j/\Q (.bl (!(!(Dc j i 0 j.length 1).isEmpty))) H)\/rIn K true x y H Q
theorem x1c:OpR X (Ck .NotIn) (rNinU X.K):=op_notIn_str.or q9k
def rSlU(K:Ae):V->Option Int->Option Int->Hp->VK->Prop:=fun x lo hi H Q=>rSlS x lo hi H Q\/rSlL K x lo hi H Q\/rSlT K x lo hi H Q
theorem sl_U:SlR X (rSlU X.K):=sl_str.or (sl_list.or sl_tup)
def iAny(K:Ae)(tl:TE):TI:=fun σ H R=>tl σ H fun x H1=>(∃a,x=.ref a/\(∃xs,SqL K H1 a xs)/\R (Itl K a) H1)\/(∃a,x=.ref a/\(∃xs,SqT K H1 a xs)/\R (Itt K a) H1)\/∃z,x=.str z/\R (Its z) H1
theorem pi_any(hl:PE X l tl):PI X tg l (iAny X.K tl):=by
 intro pins s σ H R I h;refine thn (hl pins s σ H _ I h) fun v s1 ⟨x,H1,I1,r1,q1⟩=>?_;have fp:∀b∈[s1.heap.objs.size],FpOk X pins H1 b:=fun b hb=>by
  have e:b=s1.heap.objs.size:=by grind
  subst e;exact I1.fpOk (Af _) (I1.hok.fresh (Af _))
 rcases q1 with⟨a,e,⟨xs,hq⟩,q⟩|⟨a,e,⟨xs,hq⟩,q⟩|⟨z,e,q⟩
 ·subst e;cases r1;obtain⟨its,rv,p,hz⟩:=I1.list hq;exact Jv p.isList ⟨s1.heap.objs.size,[s1.heap.objs.size],_,_,H1,rfl,I1.kept (t':=s1.toks) fun b o e=>Ak _ e,q9d a _,⟨_,Bc _ rfl,rfl,rfl⟩,fp,q⟩
 ·subst e;cases r1;obtain⟨its,rv,p,hz⟩:=I1.tuple hq;exact wpAny_pyIter_tuple (show s1.heap.IsTuple a its.toArray from p) ⟨s1.heap.objs.size,[s1.heap.objs.size],_,_,H1,rfl,I1.kept (t':=s1.toks) fun b o e=>Ak _ e,z3g a _,⟨_,Bc _ rfl,rfl,rfl⟩,fp,q⟩
 ·subst e;obtain⟨t,rfl⟩:=r1;cases ha:z.cps.all (· < 128)
  ·exact wpAny_pyIter_wide ha ⟨s1.heap.objs.size,[s1.heap.objs.size],_,_,H1,rfl,I1.kept (t':=s1.toks) fun b o e=>Ak _ e,z5b _ z t,⟨Au _,_,Bc _ rfl,rfl,rfl⟩,fp,q⟩
  ·exact wpAny_pyIter_ascii ha ⟨s1.heap.objs.size,[s1.heap.objs.size],_,_,H1,rfl,I1.kept (t':=s1.toks) fun b o e=>Ak _ e,z5a _ z t,⟨Au _,_,Bc _ rfl,rfl,rfl⟩,fp,q⟩
def iZip(K:Ae)(ta:TA):TI:=fun σ H R=>iZipS ta σ H R\/iZipL K ta σ H R
theorem pi_zip{elts:List Expr}{kk:Nat}{tpos:Pos}{p pos:Pos}(hg:Gl X "zip")(hm:X.mg "zip" = none)(ha:PA X [a,b] ta)(hs:Be [a,b] X.env=[(false,eval a X.env),(false,eval b X.env)]:=by rfl)(hs2:Be [b] X.env=[(false,eval b X.env)]:=by rfl):
  PI X (.Tuple elts kk tpos) (.Call (.Name "zip" p) [a,b] [] pos) (iZip X.K ta):=(x0z hg hm ha hs hs2).or (x1a hg hm ha hs hs2)
end
open PySem PySem.Spec PyProof.Rows
section
variable{X:Cx}{a b o e l:Expr}{es:List Expr}{ta tb to te tl:TE}{t:TA}{pos p2 apos cpos:Pos}{k:Nat}{name:Str}{T idn:String}{r:V->List V->Hp->VK->Prop}
theorem ix_k(K:Ae)(hK:X.K=K):IxR X (rIx K):=by subst hK;exact ix_seq
theorem q3o(K:Ae)(hK:X.K=K):CallR X (.builtin "len") (fun xs H Q=>∃x n,xs=[x]/\LenV K x H n/\Q (.int n) H):=by subst hK;exact z7p
theorem eq_k(K:Ae)(hK:X.K=K)(hr:Room k X.A):OpR X (Ck .Eq) (rEqU K):=by subst hK;exact op_eqU hr
theorem ne_k(K:Ae)(hK:X.K=K)(hr:Room k X.A):OpR X (Ck .NotEq) (rNeU K):=by subst hK;exact op_neU hr
theorem in_k(K:Ae)(hK:X.K=K):OpR X (Ck .In) (rInU K):=by subst hK;exact op_inU
theorem z5f(K:Ae)(hK:X.K=K):OpR X (Ck .NotIn) (rNinU K):=by subst hK;exact x1c
theorem sl_k(K:Ae)(hK:X.K=K):SlR X (rSlU K):=by subst hK;exact sl_U
theorem q2y{tg:Expr}(K:Ae)(hK:X.K=K)(hl:PE X l tl):PI X tg l (iAny K tl):=by subst hK;exact pi_any hl
theorem lst_k{tg:Expr}(K:Ae)(hK:X.K=K)(hl:PE X l tl):PI X tg l (iList K tl):=by subst hK;exact x0t hl
theorem zip_k{elts:List Expr}{kk:Nat}{tpos:Pos}{p:Pos}(K:Ae)(hK:X.K=K)(hg:Gl X "zip")(hm:X.mg "zip" = none)(ha:PA X [a,b] t)(hs:Be [a,b] X.env=[(false,eval a X.env),(false,eval b X.env)]:=by rfl)(hs2:Be [b] X.env=[(false,eval b X.env)]:=by rfl):
  PI X (.Tuple elts kk tpos) (.Call (.Name "zip" p) [a,b] [] pos) (iZip K t):=by subst hK;exact pi_zip hg hm ha hs hs2
theorem all_k(K:Ae)(hK:X.K=K)(hc:X.calm=true):CallR X (.builtin "all") (fun xs H Q=>∃(p:Addr) (bs:List Bool),xs=[.ref p]/\SqL K H p (bs.map V.bl)/\Q (.bl (bs.all id)) H):=by subst hK;exact z7u hc
theorem list_k(K:Ae)(hK:X.K=K):CallR X (.type "list") (fun xs H Q=>∃p ys,xs=[.ref p]/\(SqL K H p ys\/SqT K H p ys)/\∀l,H l=none->Q (.ref l) (upd H l (.lst ys))):=by subst hK;exact q9l
theorem x1d(K:Ae)(hK:X.K=K):CallR X (.type "tuple") (fun xs H Q=>∃p ys,xs=[.ref p]/\((SqL K H p ys/\∀l,H l=none->Q (.ref l) (upd H l (.tup ys)))\/(SqT K H p ys/\Q (.ref p) H))):=by subst hK;exact q7l
theorem z9r(K:Ae)(hK:X.K=K):MtM X "str.join" (rJoin K):=by subst hK;exact x0x
theorem q2z{kk n:Nat}{u:TGs}(K:Ae)(hK:X.K=K)(hc:X.calm=true)(h:PGs X es u)(hn:(Fx es X.env).length=n:=by rfl)(hst:(Fx es X.env).findIdx? (·.1)=none:=by rfl):PG X (.Tuple es kk pos) (gTup K n u):=by subst hK;exact pg_tup hc h hn hst
theorem bm_k(K:Ae)(hK:X.K=K)(pa:Mi T)(slot:Slot T name idn)(hty:typeOf (.builtin idn)=pure (.type "method_descriptor"))(hm:MtR X idn r)(ho:PE X o to)(ha:PA X (e::es) t)(hbase:Gh o name X.env (eval o X.env)=eval o X.env:=by rfl)(hfew:((Fc cpos (Be (e::es) X.env)).all (fun x => !x.1)&&(Oa cpos (Li [] X.env)).all (fun x=>x.1.isSome)
   && decide ((e::es).length+([]:List Je).length+(if ([]:List Je).isEmpty then 0 else 1)<30))=true:=by rfl)(hline:(apos.endLine==cpos.line)=true:=by rfl)(hs:Be (e::es) X.env=(false,eval e X.env)::Be es X.env:=by rfl)(hplain:(Fc cpos (Be es X.env)).any (·.1)=false:=by rfl):
  PE X (.Call (.Attribute o name apos) (e::es) [] cpos) (tBM K T r to t):=by subst hK;exact pe_bm pa slot hty hm ho ha hbase hfew hline hs hplain
theorem q5r(K:Ae)(hK:X.K=K)(pa:Mi T)(slot:Slot T name idn)(hty:typeOf (.builtin idn)=pure (.type "method_descriptor"))(hm:MtR X idn r)(ho:PE X o to)(hbase:Gh o name X.env (eval o X.env)=eval o X.env:=by rfl)(hline:(apos.endLine==cpos.line)=true:=by rfl):PE X (.Call (.Attribute o name apos) [] [] cpos) (tBM0 K T r to):=by subst hK;exact pe_bm0 pa slot hty hm ho hbase hline
theorem tru_k(K:Ae)(hK:X.K=K)(ha:PE X a ta)(he:∀whole,isTrue a X.env whole=(do let v<-whole;Ln a.pos;Kg [v] (truthy v))):
  PT X a (fun σ H Q=>ta σ H fun x H'=>∃k,TruV K x H' k/\Q k H'):=by subst hK;exact z7o ha he
end
theorem z0w{lo:Int}{r:St}{Fin:List V->Hp->Prop}(Pv:Nat->List V->Hp->Prop)(h0:Pv 0 [] (upd H1 D (.lst [])))(hl:∀i ys H,Pv i ys H->H D=some (.lst ys))(hs:∀i ys H,i<n->Pv i ys H->te (some (.int (lo+i))::r) H fun v H4=>H4 D=some (.lst ys)/\ys.length<sizeLine/\Pv (i+1) (ys++[v]) (upd H4 D (.lst (ys++[v]))))(hd:∀ys H,Pv n ys H->Fin ys H):CompW (Itr lo n) (gName 0) tIf0 te (none::r) D Fin H1 :=
 z3q Pv h0 hl (fun i ys H h p=>(⟨q1o,iteT (hs i ys H h p)⟩:Keeps0 (none::r) (some (.int (lo+i))::r)/\if true=true then te (some (.int (lo+i))::r) H fun v H4=>H4 D=some (.lst ys)/\ys.length<sizeLine/\Pv (i+1) (ys++[v]) (upd H4 D (.lst (ys++[v]))) else Pv (i+1) ys H)) hd
theorem z5g{r:St}{Fin:List V->Hp->Prop}(Pv:Nat->List V->Hp->Prop)(h0:Pv 0 [] (upd H1 D (.lst [])))(hl:∀i ys H,Pv i ys H->H D=some (.lst ys))(hs:∀i ys H c,z.cps[i]?=some c->Pv i ys H->te (some (.str ⟨#[c]⟩)::r) H fun v H4=>H4 D=some (.lst ys)/\ys.length<sizeLine/\Pv (i+1) (ys++[v]) (upd H4 D (.lst (ys++[v]))))(hd:∀ys H,Pv z.length ys H->Fin ys H):CompW (Its z) (gName 0) tIf0 te (none::r) D Fin H1 :=
 q7o Pv h0 hl (fun i ys H c h p=>(⟨q1o,iteT (hs i ys H c h p)⟩:Keeps0 (none::r) (some (.str ⟨#[c]⟩)::r)/\if true=true then te (some (.str ⟨#[c]⟩)::r) H fun v H4=>H4 D=some (.lst ys)/\ys.length<sizeLine/\Pv (i+1) (ys++[v]) (upd H4 D (.lst (ys++[v]))) else Pv (i+1) ys H)) hd
theorem z3s{K:Ae}{r:St}{Fin:List V->Hp->Prop}(Pv:Nat->List V->Hp->Prop)(h0:Pv 0 [] (upd H1 D (.lst [])))(hl:∀i ys H,Pv i ys H->H D=some (.lst ys)/\SqL K H a xs)(hs:∀i ys H x,xs[i]?=some x->Pv i ys H->te (some x::r) H fun v H4=>H4 D=some (.lst ys)/\ys.length<sizeLine/\Pv (i+1) (ys++[v]) (upd H4 D (.lst (ys++[v]))))(hd:∀ys H,Pv xs.length ys H->Fin ys H):CompW (Itl K a) (gName 0) tIf0 te (none::r) D Fin H1 :=
 q4b Pv h0 hl (fun i ys H x h p=>(⟨q1o,iteT (hs i ys H x h p)⟩:Keeps0 (none::r) (some x::r)/\if true=true then te (some x::r) H fun v H4=>H4 D=some (.lst ys)/\ys.length<sizeLine/\Pv (i+1) (ys++[v]) (upd H4 D (.lst (ys++[v]))) else Pv (i+1) ys H)) hd
def tSeqJ(t u:TS):TS:=fun D σ H=>∃J:St->Hp->Prop,(∀σ' H',J σ' H'->u D σ' H')/\t { D with nx:=J } σ H
theorem q1k{X:Cx}{st:Stmt}{rest:List Stmt}{t u:TS}(h1:PS X st t)(h2:PSs X rest u):PSs X (st::rest) (tSeqJ t u):=by
 intro pins s σ H D I h;obtain⟨J,hJ,h⟩:=h;refine Kj (thn (h1 pins s σ H { D with nx:=J } I h) fun f s1 q=>?_);cases f with
 |next =>
  obtain⟨σ',H',I',q⟩:=q;exact h2 pins s1 σ' H' D I' (hJ σ' H' q)
 |ret v=>exact q
 |brk=>exact q
 |cont=>exact q
def tVJ(t:TE):TE:=fun σ H Q=>∃J:VK,(∀v H',J v H'->Q v H')/\t σ H J
theorem pe_j{X:Cx}{e:Expr}{t:TE}(h:PE X e t):PE X e (tVJ t):=by
 intro pins s σ H Q I hw;obtain⟨J,hJ,hw⟩:=hw;exact thn (h pins s σ H J I hw) fun u s' ⟨v,H',I',r,q⟩=>⟨v,H',I',r,hJ v H' q⟩
def tTJ(t:TT):TT:=fun σ H Q=>∃J:Bool->Hp->Prop,(∀b H',J b H'->Q b H')/\t σ H J
theorem pt_j{X:Cx}{e:Expr}{t:TT}(h:PT X e t):PT X e (tTJ t):=by
 intro pins s σ H Q I hw;obtain⟨J,hJ,hw⟩:=hw;exact thn (h pins s σ H J I hw) fun u s' ⟨H',I',q⟩=>⟨H',I',hJ u H' q⟩
theorem iteB{B:Prop}(hA:c=true->A)(hB:c=false->B):if c=true then A else B:=by grind
end L2
namespace TX
open PySem PySem.Spec PyProof.Rows L2
abbrev tl(x:Str):List Nat:=x.cps.toList
abbrev mk(l:List Nat):Str:=⟨l.toArray⟩
theorem q0v(l:List Nat):tl (mk l)=l:=by simp[tl,mk]
theorem z0x(x:Str):mk (tl x)=x:=by simp[tl,mk]
theorem ext(h:tl x=tl y):x=y:=ext_toList h
theorem len(x:Str):x.length=(tl x).length:=by simp[tl,Str.length]
theorem q2c(x y:Str):tl (x++y)=tl x++tl y:=by
 show(x.cps++y.cps).toList=_;simp[tl]
theorem z0y(x y:Str):(x++y).length=x.length+y.length:=by rw[len,len,len,q2c,Ac]
theorem get{i:Nat}(h:x.cps[i]?=some c):(tl x)[i]?=some c:=by simpa[tl] using h
theorem q5s(z:Str)(ts:List Str):Kk z ts=Gb z ts:=Ia z ts
theorem z5h:∀ts:List Str,tl (Kk (Aa "") ts)=(ts.map tl).flatten:=by
 intro ts;rw[q5s];induction ts with
 |nil=>rfl
 |cons a r ih =>
  cases r with
  |nil=>simp[Gb]
  |cons b r =>
   show tl (a++Aa "" ++ Gb (Aa "") (b::r))=_;rw[q2c,q2c,ih];have e:tl (Aa "")=[]:=by decide +kernel
   rw[e];simp
theorem z5i(cs:List Nat):Kk (Aa "") (cs.map fun c=>(⟨#[c]⟩:Str))=mk cs:=by
 apply ext;rw[z5h,q0v,Cw];induction cs with
 |nil=>rfl
 |cons c r ih=>rw[Ay,Ct,ih];rfl
theorem z7y(cs:List Nat):((cs.map fun c=>(⟨#[c]⟩:Str)).map (·.length)).sum=cs.length:=by
 induction cs with
 |nil=>rfl
 |cons c r ih=>rw[Ay,Ay,Mm,ih,Ar];show 1+_=_;lia
theorem z3t{i:Int}(h0:0<=i)(h1:i<=(tl x).length):Pe x (some i) none=mk ((tl x).drop i.toNat):=by
 show Eb x (some i) none=_;rw[StrLaws.sliceText_from ⟨h0,h1⟩];rw[Cj];rw[Bk];lia
theorem q2x(x:Str)(c:Nat):(!(Dc x ⟨#[c]⟩ 0 x.length 1).isEmpty)=decide (c∈tl x):=StrLaws.found_one x c
theorem lower(h:∀c∈tl x,c<128):tl (Jm x)=(tl x).map lo1:=by
 rw[lower_ascii h];simp[tl]
theorem small(h:n<=1000000):n<=sizeLine:=by rw[Fj];lia
theorem small'(h:n<=1000000):n<sizeLine:=by rw[Fj];lia
end TX
namespace L2
open PySem PySem.Spec PyProof.Rows TX
def spText:Sp:=fun vs H Q _=>∃a b g n,vs=[.ref a,.str g,.int n]/\FeedAt H a b/\0<g.length/\g.length<=1000/\0<=n/\n<=1000 /\
 ∀(t:List Nat) H',t.length=n.toNat->(∀c∈t,c∈tl g)->Fd a b H H'->Q (.str (mk t)) H'
theorem q0z{α:Type}{l:List α}{x:α}(h:l[i]?=some x):l.take (i+1)=l.take i++[x]:=by
 rw[Et,h];rfl
open PySem PySem.Spec PyProof.Rows
section
variable{prog:Program}{w:World}{K:Ae}{A:Around}{E:Value->Ag->Prop}{s:Ag}{J:It}{st:Nat->Heap->Prop}{e it:Addr}{H:Hp}
theorem z3u{i:Nat}{Q:Value->Ag->Prop}(S:Srce prog w K J it st)(hh:A.handled=none)(vw:Vw K H s.heap)(nH:H it=none)(nK:K.lookup it=none)(he:IsEnum s.heap e it i old)(hst:st i s.heap)(go:J.go i H)(hne:e≠it)(hQ:∀u x h' tk,RelV x u->J.yld i H x H->IsEnumOut h' e it ((i:Int)+1) u s.heap.objs.size->st (i+1) h'->h'.get? s.heap.objs.size=some { cls:=.type "tuple",data:=.seq #[.int i tk,u] }->h'.objs.size=s.heap.objs.size+1 ->
   (∀b o,b≠e->b≠it->s.heap.get? b=some o->h'.get? b=some o)->Q (.ref s.heap.objs.size) { s with heap:=h',toks:=tk+1 }):
  wpAny (model prog w) A (Ee.«enumerate.__next__» ⟨[.ref e],[]⟩) (fun fin s'=>∃v,fin=.done (.ret v)/\Q v s') E s:=by
 obtain⟨hp,g,d,tk₀,os⟩:=s;show wpAny _ _ (field (.ref e) 2 >>= _) _ _ _;refine Ab (Ci he rfl rfl ?_);refine Ab (S.item _ i _ H _ _ hh vw nH nK hst go fun u x h₁ tk rx yx st₁ hs₁=>?_);have he₁:=(hs₁.2 e hne).trans he;refine Ab (Ci he₁ rfl rfl ?_);refine Ab (Ci he₁ rfl rfl ?_);refine Ab (wpAny_mkInt ?_);refine Ab (Cp he₁ (by simp) fun h₂ he₂ hs₂=>?_);refine Ab (Cp he₂ (by simp) fun h₃ he₃ hs₃=>?_);refine Ab (wpAny_newTuple ?_);have he₄:IsEnum (h₃.push { cls:=.type "tuple",data:=.seq #[.int i tk,u] }) e it ((i:Int)+1) old:=Ak _ he₃;generalize hh₄:h₃.push { cls:=.type "tuple",data:=.seq #[.int i tk,u] }=h₄ at he₄;have hsz:h₃.objs.size=hp.objs.size:=by rw[hs₃.1,hs₂.1,hs₁.1]
 have hel:=Ba he;have ht₄:h₄.get? hp.objs.size=some { cls:=.type "tuple",data:=.seq #[.int i tk,u] }:=by rw[<- hh₄,<- hsz];exact Bc _ rfl
 have hz₄:h₄.objs.size=hp.objs.size+1:=by rw[<- hh₄,Er,hsz]
 have hk₄:∀b o,b≠e->b≠it->hp.get? b=some o->h₄.get? b=some o:=fun b o hbe hbi hb=>by
  rw[<- hh₄];exact Ak _ (hs₃.extBut b o hbe (hs₂.extBut b o hbe (hs₁.extBut b o hbi hb)))
 have hit₄:st (i+1) h₄:=S.keep _ _ _ st₁ fun o y=>by
  rw[<- hh₄];exact Ak _ (hs₃.extBut it o hne.symm (hs₂.extBut it o hne.symm y))
 rw[hsz];refine Ab ?_;refine Ab (Ci he₄ rfl rfl (An ?_));refine Ab (Il ?_);refine Ab (Ci he₄ rfl rfl ?_);refine Ab (Cp he₄ (by simp) fun h₅ he₅ hs₅=>?_);refine Ab ?_;refine Ab (Cp he₅ (by simp) fun h₆ he₆ hs₆=>?_);refine Cp he₆ (by simp) fun h₇ he₇ hs₇=>?_;have up:=fun b o hb y=>hs₇.extBut b o hb (hs₆.extBut b o hb (hs₅.extBut b o hb y));refine Ab (Jh (An ⟨_,rfl,hQ u x h₇ tk rx yx he₇ (S.keep _ _ _ hit₄ fun o y=>up _ o hne.symm y) (up _ _ (Gw hel) ht₄) ?_ fun b o hbe hbi hb=>up b o hbe (hk₄ b o hbe hbi hb)⟩));rw[hs₇.1,hs₆.1,hs₅.1,hz₄]
end
def Ite(J:It):It:=⟨fun i H=>J.go i H,fun i H x H'=>∃T y,H T=none/\J.yld i H y H/\x=.ref T/\H'=upd H T (.tup [.int i,y]),fun i H=>J.stop i H⟩
theorem z5j{K:Ae}{st:Nat->Heap->Prop}(hne:e≠it)(S:Srce P w K J it st):
  Turn P w K (.Tuple elts kk pos) (Ite J) [e,it] e (fun i h=>(∃old,IsEnum h e it i old)/\st i h) where
 mem:=by simp
 obj:=fun i h hs b hb=>by
  obtain⟨⟨old,he⟩,h1⟩:=hs;simp only[Am,Bl,or_false] at hb;rcases hb with rfl|rfl
  ·grind
  ·exact S.obj i h h1
 keep:=fun i h h' hs k=>by
  obtain⟨⟨old,he⟩,h1⟩:=hs;exact⟨⟨old,k e (by simp) _ he⟩,S.keep _ _ _ h1 fun o y=>k it (by simp) o y⟩
 item:=by
  intro X hP hw hK hc i pins s σ H E I hf hs hg;subst hP hw hK;obtain⟨⟨old,he⟩,h1⟩:=hs;have hT:s.TypeIs (.ref e) "enumerate" := ⟨_,he,rfl⟩
  refine Ab (Gi (Cu hT Fq
   (Dk Fq hT Lk
    (z3u S (I.ok.hd hc) I.vw (hf it (by simp)).1 ((hf it (by simp)).noK I) he h1 hg hne fun u x h' tk rx yx a1 a2 a3 a4 a5=>An ?_) (Kv _))))
  refine⟨_,rfl,?_⟩;refine wpAny_letOwnedTupleGo_enum a1 fun h2 he2 hs2=>?_;have k2:∀c o,c∉[e,it]->s.heap.get? c=some o->h2.get? c=some o:=fun c o hcn y=>by
   simp only[Am,Bl,or_false,not_or] at hcn;exact hs2.extBut _ _ hcn.1 (a5 c o hcn.1 hcn.2 y)
  have elt:=Ba he;have ilt:it<s.heap.objs.size:=by obtain⟨o,y,_⟩:=S.obj _ _ h1;exact Ba y
  have I1:Inv X pins σ H { s with heap:=h2,toks:=tk+1 }:=I.turnedL k2 hf;have FT:=I.fpOk (Af _) I.fresh;have hT2:h2.get? s.heap.objs.size=some { cls:=.type "tuple",data:=.seq #[.int i tk,u] }:=hs2.extBut _ _ (Gw elt) a3;have I2:Inv X pins σ (upd H s.heap.objs.size (.tup [.int i,x])) { s with heap:=h2,toks:=tk+1 } :=
   I1.track I.sz FT ⟨by show 2<=sizeLine;decide,[.int i tk,u],.cons ⟨_,rfl⟩ (.cons rx .nil),⟨_,hT2,rfl,_,rfl⟩⟩
  refine⟨.ref s.heap.objs.size,_,I2,rfl,⟨_,x,I.fresh,yx,rfl,rfl⟩,⟨⟨u,by simpa using he2⟩,S.keep _ _ _ a2 fun o y=>hs2.extBut _ _ hne.symm y⟩,fun b hb=>?_⟩;have hb2:=(hf b hb).1;rw[q0m]
  ·exact hb2
  ·grind
 done:=by
  intro X hP hw hK hc i pins s σ H E I hf hs hg;subst hP hw hK;obtain⟨⟨old,he⟩,h1⟩:=hs;have hT:s.TypeIs (.ref e) "enumerate" := ⟨_,he,rfl⟩
  refine Ab (Gi (Cu hT Fq
   (Dk Fq hT Lk ?_ (Kv _))))
  show wpAny _ _ (field (.ref e) 2 >>= _) _ _ _;refine Ab (Ci he rfl rfl ?_);refine Ab (S.done _ i _ H _ _ (I.ok.hd hc) I.vw (hf it (by simp)).1 ((hf it (by simp)).noK I) h1 hg fun h' x he' hx'=>?_);obtain⟨o,ho,hcl⟩:=hx';refine Ab (Km ⟨o,ho,hcl⟩ Lr ?_);refine An ⟨rfl,I.turnedL (t':=s.toks) (fun c o hcn y=>?_) hf⟩;simp only[Am,Bl,or_false,not_or] at hcn;exact he' c o hcn.2 y
 self:=fun _ _ _ _ _ hs h=>by
  obtain⟨⟨old,he⟩,_⟩:=hs;exact Nt he h
section
variable{X:Cx}{elts:List Expr}{kk:Nat}{tpos:Pos}
theorem q9q{σ:St}{st:Nat->Heap->Prop}(I:Inv X pins σ H s)(S:Srce X.prog X.w X.K J s.heap.objs.size st)(he:IsEnum h' (s.heap.objs.size+1) s.heap.objs.size 0 .none)(h1:st 0 h')(hk:∀c o,s.heap.get? c=some o->h'.get? c=some o)(q:R (Ite J) H):
  wpAny (model X.prog X.w) X.A (Hn (.ref (s.heap.objs.size+1))) (PIE X pins σ (.Tuple elts kk tpos) R) E { s with heap:=h' }:=by
 refine Nt he ?_;refine⟨_,_,_,_,H,rfl,I.kept (t':=s.toks) hk,z5j (show(s.heap.objs.size+1:Nat)≠s.heap.objs.size by lia) S,⟨⟨_,he⟩,h1⟩,fun b hb=>?_,q⟩;have hb':s.heap.objs.size<=b:=by
  simp only[Am,Bl,or_false] at hb;rcases hb with rfl|rfl
  ·exact Nw _
  ·exact Af _
 exact I.fpOk hb' (I.hok.fresh hb')
def iEnum(K:Ae)(ta:TA):TI:=fun σ H R=>ta σ H fun vs H1=>(∃z,vs=[.str z]/\R (Ite (Its z)) H1)\/∃a xs,vs=[.ref a]/\SqL K H1 a xs/\R (Ite (Itl K a)) H1
theorem x1e(hg:Gl X "enumerate")(hm:X.mg "enumerate" = none)(ha:PA X [a] ta)(hs:Be [a] X.env=[(false,eval a X.env)]:=by rfl):
  PI X (.Tuple elts kk tpos) (.Call (.Name "enumerate" p) [a] [] pos) (iEnum X.K ta):=by
 intro pins s σ H R I h;refine Call_ (q4q I hg hm (by decide +kernel:Eg "enumerate" = some (.type "enumerate")) (Cr (thn (ha pos pins s σ H _ I h) fun us s1 ⟨vs,H1,I1,r1,q1⟩=>?_) hs rfl));rcases q1 with⟨z,e,q⟩|⟨l,xs,e,hq,q⟩
 ·subst e;obtain⟨u,rfl,t,rfl⟩:=vals1 r1;exact call_enumerate_str fun h' he hi hz hk=>q9q I1 (q7p _ z t) he hi hk q
 ·subst e;obtain⟨u,rfl,r⟩:=vals1 r1;cases r;obtain⟨its,rv,pl,_⟩:=I1.list hq;exact call_enumerate_list pl.isList fun h' he hi hz hk=>q9q I1 (q5p l _) he hi hk q
theorem z9s{a:Expr}{ta:TA}{p pos:Pos}(K:Ae)(hK:X.K=K)(hg:Gl X "enumerate")(hm:X.mg "enumerate" = none)(ha:PA X [a] ta)(hs:Be [a] X.env=[(false,eval a X.env)]:=by rfl):
  PI X (.Tuple elts kk tpos) (.Call (.Name "enumerate" p) [a] [] pos) (iEnum K ta):=by subst hK;exact x1e hg hm ha hs
theorem q9r{g:TG}{tb:TS}{D:Ends}(Pv:Nat->St->Hp->Prop)(h0:Pv 0 σ H)(hs:∀i c T σ H,z.cps[i]?=some c->Pv i σ H->H T=none->g (.ref T) σ (upd H T (.tup [.int i,.str ⟨#[c]⟩])) fun σ2 H2=>tb { D with nx:=Pv (i+1),ct:=Pv (i+1),bk:=D.nx } σ2 H2)(hd:∀σ H,Pv z.length σ H->D.nx σ H):
  ∃W:Nat->Nat->St->Hp->Prop,(∃m,W 0 m σ H)/\∀i m σ H,W i m σ H ->
   ((Ite (Its z)).stop i H/\D.nx σ H)\/((Ite (Its z)).go i H/\∃N:St->Hp->Prop,(∀σ' H',N σ' H'->∃m',m'<m/\W (i+1) m' σ' H')/\∀v H',(Ite (Its z)).yld i H v H'->g v σ H' fun σ2 H2=>tb { D with nx:=N,ct:=N,bk:=D.nx } σ2 H2):=by
 refine z5e Pv h0 (fun i σ H h _=>h) (fun σ H _=>Af _) (fun i v σ H H' h p yl=>?_) hd;obtain⟨T,y,hT,⟨_,c,hc,rfl⟩,rfl,rfl⟩:=yl;exact hs i c T σ H hc p hT
end
end L2
namespace K
open PySem L2 TX
def NSs:Str:=Aa "abcdefghijklmnopqrstuvwxyzABCDEFGHIJKLMNOPQRSTUVWXYZ0123456789-_."
def GSs:Str:=Aa "?*#@"
abbrev NS:List Nat:=tl NSs
abbrev GS:List Nat:=tl GSs
theorem z2e:∀c∈NS,c<128:=by decide +kernel
theorem z7z:∀c∈GS,c<128:=by decide +kernel
theorem z8a(h:c∈GS):([c].filter fun c=>decide (c∈GS))=[c]:=by simp_all
theorem z8b(h:¬c∈GS):([c].filter fun c=>decide (c∈GS))=[]:=by grind
inductive Pt where
 |tx (l:List Nat)
 |gp (c:Nat)
namespace Pt
def fl:Pt->List Nat
 |tx l=>l
 |gp c=>[c]
def isG:Pt->Bool
 |tx _=>false
 |gp _=>true
def ok:Pt->Prop
 |tx l=>l≠[]/\∀c∈l,c∈NS
 |gp c=>c∈GS
def word:Pt->Str
 |tx _=>Aa "text"
 |gp _=>Aa "gap"
def vs(p:Pt):List V:=[.str p.word,.str (mk p.fl)]
def dat(p:Pt):PyData:=.tuple [.str p.word,.str (mk p.fl)]
end Pt
def gaps(ps:List Pt):Nat:=(ps.filter Pt.isG).length
def tp(t:List Nat):List Pt:=if t=[] then[] else[.tx t]
def parse(cur:List Nat):List Nat->List Pt
 |[]=>tp cur
 |c::r=>if c∈GS then tp cur++.gp c::parse [] r else parse (cur++[c]) r
structure Good (l:List Nat):Prop where
 ne:l≠[]
 sg:∀c∈l,c∈GS\/c∈NS
 gp:(l.filter fun c=>decide (c∈GS)).length<=9
 len:l.length<=1000
def TKeep(H H':Hp):Prop:=∀T xs,H T=some (.tup xs)->H' T=some (.tup xs)
abbrev Tups(H:Hp):List Addr->List Pt->Prop:=Eu fun T p=>H T=some (.tup p.vs)
structure HL (H:Hp) (L:Addr) (ps:List Pt):Prop where
 ex:∃Ts:List Addr,H L=some (.lst (Ts.map V.ref))/\Tups H Ts ps
theorem Tups.keep{H H':Hp}(k:TKeep H H'):∀{Ts:List Addr} {ps:List Pt},Tups H Ts ps->Tups H' Ts ps
 |_,_,.nil=>.nil
 |_,_,.cons h t=>.cons (k _ _ h) (Tups.keep k t)
theorem Tups.len(h:Tups H Ts ps):Ts.length=ps.length:=Ey h
theorem Tups.app{H:Hp}:∀{Ts Us:List Addr} {ps qs:List Pt},Tups H Ts ps->Tups H Us qs->Tups H (Ts++Us) (ps++qs)
 |_,_,_,_,.nil,h=>h
 |_,_,_,_,.cons h t,u=>.cons h (Tups.app t u)
theorem Tups.last:∀{ps:List Pt} {p:Pt} {Ts:List Addr},Tups H Ts (ps++[p])->∃Us T,Ts=Us++[T]/\Tups H Us ps/\H T=some (.tup p.vs)
 |[],_,_,.cons h .nil=>⟨[],_,rfl,.nil,h⟩
 |_::ps,p,_,.cons h t=>by
  obtain⟨Us,T,rfl,h1,h2⟩:=Tups.last (ps:=ps) t;exact⟨_::Us,T,rfl,.cons h h1,h2⟩
theorem Tups.get:∀{Ts:List Addr} {ps:List Pt} {i:Nat} {x:V},Tups H Ts ps->(Ts.map V.ref)[i]?=some x->∃T p,x=.ref T/\ps[i]?=some p/\H T=some (.tup p.vs)
 |_,_,_,_,.nil,h=>by simp at h
 |_,_,0,x,.cons h t,e=>by simp at e;exact⟨_,_,e.symm,rfl,h⟩
 |_,_,i+1,x,.cons h t,e=>by
  obtain⟨T,p,h1,h2,h3⟩:=Tups.get (i:=i) (x:=x) t (by simpa using e);exact⟨T,p,h1,by simpa using h2,h3⟩
theorem TKeep.refl(H:Hp):TKeep H H:=fun _ _ h=>h
theorem TKeep.trans(a:TKeep H H1)(b:TKeep H1 H2):TKeep H H2:=fun T xs h=>b T xs (a T xs h)
theorem TKeep.new(k:TKeep H H')(h:H' p=none):TKeep H (upd H' p o):=fun T xs e=>by rw[q0m (q0r (k T xs e) h)];exact k T xs e
theorem TKeep.lst{H H':Hp}{p:Addr}{ys zs:List V}(k:TKeep H H')(h:H' p=some (.lst ys)):TKeep H (upd H' p (.lst zs)):=fun T xs e=>by
 rw[q0m (z7k (k T xs e) h (by intro z;cases z))];exact k T xs e
theorem Fd.tk(F:FeedAt H a b)(x:Fd a b H H'):TKeep H H':=fun T xs e=>by
 obtain⟨i,j,h⟩:=F.fa;exact x.at e (z7k e h (by intro z;cases z))
theorem Same.tk(s:Same H H'):TKeep H H':=fun T xs e=>s _ _ e
theorem HL.same(h:HL H L ps)(s:Same H H'):HL H' L ps:=by
 obtain⟨Ts,h1,h2⟩:=h.ex;exact⟨Ts,s _ _ h1,h2.keep (Same.tk s)⟩
theorem HL.fd(F:FeedAt H a b)(h:HL H L ps)(x:Fd a b H H')(hL:L≠a):HL H' L ps:=by
 obtain⟨Ts,h1,h2⟩:=h.ex;exact⟨Ts,x.at h1 hL,h2.keep (Fd.tk F x)⟩
theorem HL.new(h:HL H L ps)(hp:H p=none):HL (upd H p o) L ps:=h.same ((Same.refl H).new hp)
theorem HL.put(h:HL H L ps)(hM:H M=some (.lst ys))(hne:L≠M):HL (upd H M (.lst zs)) L ps:=by
 obtain⟨Ts,h1,h2⟩:=h.ex;exact⟨Ts,by rw[q0m hne];exact h1,h2.keep ((TKeep.refl H).lst hM)⟩
theorem HL.sq(h:HL H L ps):∃xs,SqL K H L xs:=let ⟨Ts,h1,_⟩:=h.ex;⟨_,SqL.of h1⟩
theorem z8c(Us:List Addr)(T:Addr):atI ((Us++[T]).map V.ref) (-1)=some (.ref T):=by
 unfold atI ixN;rw[if_neg (by decide),if_pos (by simp;lia)];have e:(-1+(((Us++[T]).map V.ref).length:Int)).toNat=Us.length:=by simp;lia
 rw[e];simp
theorem HL.snoc(h1:H L=some (.lst (Ts.map V.ref)))(h2:Tups H Ts ps)(hT:H T=none):
  HL (upd (upd H T (.tup p.vs)) L (.lst (Ts.map V.ref++[.ref T]))) L (ps++[p]):=by
 have hTL:T≠L:=fun z=>by subst z;rw[hT] at h1;cases h1
 have h1':(upd H T (.tup p.vs)) L=some (.lst (Ts.map V.ref)):=by rw[q0m (Gk hTL)];exact h1
 refine⟨Ts++[T],by rw[Ax];exact q0e,Tups.app ((h2.keep ((TKeep.refl H).new hT)).keep ((TKeep.refl _).lst h1')) (.cons ?_ .nil)⟩;rw[q0m hTL];exact q0e
theorem q5a(h:∀c∈l,c<128):Cd (mk l)=true:=by
 unfold Cd;rw[Array.all_eq_true'];intro c hc;have:=h c (by simpa[mk] using hc);simp;lia
theorem Pt.lay{p:Pt}(h:p.ok):p.dat.canLay0=true:=by
 have hs:∀c∈p.fl,c<128:=by
  cases p with
  |gp c =>
   intro d hd;have e:d=c:=by simpa[Pt.fl] using hd
   rw[e];exact z7z c h
  |tx l=>exact fun c hc=>z2e c (h.2 c hc)
 have hw:Cd p.word=true:=by
  cases p with
  |gp c=>show Cd (Aa "gap")=true;decide +kernel
  |tx l=>show Cd (Aa "text")=true;decide +kernel
 simp only[Pt.dat,Dg,Br,hw,q5a hs,Du]
theorem Pt.dt{p:Pt}(h:H T=some (.tup p.vs)):Dt K H (.ref T) p.dat :=
 .tup (SqT.of h) (.cons (.str _) (.cons (.str _) .nil))
end K
namespace L2
open PySem PySem.Spec PyProof.Rows
section
variable{X:Cx}{x c:Str}{k:Nat}{p pos apos cpos:Pos}{o:Expr}{to:TE}
def rRepl(y z:Str):V->Hp->VK->Prop:=fun v H Q=>∃s,v=.str s/\s.length+(s.length+1)*z.length<=16777216/\Q (.str (Ji s y z)) H
def tRepl(y z:Str)(to:TE):TE:=fun σ H Q=>to σ H fun v H1=>rRepl y z v H1 Q
end
open PySem PySem.Spec PyProof.Rows
section
variable{κ:Type}[DecidableEq κ]
def valV(kvs:List (κ×V))(k:κ):Option V:=(kvs.find? fun kv=>decide (kv.1=k)).map (·.2)
def putK(kvs:List (κ×V))(k:κ)(v:V):List (κ×V) :=
 if (kvs.any fun kv=>decide (kv.1=k))=true then kvs.map (fun kv=>if kv.1=k then(kv.1,v) else kv) else kvs++[(k,v)]
def dropK(kvs:List (κ×V))(k:κ):List (κ×V):=kvs.filter fun kv=>decide (kv.1≠k)
theorem q1p{p:κ×V}(e:p.1=k):valV (p::r) k=some p.2:=by simp[valV,Fg,e]
theorem q1q{p:κ×V}(e:¬p.1=k):valV (p::r) k=valV r k:=by simp[valV,Fg,e]
theorem q5b(k:κ):∀kvs:List (κ×V),(kvs.any fun kv=>decide (kv.1=k))=(valV kvs k).isSome
 |[]=>rfl
 |p::r=>by
  rw[Ml];by_cases e:p.1=k
  ·simp only[q1p e,decide_eq_true e,Bool.true_or,Option.isSome_some]
  ·rw[q1q e,decide_eq_false e,Bool.false_or];exact q5b k r
theorem z2f(k j:κ)(y:V):∀kvs:List (κ×V),valV (kvs.map fun kv=>if kv.1=k then(kv.1,y) else kv) j=(valV kvs j).map fun x=>if j=k then y else x
 |[]=>rfl
 |p::r=>by
  have ih:=z2f k j y r;rw[Ay];by_cases h:p.1=k
  ·rw[if_pos h];by_cases e:p.1=j
   ·rw[q1p (p:=(p.1,y)) e,q1p e,La,if_pos (e.symm.trans h)]
   ·rw[q1q (p:=(p.1,y)) e,q1q e,ih]
  ·rw[if_neg h];by_cases e:p.1=j
   ·rw[q1p e,q1p e,La,if_neg (fun z=>h (e.trans z))]
   ·rw[q1q e,q1q e,ih]
theorem q9s(k j:κ)(y:V):∀kvs:List (κ×V),valV kvs k=none->valV (kvs++[(k,y)]) j=if j=k then some y else valV kvs j
 |[],_=>by
  by_cases e:k=j
  ·rw[if_pos e.symm];exact q1p (p:=(k,y)) e
  ·rw[if_neg (fun z=>e z.symm)];exact q1q (p:=(k,y)) e
 |p::r,hn=>by
  rw[Oc];have hk:¬p.1=k:=fun z=>by rw[q1p z] at hn;cases hn
  rw[q1q hk] at hn;have ih:=q9s k j y r hn;by_cases e:p.1=j
  ·rw[q1p e,q1p e,if_neg (fun z=>hk (e.trans z))]
  ·rw[q1q e,q1q e,ih]
theorem z8d(kvs:List (κ×V))(k j:κ)(y:V):valV (putK kvs k y) j=if j=k then some y else valV kvs j:=by
 unfold putK;by_cases a:(kvs.any fun kv=>decide (kv.1=k))=true
 ·rw[if_pos a,z2f];rw[q5b] at a;by_cases e:j=k
  ·obtain⟨x,hx⟩:=Gz.mp a;rw[if_pos e,e,hx,La,if_pos rfl]
  ·simp_all
 ·rw[if_neg a];refine q9s k j y kvs ?_;rw[q5b] at a;cases q:valV kvs k with
  |none=>rfl
  |some x=>grind
theorem q2n(kvs:List (κ×V))(k:κ)(v:V):(putK kvs k v).length<=kvs.length+1:=by
 unfold putK;split
 ·grind
 ·grind
theorem RelO.isSome_eq(r:RelO o u):o.isSome=u.isSome:=by
 cases o with
 |none=>cases u with
  |none=>rfl
  |some _=>exact(show False from r).elim
 |some _=>cases u with
  |none=>exact(show False from r).elim
  |some _=>rfl
theorem RelO.getD(r:RelO o u)(rd:RelV d d'):RelV (o.getD d) (u.getD d'):=by
 cases o with
 |none=>cases u with
  |none=>exact rd
  |some _=>exact(show False from r).elim
 |some _=>cases u with
  |none=>exact(show False from r).elim
  |some _=>exact r
theorem KV.val(r:KV kvs vs)(k:κ):RelO (valV kvs k) (valueAt vs k):=by
 induction r with
 |nil=>exact True.intro
 | @cons p q ps qs h t ih =>
  obtain⟨h1,h2⟩:=h;by_cases e:p.1=k
  ·have e':q.1=k:=h1.symm.trans e;have b:valueAt (q::qs) k=some q.2:=by simp[valueAt,Fg,e']
   rw[q1p e,b];exact h2
  ·have e':¬q.1=k:=fun z=>e (h1.trans z);have b:valueAt (q::qs) k=valueAt qs k:=by simp[valueAt,Fg,e']
   rw[q1q e,b];exact ih
theorem KV.any(r:KV kvs vs)(k:κ):(kvs.any fun kv=>decide (kv.1=k))=vs.any fun kv=>decide (kv.1=k):=by
 induction r with
 |nil=>rfl
 |cons h t ih=>simp_all
theorem KV.repl(r:KV kvs vs)(k:κ)(ry:RelV y u):
  KV (kvs.map fun kv=>if kv.1=k then(kv.1,y) else kv) (vs.map fun kv=>if kv.1=k then(kv.1,u) else kv):=by
 induction r with
 |nil=>exact .nil
 | @cons p q ps qs h t ih =>
  refine .cons ?_ ih;by_cases e:p.1=k
  ·simp_all
  ·simp_all
theorem KV.put(r:KV kvs vs)(k:κ)(ry:RelV y u):KV (putK kvs k y) (stored vs k u):=by
 unfold putK stored;rw[r.any k];by_cases e:(vs.any fun kv=>decide (kv.1=k))=true
 ·rw[if_pos e,if_pos e];exact r.repl k ry
 ·rw[if_neg e,if_neg e];exact Eu.snoc r ⟨rfl,ry⟩
theorem KV.drop(r:KV kvs vs)(k:κ):KV (dropK kvs k) (without vs k):=by
 unfold dropK without;induction r with
 |nil=>exact .nil
 | @cons p q ps qs h t ih =>
  obtain⟨h1,h2⟩:=h;rw[Dv,Dv];by_cases e:p.1=k
  ·simp_all
  ·have e':¬q.1=k:=fun z=>e (h1.trans z);have a:decide (p.1≠k)=true:=by simp[e]
   have b:decide (q.1≠k)=true:=by simp[e']
   rw[if_pos a,if_pos b];exact .cons ⟨h1,h2⟩ ih
theorem KV.keys{kvs:List (κ×V)}(r:KV kvs vs):kvs.map (·.1)=vs.map (·.1):=by
 induction r with
 |nil=>rfl
 |cons h t ih=>grind
theorem KV.length{kvs:List (κ×V)}(r:KV kvs vs):kvs.length=vs.length:=Ey r
end
theorem z0z(r:RelV (kV k) u):(mixKind P w).is k u=true:=by
 cases k with
 |inl i=>obtain⟨t,e⟩:=(show ∃t,u=Value.int i t from r);subst e;exact z0p P w i t
 |inr x=>obtain⟨t,e⟩:=(show ∃t,u=Value.str x t from r);subst e;exact z0q P w x t
theorem q9t{P:Program}{w:World}:∀{ks:List Key} {us:List Value},Vals (ks.map kV) us->ItemsAre (mixKind P w) ks us
 |[],_,r=>by rw[Kn] at r;cases r;exact .nil
 |k::ks,_,r=>by
  rw[Ay] at r;cases r with
  |cons h t=>exact .cons (z0z h) (q9t t)
abbrev KT(H:Hp):List (List Key×V)->List (List Key×Addr×Value)->Prop:=Eu fun p q=>p.1=q.1/\H q.2.1=some (.tup (p.1.map kV))/\RelV p.2 q.2.2
theorem KT.val(r:KT H kvs xs)(k:List Key):RelO (valV kvs k) ((atKey xs k).map (·.2)):=by
 induction r with
 |nil=>exact True.intro
 | @cons p q ps qs h t ih =>
  obtain⟨h1,_,h2⟩:=h;by_cases e:p.1=k
  ·have e':q.1=k:=h1.symm.trans e;have b:atKey (q::qs) k=some q.2:=by simp[atKey,Fg,e']
   rw[q1p e,b];exact h2
  ·have e':¬q.1=k:=fun z=>e (h1.trans z);have b:atKey (q::qs) k=atKey qs k:=by simp[atKey,Fg,e']
   rw[q1q e,b];exact ih
theorem KT.repl(r:KT H kvs xs)(k:List Key)(ry:RelV y u):
  KT H (kvs.map fun kv=>if kv.1=k then(kv.1,y) else kv) (xs.map (putAt k u)):=by
 induction r with
 |nil=>exact .nil
 | @cons p q ps qs h t ih =>
  refine .cons ?_ ih;unfold putAt;by_cases e:p.1=k
  ·simp_all
  ·simp_all
theorem KT.put(r:KT H kvs xs)(k:List Key)(hb:H b=some (.tup (k.map kV)))(ry:RelV y u):
  KT H (putK kvs k y) (storedH xs k b u):=by
 have e:(kvs.any fun kv=>decide (kv.1=k))=(atKey xs k).isSome:=by
  rw[q5b,(r.val k).isSome_eq,Jz]
 unfold putK storedH;rw[e];by_cases q:(atKey xs k).isSome=true
 ·rw[if_pos q,if_pos q];exact r.repl k ry
 ·rw[if_neg q,if_neg q];exact Eu.snoc r ⟨rfl,hb,ry⟩
theorem KT.keeps(r:KT H kvs xs)(ht:∀b ys,H b=some (.tup ys)->H' b=some (.tup ys)):KT H' kvs xs :=
 Eu.mapP r fun _ _ z=>⟨z.1,ht _ _ z.2.1,z.2.2⟩
section
variable{P:Program}{w:World}{H:Hp}{h:Heap}{a:Addr}
theorem rd_of(ok:HOk P w H h)(e:Rd H a u):ObjOk P w H h a u:=e.ok ok
theorem z5k(ok:HOk P w H h)(e:Rd H a (.dK kvs)):kvs.length<=sizeLine/\(a==Dy)=false/\∃vs,KV kvs vs/\h.DictOf (mixKind P w) a vs :=
 show ObjOk P w H h a (.dK kvs) from rd_of ok e
theorem dk_of(ok:HOk P w H h)(e:H a=some (.dK kvs)):kvs.length<=sizeLine/\(a==Dy)=false/\∃vs,KV kvs vs/\h.DictOf (mixKind P w) a vs:=z5k ok (.inl e)
theorem q9u(ok:HOk P w H h)(e:H a=some (.tup (ks.map kV))):(Jj (mixKind P w)).is h ks a:=by
 obtain⟨_,its,r,o,h1,h2,n,h3⟩:=(show ObjOk P w H h a (.tup (ks.map kV)) from ok a _ e)
 exact⟨o,its.toArray,n,h1,h2,h3,by simpa using q9t r⟩
theorem z5l(ok:HOk P w H h)(e:Rd H a (.dT kvs)):kvs.length<=sizeLine/\(a==Dy)=false /\
  ∃xs,KT H kvs xs/\h.DictOfH (Jj (mixKind P w)) a xs:=by
 obtain⟨z,y,xs,r,o,es,ep,h1,h2,h3,h4,h5⟩:=(show ObjOk P w H h a (.dT kvs) from rd_of ok e)
 refine⟨z,y,xs,r,o,es,ep,h1,h2,h3,h4,fun x hx=>?_,h5⟩;have all:∀{l:List (List Key×V)} {m:List (List Key×Addr×Value)},KT H l m->∀x∈m,(Jj (mixKind P w)).is h x.1 x.2.1:=by
  intro l m q;induction q with
  |nil=>grind
  | @cons p q ps qs hq t ih =>
   intro x hx;rcases Am.mp hx with e|hx
   ·subst e;exact q9u ok (by rw[<- hq.1];exact hq.2.1)
   ·exact ih x hx
 exact all r x hx
theorem dt_of(ok:HOk P w H h)(e:H a=some (.dT kvs)):kvs.length<=sizeLine/\(a==Dy)=false /\
  ∃xs,KT H kvs xs/\h.DictOfH (Jj (mixKind P w)) a xs:=z5l ok (.inl e)
end
def DGet(H:Hp)(a:Addr)(y:V)(r:Option V):Prop :=
 (∃kvs k,Rd H a (.dK kvs)/\y=kV k/\r=valV kvs k)\/∃kvs k b,Rd H a (.dT kvs)/\y=.ref b/\H b=some (.tup (k.map kV))/\r=valV kvs k
def DPut(H:Hp)(a:Addr)(y v:V)(H':Hp):Prop :=
 (∃kvs k,H a=some (.dK kvs)/\y=kV k/\kvs.length<sizeLine/\H'=upd H a (.dK (putK kvs k v))) \/
 ∃kvs k b,H a=some (.dT kvs)/\y=.ref b/\H b=some (.tup (k.map kV))/\kvs.length<sizeLine/\H'=upd H a (.dT (putK kvs k v))
theorem DGet.k{k:Key}(e:H a=some (.dK kvs)):DGet H a (kV k) (valV kvs k):=.inl ⟨kvs,k,.inl e,rfl,rfl⟩
theorem DGet.t{k:List Key}(e:H a=some (.dT kvs))(eb:H b=some (.tup (k.map kV))):DGet H a (.ref b) (valV kvs k):=.inr ⟨kvs,k,b,.inl e,rfl,eb,rfl⟩
theorem DPut.k{k:Key}(e:H a=some (.dK kvs))(hl:kvs.length<sizeLine):DPut H a (kV k) v (upd H a (.dK (putK kvs k v))):=.inl ⟨kvs,k,e,rfl,hl,rfl⟩
theorem DPut.t{k:List Key}(e:H a=some (.dT kvs))(eb:H b=some (.tup (k.map kV)))(hl:kvs.length<sizeLine):
  DPut H a (.ref b) v (upd H a (.dT (putK kvs k v))):=.inr ⟨kvs,k,b,e,rfl,eb,hl,rfl⟩
section
variable{X:Cx}{pins:List (Addr×Obj)}{σ:St}{H:Hp}{s:Ag}{a:Addr}{y v:V}{u r:Value}{o:Option V}{A:Around}{E:Value->Ag->Prop}
theorem Inv.big(I:Inv X pins σ H s):Dy<s.heap.objs.size:=by
 have h:=(I.mod.glob.keeps I.bk).lt;exact Nat.lt_trans (by decide) h
theorem z5m(hu:A.units+1<cLine)(I:Inv X pins σ H s)(g:DGet H a y (some v))(ry:RelV y u)(h:∀w' s',Inv X pins σ H s'->RelV v w'->Q w' s'):
  wpAny (model X.prog X.w) A (getItem (.ref a) u) Q E s:=by
 rcases g with⟨kvs,k,e,ey,l⟩|⟨kvs,k,b,e,ey,eb,l⟩
 ·subst ey;obtain⟨z,hd,vs,rel,dd⟩:=z5k I.hok e;obtain⟨w',hw,rw'⟩:=RelO.some_of (by rw[l];exact rel.val k);exact wpAny_getItem_of (z0z ry) dd.mapOf hw (h w' _ (I.tok _) rw')
 ·subst ey;cases(show u=Value.ref b from ry);obtain⟨z,hd,xs,rel,dd⟩:=z5l I.hok e;obtain⟨w',hw,rw'⟩:=RelO.some_of (by rw[l];exact rel.val k);obtain⟨p,hp,hp2⟩:=Bm.mp hw;refine wpAny_getItem_heap (He hu) (q9u I.hok eb) dd hp ?_;rw[hp2];exact h w' _ (I.tok _) rw'
theorem d_in(hu:A.units+1<cLine)(I:Inv X pins σ H s)(g:DGet H a y o)(ry:RelV y u)(h:∀s',Inv X pins σ H s'->Q (.bool o.isSome) s'):
  wpAny (model X.prog X.w) A (Ck .In u (.ref a)) Q E s:=by
 rcases g with⟨kvs,k,e,ey,l⟩|⟨kvs,k,b,e,ey,eb,l⟩
 ·subst ey;obtain⟨z,hd,vs,rel,dd⟩:=z5k I.hok e;refine wpAny_in_of (z0z ry) hd dd.mapOf ?_;rw[<- (rel.val k).isSome_eq,<- l];exact h _ (I.tok _)
 ·subst ey;cases(show u=Value.ref b from ry);obtain⟨z,hd,xs,rel,dd⟩:=z5l I.hok e;refine wpAny_in_heap (He hu) (q9u I.hok eb) hd dd ?_;have q:=(rel.val k).isSome_eq;rw[Jz] at q;rw[<- q,<- l];exact h _ (I.tok _)
theorem x1f(hu:A.units+1<cLine)(I:Inv X pins σ H s)(g:DGet H a y o)(ry:RelV y u)(h:∀s',Inv X pins σ H s'->Q (.bool (!o.isSome)) s'):
  wpAny (model X.prog X.w) A (Ck .NotIn u (.ref a)) Q E s:=by
 rcases g with⟨kvs,k,e,ey,l⟩|⟨kvs,k,b,e,ey,eb,l⟩
 ·subst ey;obtain⟨z,hd,vs,rel,dd⟩:=z5k I.hok e;refine wpAny_notIn_of (z0z ry) hd dd.mapOf ?_;rw[<- (rel.val k).isSome_eq,<- l];exact h _ (I.tok _)
 ·subst ey;cases(show u=Value.ref b from ry);obtain⟨z,hd,xs,rel,dd⟩:=z5l I.hok e;refine wpAny_notIn_heap (He hu) (q9u I.hok eb) hd dd ?_;have q:=(rel.val k).isSome_eq;rw[Jz] at q;rw[<- q,<- l];exact h _ (I.tok _)
theorem z1a(I:Inv X pins σ H s)(mu:Mut (H a))(hs:Gv a s.heap h')(he:∃q,h'.get? a=some q)(new:ObjOk X.prog X.w (upd H a ob) h' a ob):
  Inv X pins σ (upd H a ob) { s with heap:=h',toks:=t' } :=
 I.write mu (.inl rfl) (fun b q hb z=>(hs.2 b hb).trans z) he new
theorem z9t(z:kvs.length<=sizeLine)(hd:(a==Dy)=false)(rel:KV kvs vs)(dd:h'.DictOf (mixKind P w) a vs):
  ObjOk P w H' h' a (.dK kvs):=⟨z,hd,vs,rel,dd⟩
theorem z5n(hu:A.units+1<cLine)(I:Inv X pins σ H s)(g:DPut H a y v H')(ry:RelV y u)(rv:RelV v r)(h:∀s',Inv X pins σ H' s'->Q () s'):
  wpAny (model X.prog X.w) A (setItem (.ref a) u r) Q E s:=by
 rcases g with⟨kvs,k,e,ey,l,eH⟩|⟨kvs,k,b,e,ey,eb,l,eH⟩
 ·subst ey eH;obtain⟨z,hd,vs,rel,dd⟩:=dk_of I.hok e;have hz:vs.length<=sizeLine:=by rw[<- rel.length];exact z
  have hl:(putK kvs k v).length<=sizeLine:=by have:=q2n kvs k v;lia
  refine wpAny_setItem_pairs (z0z ry) dd fun h' dd' hs=>h _ ?_;have he:∃q,h'.get? a=some q:=let ⟨q,_,_,hq,_⟩:=dd';⟨q,hq⟩;exact z1a I (by rw[e];exact True.intro) hs he (z9t hl hd (rel.put k rv) dd')
 ·subst ey eH;cases(show u=Value.ref b from ry);obtain⟨z,hd,xs,rel,dd⟩:=dt_of I.hok e;have hz:xs.length<=sizeLine:=by rw[<- Ey rel];exact z
  have hl:(putK kvs k v).length<=sizeLine:=by have:=q2n kvs k v;lia
  refine wpAny_setItem_heap (He hu) (q9u I.hok eb) dd fun h' dd' hs=>h _ ?_;obtain⟨q,es,ep,hq,h2,h3,h4,_,h5⟩:=dd';refine z1a I (by rw[e];exact True.intro) hs ⟨q,hq⟩ ⟨hl,hd,_,(rel.put k eb rv).keeps fun c ys ec=>?_,q,es,ep,hq,h2,h3,h4,h5⟩;rw[q0m (z7k ec e (fun z=>nomatch z))];exact ec
end
def NoSl(i:Expr):Prop:=∀ov iv,Le i false ov iv=operate [ov,iv] (getItem ov iv)
theorem z5o{id:String}(hl:Oj (.type T) "__getitem__" = pure (some (.builtin id)))(hs:NoSl slice)(h:wpAny (model prog w) A (eval value env) (fun o s₁=>wpAny (model prog w) A (eval slice env) (fun i s₂=>s₂.TypeIs o T/\wpAny (model prog w) A (getItem o i) Q E s₂) E s₁) E s):
  wpAny (model prog w) A (eval (.Subscript value slice pos) env) Q E s:=by
 refine Ol (Cg h (fun o s₁ h₁=>Cg h₁ (fun i s₂ h₂=>?_) fun _ _ x=>x) fun _ _ x=>x);obtain⟨hT,h₂⟩:=h₂;refine Ab ?_;refine Ab (wpAny_specialOf hT hl ?_);have fin:wpAny (model prog w) A (Le slice false o i) (fun r s₃=>wpAny (model prog w) A (letTemporaryGo value o r >>= fun _=>pure r) Q E s₃) E s₂:=by
  rw[hs o i];exact wpAny_operating (Cg h₂ (fun r s₃ h₃=>Ab (wpAny_letTemporaryGo (An h₃))) fun _ _ x=>x)
 first
  |exact An (Ab fin)
  |exact Ab (An (Ab fin))
  |exact Ab fin
theorem z1b{σ:St}(I:Inv X pins σ H s)(g:DGet H a y o):s.TypeIs (.ref a) "dict" := by
 rcases g with⟨kvs,k,e,_,_⟩|⟨kvs,k,b,e,_,_,_⟩
 ·obtain⟨_,_,vs,_,dd⟩:=z5k I.hok e;exact dd.typeIs
 ·obtain⟨_,_,xs,_,dd⟩:=z5l I.hok e;exact dd.typeIs
def tDGet(td ty:TE):TE:=fun σ H Q=>td σ H fun x H1=>ty σ H1 fun y H2=>∃a v,x=.ref a/\DGet H2 a y (some v)/\Q v H2
def tDIn(ty td:TE):TE:=fun σ H Q=>ty σ H fun y H1=>td σ H1 fun x H2=>∃a o,x=.ref a/\DGet H2 a y o/\Q (.bl o.isSome) H2
def tDNotIn(ty td:TE):TE:=fun σ H Q=>ty σ H fun y H1=>td σ H1 fun x H2=>∃a o,x=.ref a/\DGet H2 a y o/\Q (.bl (!o.isSome)) H2
def sDPut(td ty tv:TE):TS:=fun D σ H=>tv σ H fun v H1=>td σ H1 fun x H2=>ty σ H2 fun y H3=>∃a H4,x=.ref a/\DPut H3 a y v H4/\D.nx σ H4
section
variable{X:Cx}{o i e value:Expr}{pos pos' tpos:Pos}{td ty tv:TE}
theorem x1g(hu:X.A.units+1<cLine)(ho:PE X o td)(hi:PE X i ty)(hs:NoSl i):PE X (.Subscript o i pos) (tDGet td ty):=by
 intro pins s σ H Q I h;refine z5o Ke.lookup hs (thn (ho pins s σ H _ I h) fun u s1 ⟨x,H1,I1,rx,q1⟩=>thn (hi pins s1 σ H1 _ I1 q1) fun iv s2 ⟨y,H2,I2,ry,a,v,ex,g,q2⟩=>?_);subst ex;obtain rfl:u=Value.ref a:=rx;exact⟨z1b I2 g,z5m hu I2 g ry fun w' s3 I3 rw'=>⟨v,H2,I3,rw',q2⟩⟩
theorem pc_din(hu:X.A.units+1<cLine)(hi:PE X i ty)(ho:PE X o td):PC X .In i o (tDIn ty td):=by
 intro pins s σ H Q I h;refine thn (hi pins s σ H _ I h) fun iv s1 ⟨y,H1,I1,ry,q1⟩=>thn (ho pins s1 σ H1 _ I1 q1) fun u s2 ⟨x,H2,I2,rx,a,ov,ex,g,q2⟩=>?_;subst ex;obtain rfl:u=Value.ref a:=rx;exact d_in hu I2 g ry fun s3 I3=>⟨.bl ov.isSome,H2,I3,rfl,q2⟩
theorem z5p(hu:X.A.units+1<cLine)(hi:PE X i ty)(ho:PE X o td):PC X .NotIn i o (tDNotIn ty td):=by
 intro pins s σ H Q I h;refine thn (hi pins s σ H _ I h) fun iv s1 ⟨y,H1,I1,ry,q1⟩=>thn (ho pins s1 σ H1 _ I1 q1) fun u s2 ⟨x,H2,I2,rx,a,ov,ex,g,q2⟩=>?_;subst ex;obtain rfl:u=Value.ref a:=rx;exact x1f hu I2 g ry fun s3 I3=>⟨.bl (!ov.isSome),H2,I3,rfl,q2⟩
theorem q7q(hu:X.A.units+1<cLine)(ho:PE X o td)(hi:PE X i ty)(hv:PE X value tv)(hs:My value (some (.Subscript o i pos')) pos.line X.env=pure false):
  PS X (.Assign [.Subscript o i pos'] value pos) (sDPut td ty tv):=by
 intro pins s σ H D I h;refine wpAny_Assign_Subscript (thn (hv pins s σ H _ I h) fun r s1 ⟨v,H1,I1,rv,q1⟩=>thn (ho pins s1 σ H1 _ I1 q1) fun u s2 ⟨x,H2,I2,rx,q2⟩=>thn (hi pins s2 σ H2 _ I2 q2) fun iv s3 ⟨y,H3,I3,ry,a,H4,ex,g,q3⟩=>?_) hs;subst ex;obtain rfl:u=Value.ref a:=rx;exact z5n hu I3 g ry rv fun s4 I4=>⟨σ,H4,I4,q3⟩
end
theorem z2g(h:Heap)(hb:Dy<h.objs.size):ObjOk P w H (h.push { cls:=.type "dict",data:=.dict #[] }) h.objs.size (.dK []) :=
 ⟨Au _,beq_eq_false_iff_ne.mpr (Gk (Ce hb)),[],.nil,Heap.DictOf.new h⟩
def tDNewK:TE:=fun _ H Q=>∀p,H p=none->Q (.ref p) (upd H p (.dK []))
section
variable{X:Cx}{pos:Pos}
theorem z2h:PE X (.Dict [] [] pos) tDNewK:=fun pins s σ H Q I h =>
 wpAny_Dict_empty ⟨.ref s.heap.objs.size,_,I.laid (t':=s.toks) (fun _ _ q=>Ak _ q) (Af _) (z2g s.heap I.big),rfl,h _ (I.hok.fresh (Af _))⟩
end
def tPairs:List (TE×TE)->St->Hp->(List (V×V)->Hp->Prop)->Prop
 |[],_,H,Q=>Q [] H
 |(tk,tv)::r,σ,H,Q=>tk σ H fun x H1=>tv σ H1 fun y H2=>tPairs r σ H2 fun ps H3=>Q ((x,y)::ps) H3
abbrev VV:List (V×V)->List (Value×Value)->Prop:=Eu fun p q=>RelV p.1 q.1/\RelV p.2 q.2
def PPs(X:Cx)(pos:Pos)(keys:List (Option Expr))(values:List Expr)(trs:List (TE×TE)):Prop :=
 ∀(pins:List (Addr×Obj)) (s:Ag) (σ:St) (H:Hp) (Q:List (V×V)->Hp->Prop),Inv X pins σ H s->tPairs trs σ H Q ->
  wpAny (model X.prog X.w) X.A (evalPairs (pairTrees keys values X.env pos)) (fun vs s'=>∃ps H',Inv X pins σ H' s'/\VV ps vs/\Q ps H') X.xe s
theorem x1h:PPs X pos [] [] []:=fun pins s σ H Q I h=>pairTrees_nil_walk ⟨[],H,I,.nil,h⟩
theorem z8e{X:Cx}{pos:Pos}{k v:Expr}{ks:List (Option Expr)}{vs:List Expr}{tk tv:TE}{trs:List (TE×TE)}(hk:PE X k tk)(hv:PE X v tv)(hr:PPs X pos ks vs trs):
  PPs X pos (some k::ks) (v::vs) ((tk,tv)::trs):=fun pins s σ H Q I h =>
 pairTrees_cons_walk (thn (hk pins s σ H _ I h) fun u s1 ⟨x,H1,I1,rx,q1⟩=>thn (hv pins s1 σ H1 _ I1 q1) fun w2 s2 ⟨y,H2,I2,ry,q2⟩ =>
  thn (hr pins s2 σ H2 _ I2 q2) fun ws s3 ⟨ps,H3,I3,rel,q3⟩=>⟨(x,y)::ps,H3,I3,.cons ⟨rx,ry⟩ rel,q3⟩)
def mergeK(kvs more:List (Key×V)):List (Key×V):=more.foldl (fun acc kv=>putK acc kv.1 kv.2) kvs
theorem KV.merge:∀{more:List (Key×V)} {rs:List (Key×Value)} {kvs:List (Key×V)} {vs:List (Key×Value)},KV more rs->KV kvs vs->KV (mergeK kvs more) (merged vs rs):=by
 intro more rs kvs vs r;induction r generalizing kvs vs with
 |nil=>intro q;exact q
 | @cons p q ps qs h t ih =>
  intro r0;have e:KV (putK kvs p.1 p.2) (stored vs q.1 q.2):=by
   have:=r0.put p.1 h.2;rw[<- h.1];exact this
  exact ih e
theorem q4c:∀(more kvs:List (Key×V)),(mergeK kvs more).length<=kvs.length+more.length
 |[],kvs=>by show kvs.length<=kvs.length+0;lia
 |p::r,kvs=>by
  have h1:=q4c r (putK kvs p.1 p.2);have h2:=q2n kvs p.1 p.2;show(mergeK (putK kvs p.1 p.2) r).length<=_;rw[Ar];lia
theorem q6t:∀{kvs:List (Key×V)} {ws:List (Value×Value)},VV (kvs.map fun kv=>(kV kv.1,kv.2)) ws->∃rs,Carries (mixKind P w) ws rs/\KV kvs rs
 |[],_,r=>by rw[Kn] at r;cases r;exact⟨[],True.intro,.nil⟩
 |p::kvs,_,r=>by
  rw[Ay] at r;cases r with
  | @cons a b as bs h t =>
   obtain⟨rs,c,q⟩:=q6t (P:=P) (w:=w) t;obtain⟨b1,b2⟩:=b;exact⟨(p.1,b2)::rs,⟨z0z h.1,rfl,c⟩,.cons ⟨rfl,h.2⟩ q⟩
def tDisp(trs:List (TE×TE)):TE:=fun σ H Q=>∀p,H p=none->tPairs trs σ (upd H p (.dK [])) fun ps H2=>H2 p=some (.dK [])/\∃kvs:List (Key×V),ps=kvs.map (fun kv=>(kV kv.1,kv.2))/\kvs.length<=15/\Q (.ref p) (upd H2 p (.dK (mergeK [] kvs)))
theorem x1i{X:Cx}{pos:Pos}{keys:List (Option Expr)}{values:List Expr}{trs:List (TE×TE)}(h:PPs X pos keys values trs)(hall:keys.all (·.isSome)=true)(hl:keys.length=values.length)(h0:keys≠[])(h15:keys.length<=15):PE X (.Dict keys values pos) (tDisp trs):=by
 intro pins s σ H Q I q;have hn:=I.hok.fresh (Af s.heap.objs.size);have I1:=I.laid (h':=s.heap.push { cls:=.type "dict",data:=.dict #[] }) (t':=s.toks) (fun _ _ q=>Ak _ q) (Af _) (z2g s.heap I.big);refine wpAny_Dict_walk (knd:=mixKind X.prog X.w) hall hl h0 h15 (thn (h pins _ σ _ _ I1 (q _ hn)) fun ws s2 ⟨ps,H2,I2,rel,e,kvs,ep,lk,q2⟩=>?_);subst ep;obtain⟨rs,c,rk⟩:=q6t rel;obtain⟨z,hd,vs0,r0,dd⟩:=dk_of I2.hok e;cases r0;refine⟨rs,c,dd,fun h' dd' hs=>⟨.ref s.heap.objs.size,_,?_,rfl,q2⟩⟩;have hz:(mergeK [] kvs).length<=sizeLine:=by
  have h1:=q4c kvs [];rw[Gs] at h1;rw[Fj];lia
 have he:∃q,h'.get? s.heap.objs.size=some q:=let ⟨q,_,_,hq,_⟩:=dd';⟨q,hq⟩;exact z1a I2 (by rw[e];exact True.intro) hs he (z9t hz hd (rk.merge .nil) dd')
end L2
namespace K
open PySem L2 TX
def FIs:Str:=Aa "0123456789"
def LEs:Str:=Aa "abcdefghijklmnopqrstuvwxyzABCDEFGHIJKLMNOPQRSTUVWXYZ"
abbrev FI:List Nat:=tl FIs
abbrev LE:List Nat:=tl LEs
def allOf(t s:List Nat):Bool:=decide (t≠[])&&t.all fun c=>decide (c∈s)
def gapTakes(c:Nat)(t:List Nat):Bool:=if c=63 then decide (t.length=1) else if c=35 then allOf t FI else if c=64 then allOf t LE else true
def Pt.takes:Pt->List Nat->Bool
 |.tx l,t=>decide (t=l)
 |.gp c,t=>gapTakes c t
def cut(n:List Nat)(b e:Nat):List Nat:=(n.drop b).take (e-b)
def farTo(p:Pt)(n:List Nat)(L:Nat->Bool)(b k:Nat):Option Nat:=((List.range' b k).filter fun e=>L e&&p.takes (cut n b e)).getLast?
def far(p:Pt)(n:List Nat)(L:Nat->Bool)(b:Nat):Option Nat:=if b<=n.length then farTo p n L b (n.length+1-b) else none
def fits(n:List Nat):List Pt->Nat->Bool
 |[],b=>decide (b=n.length)
 |p::ps,b=>(far p n (fits n ps) b).isSome
def rd(n:List Nat):List Pt->Nat->List (List Nat)
 |[],_=>[]
 |p::ps,b=>(if p.isG then[cut n b ((far p n (fits n ps) b).getD 0)] else[])++rd n ps ((far p n (fits n ps) b).getD 0)
theorem q6u(p:Pt)(n:List Nat)(L:Nat->Bool)(b k:Nat):farTo p n L b (k+1)=if (L (b+k)&&p.takes (cut n b (b+k)))=true then some (b+k) else farTo p n L b k:=by
 unfold farTo;rw[List.range'_concat,Fh];by_cases h:(L (b+k)&&p.takes (cut n b (b+k)))=true
 ·simp_all
 ·simp_all
theorem z3v(p:Pt)(n:List Nat)(L:Nat->Bool)(b:Nat):farTo p n L b 0=none:=rfl
theorem q6v:∀{k:Nat} {p:Pt} {n:List Nat} {L:Nat->Bool} {b e:Nat},farTo p n L b k=some e->b<=e/\e<b+k/\L e=true/\p.takes (cut n b e)=true/\∀e',e<e'->e'<b+k->(L e'&&p.takes (cut n b e'))=false
 |0,p,n,L,b,e,h=>by rw[z3v] at h;cases h
 |k+1,p,n,L,b,e,h=>by
  rw[q6u] at h;by_cases c:(L (b+k)&&p.takes (cut n b (b+k)))=true
  ·rw[if_pos c] at h;cases h;rw[Fy] at c;exact⟨by lia,by lia,c.1,c.2,fun e' h1 h2=>absurd h2 (by lia)⟩
  ·rw[if_neg c] at h;obtain⟨a1,a2,a3,a4,a5⟩:=q6v h;refine⟨a1,by lia,a3,a4,fun e' h1 h2=>?_⟩;by_cases z:e'=b+k
   ·grind
   ·grind
theorem z2i(h:far p n L b=some e):b<=e/\e<=n.length/\L e=true/\p.takes (cut n b e)=true/\∀e',e<e'->e'<=n.length->(L e'&&p.takes (cut n b e'))=false:=by
 unfold far at h;by_cases hb:b<=n.length
 ·rw[if_pos hb] at h;obtain⟨a1,a2,a3,a4,a5⟩:=q6v h;exact⟨a1,by lia,a3,a4,fun e' h1 h2=>a5 e' h1 (by lia)⟩
 ·grind
def gsOf:List Pt->List Nat
 |[]=>[]
 |.gp c::ps=>c::gsOf ps
 |.tx _::ps=>gsOf ps
def glue:List Pt->List (List Nat)->List Nat
 |[],_=>[]
 |.tx l::ps,ts=>l++glue ps ts
 |.gp _::ps,[]=>glue ps []
 |.gp _::ps,t::ts=>t++glue ps ts
theorem z2j(h:b<=e):cut n b e++n.drop e=n.drop b:=by
 unfold cut;have:n.drop e=(n.drop b).drop (e-b):=by simp_all
 rw[this,Fs]
theorem z9u(n:List Nat):∀(ps:List Pt) (b:Nat),fits n ps b=true->(rd n ps b).length=(gsOf ps).length/\(∀(i c:Nat) (t:List Nat),(gsOf ps)[i]?=some c->(rd n ps b)[i]?=some t->gapTakes c t=true)/\glue ps (rd n ps b)=n.drop b/\∀t∈rd n ps b,t.length<=n.length
 |[],b,h=>by
  have hb:b=n.length:=of_decide_eq_true h;refine⟨rfl,fun i c t h=>by simp[gsOf] at h,?_,fun t ht=>by simp[rd] at ht⟩;subst hb;simp[glue]
 |p::ps,b,h=>by
  have h':(far p n (fits n ps) b).isSome=true:=h;cases hf:far p n (fits n ps) b with
  |none=>grind
  |some e =>
   obtain⟨a1,a2,a3,a4,_⟩:=z2i hf;obtain⟨i1,i2,i3,i4⟩:=z9u n ps e a3;cases p with
   |tx l =>
    have e1:rd n (.tx l::ps) b=rd n ps e:=by simp[rd,Pt.isG,hf]
    have e2:=of_decide_eq_true a4;rw[e1];refine⟨i1,i2,?_,i4⟩;show l++glue ps (rd n ps e)=_;rw[i3,<- e2,z2j a1]
   |gp c =>
    have e1:rd n (.gp c::ps) b=cut n b e::rd n ps e:=by simp[rd,Pt.isG,hf]
    rw[e1];refine⟨by simp[gsOf,i1],fun i d t h1 h2=>?_,?_,fun t ht=>?_⟩
    ·cases i with
     |zero =>
      simp[gsOf] at h1 h2;subst h1 h2;exact a4
     |succ i=>exact i2 i d t (by simpa[gsOf] using h1) (by simpa using h2)
    ·show cut n b e++glue ps (rd n ps e)=_;rw[i3,z2j a1]
    ·rcases Am.mp ht with rfl|ht
     ·unfold cut;rw[Bv,Bk];lia
     ·exact i4 t ht
theorem allOf_iff:allOf t s=true↔t≠[]/\∀c∈t,c∈s:=by
 unfold allOf;simp
theorem q4d:∀(l cur:List Nat),(∀c∈cur,c∈NS)->(∀c∈l,c∈GS\/c∈NS)->∀p∈parse cur l,p.ok
 |[],cur,h1,_=>fun p hp=>by
  have hp':p∈tp cur:=hp;unfold tp at hp';split at hp'
  ·cases hp'
  ·rename_i hne;rw[Al.mp hp'];exact⟨hne,h1⟩
 |c::r,cur,h1,h2=>fun p hp=>by
  have e:parse cur (c::r)=if c∈GS then tp cur++.gp c::parse [] r else parse (cur++[c]) r:=rfl
  rw[e] at hp;have h3:=fun d hd=>h2 d (Ah _ hd);split at hp
  ·rename_i hc;rcases Aw.mp hp with z|z
   ·unfold tp at z;split at z
    ·cases z
    ·rename_i hne;rw[Al.mp z];exact⟨hne,h1⟩
   ·rcases Am.mp z with rfl|z
    ·exact hc
    ·exact q4d r [] (fun _ h=>nomatch h) h3 p z
  ·rename_i hc;refine q4d r (cur++[c]) (fun d hd=>?_) h3 p hp;rcases Aw.mp hd with z|z
   ·exact h1 d z
   ·grind
theorem z9v:∀(l cur:List Nat),(cur≠[]\/l≠[])->parse cur l≠[]
 |[],cur,h=>by
  have h1:cur≠[]:=h.resolve_right (fun z=>z rfl);show tp cur≠[];unfold tp;rw[if_neg h1];simp
 |c::r,cur,h=>by
  have e:parse cur (c::r)=if c∈GS then tp cur++.gp c::parse [] r else parse (cur++[c]) r:=rfl
  rw[e];split
  ·simp
  ·exact z9v r _ (.inl (by simp))
theorem q5t:∀(l cur:List Nat),(parse cur l).length<=2*l.length+1
 |[],cur=>by show(tp cur).length<=_;unfold tp;split<;>simp
 |c::r,cur=>by
  have e:parse cur (c::r)=if c∈GS then tp cur++.gp c::parse [] r else parse (cur++[c]) r:=rfl
  rw[e];have h0:(tp cur).length<=1:=by unfold tp;split<;>simp
  split
  ·have:=q5t r [];rw[Ac,Ar,Ar];lia
  ·have:=q5t r (cur++[c]);rw[Ar];lia
structure DF (H:Hp) (a:Addr) (f:Nat->Option Nat):Prop where
 ex:∃kvs:List (Key×V),H a=some (.dK kvs)/\kvs.length<=5000/\∀b:Nat,valV kvs (Sum.inl (b:Int))=(f b).map fun e=>V.int (e:Nat)
theorem DF.same(h:DF H a f)(sm:Same H H'):DF H' a f:=let ⟨kvs,h1,h2,h3⟩:=h.ex;⟨kvs,sm _ _ h1,h2,h3⟩
theorem DF.get(h:DF H a f)(b:Nat):DGet H a (.int (b:Int)) ((f b).map fun e=>V.int (e:Nat)):=by
 obtain⟨kvs,h1,h2,h3⟩:=h.ex;have:=DGet.k (k:=Sum.inl (b:Int)) h1;rw[h3] at this;exact this
theorem DF.new(h:DF H a f)(hb:H b=none):DF (upd H b o) a f:=h.same ((Same.refl H).new hb)
theorem key_inj{i j:Nat}:((Sum.inl (i:Int):Key)=Sum.inl (j:Int))↔i=j:=by grind
inductive DS (H:Hp) (n:List Nat):List Addr->List Pt->Prop
 |nil:DS H n [] []
 |cons {d:Addr} {p:Pt} {ds:List Addr} {ps:List Pt}:DF H d (far p n (fits n ps))->DS H n ds ps->DS H n (d::ds) (p::ps)
theorem DS.same(h:DS H n ds ps)(sm:Same H H'):DS H' n ds ps:=by
 induction h with
 |nil=>exact .nil
 |cons a _ ih=>exact .cons (a.same sm) ih
theorem DS.keepL(h:DS H n ds ps)(k:∀b kvs,H b=some (.dK kvs)->H' b=some (.dK kvs)):DS H' n ds ps:=by
 induction h with
 |nil=>exact .nil
 |cons a _ ih=>obtain⟨kvs,a1,a2,a3⟩:=a.ex;exact .cons ⟨kvs,k _ _ a1,a2,a3⟩ ih
theorem DS.len(h:DS H n ds ps):ds.length=ps.length:=by
 induction h with
 |nil=>rfl
 |cons _ _ ih=>simp[ih]
theorem DS.get(h:DS H n ds ps):∀{i:Nat} {d:Addr},ds[i]?=some d->∃p,ps[i]?=some p/\DF H d (far p n (fits n (ps.drop (i+1)))):=by
 induction h with
 |nil=>simp_all
 | @cons d0 p ds ps a _ ih =>
  intro i d h;cases i with
  |zero=>simp_all
  |succ i =>simp_all
theorem z9w{kvs:List (Key×V)}{b e:Nat}{f:Nat->Option Nat}(h:∀c:Nat,valV kvs (Sum.inl (c:Int))=(f c).map fun e=>V.int (e:Nat))(c:Nat):
  valV (putK kvs (Sum.inl (b:Int)) (.int (e:Int))) (Sum.inl (c:Int))=((fun c=>if c=b then some e else f c) c).map fun e=>V.int (e:Nat):=by
 rw[z8d];by_cases z:c=b
 ·grind
 ·rw[if_neg (fun h=>z (key_inj.mp h)),h];show _=Option.map _ (if c=b then _ else _);rw[if_neg z]
abbrev vN(ns:List (List Nat)):List V:=ns.map fun n=>V.str (mk n)
theorem q0o(l:List Nat):(mk l).length=l.length:=by rw[len,q0v]
theorem mk_inj:mk a=mk b↔a=b:=by grind
theorem dec_str(a b:List Nat):decide (V.str (mk a)=V.str (mk b))=decide (a=b):=by simp_all
theorem q4e{α:Type}{l:List α}{x:α}(h:l[i]?=some x):l.drop i=x::l.drop (i+1):=by
 have hi:=(Aj.mp h).1;rw[Gu hi];congr 1;exact(Aj.mp h).2
end K
namespace PySem.Rv
open Sem (wp)
namespace F
theorem q4s:mroOf (.type "reversed")=pure [.type "reversed",.type "object"]:=by rw[mroOf_type];kernel_rfl
theorem q3s:Oj (.type "reversed") "__new__" = pure (some (.builtin "reversed.__new__")):=by rw[Iq,Ft];kernel_rfl
theorem q4f:Slot "reversed" "__init__" "object.__init__" :=
 .of (owner := "object") (n := "__init__") (by rw[Iq,Ft];kernel_rfl) (by decide +kernel) (by decide +kernel) (by decide +kernel)
  (by first|exact .inl (by rw[Gj];kernel_rfl)|exact .inr (by rw[Gj];kernel_rfl)) (by rw[Fu];kernel_rfl)
theorem called_reversed:TypeCalled "reversed" "reversed.__new__" "object.__init__" :=
 ⟨by decide +kernel,by decide +kernel,⟨_,_,q4s⟩,madeBy_type q4s q3s (by decide +kernel),by decide +kernel,by rw[Fu];kernel_rfl,q4f⟩
theorem typeCall_reversed_1(a:Value):checkTypeCall "reversed" ⟨[a],[]⟩=pure ():=by kernel_rfl
theorem newCall_reversed_1(a:Value):Hu "reversed.__new__" ⟨[.type "reversed",a],[]⟩=pure ():=by kernel_rfl
theorem entry_reversed_new:Od table "reversed.__new__" = some Ee.«reversed.__new__» := entryFor_of_tree (by kernel_rfl)
theorem slot_lrev_next:Slot "list_reverseiterator" "__next__" "list_reverseiterator.__next__" :=
 .of (owner := "list_reverseiterator") (n := "__next__") (by rw[Iq,Ft];kernel_rfl) (by decide +kernel) (by decide +kernel) (by decide +kernel)
  (by first|exact .inl (by rw[Gj];kernel_rfl)|exact .inr (by rw[Gj];kernel_rfl)) (by rw[Fu];kernel_rfl)
theorem entry_lrev_next:Od table "list_reverseiterator.__next__" = some Ee.«list_reverseiterator.__next__» := entryFor_of_tree (by kernel_rfl)
theorem slot_lrev_iter:Slot "list_reverseiterator" "__iter__" "list_reverseiterator.__iter__" :=
 .of (owner := "list_reverseiterator") (n := "__iter__") (by rw[Iq,Ft];kernel_rfl) (by decide +kernel) (by decide +kernel) (by decide +kernel)
  (by first|exact .inl (by rw[Gj];kernel_rfl)|exact .inr (by rw[Gj];kernel_rfl)) (by rw[Fu];kernel_rfl)
theorem entry_lrev_iter:Od table "list_reverseiterator.__iter__" = some Ee.«dict_keyiterator.__iter__» :=
 entryFor_alias (id' := "dict_keyiterator.__iter__") (by kernel_rfl) (by first|rfl|decide +kernel|(unfold String.splitOn;simp +decide [String.splitOnAux])) (by decide +kernel) (by kernel_rfl)
theorem q6w:Manifest.owners.lookup (String.ofList ['r', 'o', 't', 'a', 'r', 'e', 't', 'i', 'e', 's', 'r', 'e', 'v', 'e', 'r', '_', 't', 's', 'i', 'l'].reverse)=some Manifest.sig_list_reverseiterator:=by kernel_rfl
theorem args_lrev_next_1(a:Value):argsOk "list_reverseiterator.__next__" ⟨[a],[]⟩:=by
 unfold argsOk;rw[signature?_of (n:=['_', '_', 't', 'x', 'e', 'n', '_', '_']) (by kernel_rfl) q6w];kernel_rfl
theorem args_lrev_iter_1(a:Value):argsOk "list_reverseiterator.__iter__" ⟨[a],[]⟩:=by
 unfold argsOk;rw[signature?_of (n:=['_', '_', 'r', 'e', 't', 'i', '_', '_']) (by kernel_rfl) q6w];kernel_rfl
theorem sub_reversed:isSubtype (.type "reversed") (.type "reversed")=pure true:=by rw[Fu];kernel_rfl
theorem sub_lrev:isSubtype (.type "list_reverseiterator") (.type "reversed")=pure false:=by rw[Fu];kernel_rfl
end F
open Sem (wp)
def IsRevIter(h:Heap)(it l:Addr)(k:Int):Prop:=∃o,h.get? it=some o/\o.cls=.type "list_reverseiterator" /\ o.data=.fields #[.ref l,.int k 0]
section
variable{prog:Program}{w:World}{A:Around}{E:Value->Ag->Prop}{s:Ag}
theorem wpAny_pyNext_rev_item{k:Nat}{items}(hit:IsRevIter s.heap it l k)(hl:s.heap.IsList l items)(hx:items[k]?=some x)(hQ:∀h',IsRevIter h' it l ((k:Int)-1)->Gv it s.heap h'->Q (some x) { s with heap:=h' }):wpAny (model prog w) A (Ig (.ref it)) Q E s:=by
 obtain⟨o,ho,hc,hd⟩:=id hit;obtain⟨ol,hol,_,nl,hdl⟩:=hl;have hT:s.TypeIs (.ref it) "list_reverseiterator" := ⟨o,ho,hc⟩
 refine Ab (Gi (Cu hT F.slot_lrev_next
  (Dk F.slot_lrev_next hT F.entry_lrev_next ?_ (F.args_lrev_next_1 _))))
 show wpAny _ _ (field (.ref it) 1 >>= _) _ _ s;refine Ab (Ci ho hd rfl ?_);refine Ab (Ci ho hd rfl ?_);refine Ab (Es hol hdl ?_);simp only[Int.toNat_natCast,hx];refine Ab (wpAny_setField ho hd (by simp) (An ⟨x,rfl,An (hQ _ ?_ (Gv.update ..))⟩));exact⟨_,Lq _ ho (Obj.isFreed_of_fields (Nf hd _)),(Obj.cls_mapFields ..).trans hc,by
  rw[Nf hd];simp[Jk]⟩
theorem wpAny_pyNext_rev_end(hh:A.handled=none)(hit:IsRevIter s.heap it l k)(hk:k<0)(hQ:∀h',Heap.ExtBut it s.heap h'->Q none { s with heap:=h' }):wpAny (model prog w) A (Ig (.ref it)) Q E s:=by
 obtain⟨o,ho,hc,hd⟩:=id hit;have hT:s.TypeIs (.ref it) "list_reverseiterator" := ⟨o,ho,hc⟩
 refine Ab (Gi (Cu hT F.slot_lrev_next
  (Dk F.slot_lrev_next hT F.entry_lrev_next ?_ (F.args_lrev_next_1 _))))
 show wpAny _ _ (field (.ref it) 1 >>= _) _ _ s;refine Ab (Ci ho hd rfl ?_);show wpAny _ _ (if (k<0) then _ else _) _ _ s;rw[if_pos hk];refine Ab (Il (Ab ?_));refine Ab ?_;refine Ab (Dm ?_ (by size_fits));refine Ab (Hr (by first|rfl|(simp only[firstArgMember];rfl)) ?_);refine Dm ?_ (by size_fits);refine Ab (wpAny_handled ?_);rw[show A.in1.handled=none from hh];refine Ab (An (wpAny_throw ?_));refine Ab (Km ⟨_,Bc _ rfl,rfl⟩ Lr ?_);exact An (hQ _ (fun b o _ e=>Ak _ (Ak _ e)))
theorem wpAny_pyIter_rev(hit:IsRevIter s.heap it l k)(h:Q (.ref it) s):wpAny (model prog w) A (Hn (.ref it)) Q E s:=by
 obtain⟨o,ho,hc,hd⟩:=id hit;have hT:s.TypeIs (.ref it) "list_reverseiterator" := ⟨o,ho,hc⟩
 refine wpAny_pyIter_slot hT F.slot_lrev_iter (Dk F.slot_lrev_iter hT F.entry_lrev_iter ?_ (F.args_lrev_iter_1 _));exact An ⟨_,rfl, "list_reverseiterator",_,hT,F.slot_lrev_next.lookup,h⟩
theorem q3t(l:Addr)(items:Array Value)(n:Nat):
  Meets (Ee.«reversed.__new__» ⟨[.type "reversed",.ref l],[]⟩) (fun _ R s=>s.heap.get? l=some { cls:=.type "list",dict:=none,data:=.seq items n,slots:=#[] } /\
   R (.ok (.ret (.ref s.heap.objs.size))) { s with heap:=s.heap.push { cls:=.type "list_reverseiterator",data:=.fields #[.ref l,Jk (((items.size:Nat):Int)-1)] } }) :=
 .of_wp fun prog w A R s h=>by
  obtain⟨hp,g,d,tk,os⟩:=s;obtain⟨hl,h⟩:=h;have hT:Ag.TypeIs ⟨hp,g,d,tk,os⟩ (.ref l) "list" := ⟨_,hl,rfl⟩
  wp_walk
  refine Hr F.sub_reversed ?_
  wp_walk
  refine Hr Gd.lookup ?_
  wp_walk
  refine Hr (Gd.bind (Value.ref l)) ?_
  wp_walk
  have key:Fb (model prog w) A.in1 (Code.call (.builtin "list.__reversed__") ⟨[.ref l],[]⟩) (fun r s'=>r=.ok (.ret (.ref hp.objs.size))/\s'=(⟨hp.push { cls:=.type "list_reverseiterator",data:=.fields #[.ref l,Jk (((items.size:Nat):Int)-1)] },g,d,tk,os⟩:Ag)) ⟨hp,g,d,tk,os⟩ :=
   Ir Gd.plain F.entry_list_reversed (Gd.check _ _ _ _ _ _ _ _ hT (F.args_list_reversed_1 _) (AutoListH.list___reversed___list_0 l items n prog w A.in1 (fun r s'=>r=.ok (.ret (.ref hp.objs.size))/\s'=(⟨hp.push { cls:=.type "list_reverseiterator",data:=.fields #[.ref l,Jk (((items.size:Nat):Int)-1)] },g,d,tk,os⟩:Ag)) ⟨hp,g,d,tk,os⟩ ⟨hl,rfl,rfl⟩))
  refine Gx key fun r s' hr=>?_;obtain⟨rfl,rfl⟩:=hr;exact An ⟨_,rfl,h⟩
theorem q6m(ft:TypeCalled T newId initId)(hsubU:isSubtype (.type U) (.type T)=pure false)(hct:checkTypeCall T ⟨args,[]⟩=pure ())(hcn:Hu newId ⟨.type T::args,[]⟩=pure ())(entryN:Od table newId=some Bn)(g:Meets (Bn ⟨.type T::args,[]⟩) S)(h:S A.in1 (wants (fun obj s₁=>s₁.TypeIs obj U/\Q obj s₁) E) s):wpAny (model prog w) A (call (.type T) args) Q E s:=by
 obtain⟨c,tl,hmro⟩:=ft.mro;have hmade:=ft.made;refine Oi (codeAny_of_tree ?_);refine An ⟨Code.quiet_builtin _ (by decide +kernel),codeAny_builtin F.entry_type_call ?_⟩;have h1:=ft.notType;have h2:=ft.canCreate;repeat (any_goals (first|assumption|wp_step))
 refine Gx (Ir ft.plain entryN (Hr hcn (g prog w A.in1 _ s h))) fun r s₁ hr=>?_;cases r with
 |error e=>exact hr
 |ok fl =>
  cases fl with
  |ret obj =>
   obtain⟨hT,hq⟩:=hr;repeat (any_goals (first|assumption|wp_step))
  |_=>exact hr.elim
theorem call_reversed_list(hl:s.heap.get? l=some { cls:=.type "list",dict:=none,data:=.seq items n,slots:=#[] })(h:Q (.ref s.heap.objs.size) { s with heap:=s.heap.push { cls:=.type "list_reverseiterator",data:=.fields #[.ref l,Jk (((items.size:Nat):Int)-1)] } }):
  wpAny (model prog w) A (call (.type "reversed") [.ref l]) Q E s :=
 q6m F.called_reversed F.sub_lrev (F.typeCall_reversed_1 _) (F.newCall_reversed_1 _) F.entry_reversed_new (q3t l items n) ⟨hl,⟨_,Bc _ rfl,rfl⟩,h⟩
end
end PySem.Rv
namespace L2
open PySem PySem.Spec PyProof.Rows
def Itv(K:Ae)(a:Addr)(n:Nat):It :=
 ⟨fun i H=>∃xs x,SqL K H a xs/\xs.length=n/\xs.reverse[i]?=some x,fun i H x H'=>H'=H/\∀xs,SqL K H a xs->xs.reverse[i]?=some x,fun i _=>n<=i⟩
theorem z3w(x:PySem.Rv.IsRevIter h it l k)(e:∀o,h.get? it=some o->h'.get? it=some o):PySem.Rv.IsRevIter h' it l k:=let ⟨o,ho,r⟩:=x;⟨o,e _ ho,r⟩
theorem z8f{K:Ae}(a it:Addr)(n:Nat):Turn P w K tg (Itv K a n) [it] it (fun i h=>PySem.Rv.IsRevIter h it a ((n:Int)-1-i)) where
 mem:=by simp
 obj:=fun i h st b hb=>by
  have e:b=it:=by grind
  subst e;obtain⟨o,e,c,d⟩:=st;exact⟨o,e,fun v z=>by rw[d] at z;cases z⟩
 keep:=fun i h h' st k=>z3w st fun o e=>k it (by simp) o e
 item:=by
  intro X hP hw hK hc i pins s σ H E I hf st hg;subst hP hw hK;obtain⟨xs,x,hq,hn,hx⟩:=hg;obtain⟨its,rv,p,hz⟩:=I.list hq;have hi:i<xs.length:=by have:=(Aj.mp hx).1;simpa using this
  have hx':xs[xs.length-1-i]?=some x:=by grind
  obtain⟨u,hu,ru⟩:=rv.get hx';obtain⟨f0,f1,f2,f3,f4,f5⟩:=hf it (by simp);have est:((n:Int)-1-(i:Int))=((xs.length-1-i:Nat):Int):=by lia
  have st1:PySem.Rv.IsRevIter s.heap it a ((xs.length-1-i:Nat):Int):=by simp_all
  refine PySem.Rv.wpAny_pyNext_rev_item st1 p.isList (by simpa using hu) fun h' st' sb=>?_;have I1:Inv X pins σ H { s with heap:=h' }:=I.turned (t':=s.toks) (fun b o hb e=>(sb.2 b hb).trans e) f0 f1 f3 f4 f5;obtain⟨o,e,c,d⟩:=id st';refine⟨u,rfl,z3f e c d (by decide) ⟨x,H,I1,ru,⟨rfl,fun ys hy=>by rw[I.list_inj hy hq];exact hx⟩,?_,fun b hb=>(hf b hb).1⟩⟩;have e2:((n:Int)-1-((i+1:Nat):Int))=((xs.length-1-i:Nat):Int)-1:=by lia
  rw[e2];exact st'
 done:=by
  intro X hP hw hK hc i pins s σ H E I hf st hg;obtain⟨f0,f1,f2,f3,f4,f5⟩:=hf it (by simp);have hle:n<=i:=hg;exact PySem.Rv.wpAny_pyNext_rev_end (I.ok.hd hc) st (by lia) fun h' eb=>⟨rfl,I.turned (t':=s.toks) (fun b o hb e=>eb b o hb e) f0 f1 f3 f4 f5⟩
 self:=fun _ _ _ _ _ st h=>PySem.Rv.wpAny_pyIter_rev st h
section
variable{X:Cx}{tg:Expr}
def iRev(K:Ae)(ta:TA):TI:=fun σ H R=>ta σ H fun vs H1=>∃a xs,vs=[.ref a]/\H1 a=some (.lst xs)/\R (Itv K a xs.length) H1
theorem pi_rev(hg:Gl X "reversed")(hm:X.mg "reversed" = none)(ha:PA X [a] ta)(hs:Be [a] X.env=[(false,eval a X.env)]:=by rfl):
  PI X tg (.Call (.Name "reversed" p) [a] [] pos) (iRev X.K ta):=by
 intro pins s σ H R I h;refine Call_ (q4q I hg hm (by decide +kernel:Eg "reversed" = some (.type "reversed")) (Cr (thn (ha pos pins s σ H _ I h) fun us s1 ⟨vs,H1,I1,r1,q1⟩=>?_) hs rfl));obtain⟨l,xs,e,hq,q⟩:=q1;subst e;obtain⟨u,rfl,r⟩:=vals1 r1;cases r;obtain⟨z,its,n,rv,hl,e⟩:=I1.lstM hq;refine PySem.Rv.call_reversed_list e ?_;have hit:PySem.Rv.IsRevIter (s1.heap.push { cls:=.type "list_reverseiterator",data:=.fields #[.ref l,Jk (((its.toArray.size:Nat):Int)-1)] }) s1.heap.objs.size l ((xs.length:Int)-1-((0:Nat):Int)):=by
  refine⟨_,Bc _ rfl,rfl,?_⟩;rw[Az,<- hl];simp[Jk]
 refine PySem.Rv.wpAny_pyIter_rev hit ?_;refine⟨s1.heap.objs.size,[s1.heap.objs.size],_,_,H1,rfl,I1.kept (t':=s1.toks) fun b o e=>Ak _ e,z8f l _ xs.length,hit,fun b hb=>?_,q⟩;have e:b=s1.heap.objs.size:=by grind
 subst e;exact I1.fpOk (Af _) (I1.hok.fresh (Af _))
theorem rev_k{a:Expr}{ta:TA}{p pos:Pos}(K:Ae)(hK:X.K=K)(hg:Gl X "reversed")(hm:X.mg "reversed" = none)(ha:PA X [a] ta)(hs:Be [a] X.env=[(false,eval a X.env)]:=by rfl):
  PI X tg (.Call (.Name "reversed" p) [a] [] pos) (iRev K ta):=by subst hK;exact pi_rev hg hm ha hs
theorem x1j{K:Ih}{g:TG}{tb:TS}{D:Ends}(Pv:Nat->St->Hp->Prop)(h0:Pv 0 σ H)(hl:∀i σ H,Pv i σ H->SqL K H a xs)(hs:∀i x σ H,xs.reverse[i]?=some x->Pv i σ H->g x σ H fun σ2 H2=>tb { D with nx:=Pv (i+1),ct:=Pv (i+1),bk:=D.nx } σ2 H2)(hd:∀σ H,Pv xs.length σ H->D.nx σ H):
  ∃W:Nat->Nat->St->Hp->Prop,(∃m,W 0 m σ H)/\∀i m σ H,W i m σ H ->
   ((Itv K a xs.length).stop i H/\D.nx σ H)\/((Itv K a xs.length).go i H/\∃N:St->Hp->Prop,(∀σ' H',N σ' H'->∃m',m'<m/\W (i+1) m' σ' H')/\∀x H',(Itv K a xs.length).yld i H x H'->g x σ H' fun σ2 H2=>tb { D with nx:=N,ct:=N,bk:=D.nx } σ2 H2):=by
 refine z5e Pv h0 (fun i σ H h p=>⟨xs,xs.reverse[i]'(by simpa using h),hl i σ H p,rfl,Bi _⟩) (fun σ H _=>Af _) (fun i v σ H H' h p yl=>?_) hd;obtain⟨rfl,y⟩:=yl;exact hs i v σ _ (y xs (hl i σ _ p)) p
end
end L2
namespace K
open PySem L2 TX
theorem q7r(l:Option Int)(len:Nat)(h:(len:Int)<=j):Fw l (some j) 1 len=Fw l (some (len:Int)) 1 len:=by
 have a:¬(j<0):=by lia
 have b:¬((len:Int)<0):=by lia
 have c:min j (len:Int)=(len:Int):=by lia
 simp[Fw,a,b,c]
theorem q5u{l:List Nat}(h1:i<=j)(h2:i<=l.length):Lb (mk l) (some (i:Int)) (some (j:Int))=mk ((l.drop i).take (j-i)):=by
 have hlen:(mk l).cps.toList=l:=q0v l;by_cases h:j<=l.length
 ·show Eb (mk l) (some (i:Int)) (some (j:Int))=_;rw[Ls (mk l) h1 (by rw[q0o];exact h),hlen]
 ·have e:Eb (mk l) (some (i:Int)) (some (j:Int))=Eb (mk l) (some (i:Int)) (some (((mk l).length:Nat):Int)):=by
   unfold Eb;rw[q7r (some (i:Int)) (mk l).length (by rw[q0o];lia)]
  show Eb (mk l) (some (i:Int)) (some (j:Int))=_;rw[e,Ls (mk l) (by rw[q0o];exact h2) (Af _),hlen,q0o];rw[Cj (by rw[Bk];lia),Cj (by rw[Bk];lia)]
end K
namespace L2
open PySem PySem.Spec PyProof.Rows
section
variable{X:Cx}
theorem z5q:CallR X (.type "int") (fun xs H Q=>∃x n,xs=[.str x]/\Hh x=some n/\x.length<=640/\Q (.int n) H):=by
 intro pins s σ H xs us Q I r h;obtain⟨x,n,rfl,h1,h2,q⟩:=h;obtain⟨u,rfl,t,rfl⟩:=vals1 r;exact W.KIN.call_text h1 h2 ⟨.int n,H,I.tok _,⟨_,rfl⟩,q⟩
theorem q3a:CallR X (.type "int") (fun xs H Q=>((∃i,xs=[.int i]/\Q (.int i) H)\/∃k,xs=[.bl k]/\Q (.int (if k then 1 else 0)) H)\/∃x n,xs=[.str x]/\Hh x=some n/\x.length<=640/\Q (.int n) H):=call_int1.or z5q
end
end L2
namespace K
open PySem L2 TX
def dg(m:Nat):List Nat:=tl (Aa (toString (m:Int)))
theorem x1k(m:Nat):Aa (toString (m:Int))=mk (dg m):=(z0x _).symm
theorem z8g(m:Nat):dg m=(Nat.toDigits 10 m).map Char.toNat:=W.KIN.signs_num m
theorem q2h(h:m<10):dg m=[48+m]:=by
 rw[z8g,Nat.toDigits_of_lt_base h];exact(by decide:∀m:Nat,m<10->[Nat.digitChar m].map Char.toNat=[48+m]) m h
theorem z1c(h:10<=m):dg m=dg (m / 10)++[48+m%10]:=by
 have hm:m%10<10:=Nat.mod_lt m (by decide);have t:Nat.toDigits 10 (m / 10)++Nat.toDigits 10 (m%10)=Nat.toDigits 10 (10*(m / 10)+m%10):=Nat.toDigits_append_toDigits (by decide) (by lia) hm;rw[Nat.div_add_mod] at t;rw[z8g,z8g,<- t,Ax];congr 1;exact(z8g (m%10)).symm.trans (q2h hm)
theorem z5r(m:Nat):∀c∈dg m,c∈FI:=by
 have hf:∀d:Nat,d<10->48+d∈FI:=by decide +kernel
 induction m using Nat.strongRecOn with
 |_ m ih =>
  by_cases h:m<10
  ·rw[q2h h];intro c hc;rw[Al.mp hc];exact hf m h
  ·rw[z1c (by lia)];intro c hc;rcases Aw.mp hc with z|z
   ·grind
   ·rw[Al.mp z];exact hf _ (Nat.mod_lt m (by decide))
theorem z5s(m:Nat):∃d r,dg m=(48+d)::r/\d<10/\(d=0->m=0/\r=[]):=by
 induction m using Nat.strongRecOn with
 |_ m ih =>
  by_cases h:m<10
  ·exact⟨m,[],q2h h,h,fun z=>⟨z,rfl⟩⟩
  ·obtain⟨d,r,h1,h2,h3⟩:=ih (m / 10) (by lia);refine⟨d,r++[48+m%10],by rw[z1c (by lia),h1];rfl,h2,fun z=>?_⟩;have:=(h3 z).1;lia
theorem q9v:∀(k m:Nat),m<10^(k+1)->(dg m).length<=k+1
 |0,m,h=>by rw[q2h (by simpa using h)];exact Af _
 |k+1,m,h=>by
  by_cases hz:m<10
  ·rw[q2h hz];simp
  ·rw[z1c (by lia),Ac,Bh];have:=q9v k (m / 10) (by rw[Ko] at h;lia);lia
theorem dg_pos(m:Nat):1<=(dg m).length:=by obtain⟨d,r,h,_⟩:=z5s m;rw[h];simp
theorem z5t(h:m<10^10):Hh (mk (dg m))=some (m:Int):=by
 exact W.KIN.num_reads (by lia) (by lia)
end K
namespace L2
open PySem PySem.Spec PyProof.Rows
structure KDict (P:Program) (w:World) (K:Ae) (d:Addr) (kvs:List (Key×V)):Prop where
 ex:∃ob vs,K.lookup d=some ob/\KV kvs vs/\∀h:Heap,h.get? d=some ob->h.DictOf (mixKind P w) d vs
def tKGet(kvs:List (Key×V))(ty:TE):TE:=fun σ H Q=>ty σ H fun y H1=>∃k v,y=kV k/\valV kvs k=some v/\Q v H1
theorem x1l{X:Cx}{x:Str}{d:Addr}{kvs:List (Key×V)}{i:Expr}{ty:TE}{p pos:Pos}(hg:Gl X x)(hm:X.mg x=some (.ref d))(D:KDict X.prog X.w X.K d kvs)(hi:PE X i ty)(hs:NoSl i)(hdb:(x==("__debug__" : Str))=false:=by decide):
  PE X (.Subscript (.Name x p) i pos) (tKGet kvs ty):=by
 intro pins s σ H Q I h;refine z5o Ke.lookup hs (q7f I hg hm (thn (hi pins s σ H _ I h) fun iv s2 ⟨y,H2,I2,ry,k,v,ey,l,q2⟩=>?_) hdb);subst ey;obtain⟨ob,vs,hk,rel,hd⟩:=D.ex;have dd:=hd _ (I2.kIn d ob hk);obtain⟨w',hw,rw'⟩:=RelO.some_of (by rw[<- l];exact rel.val k);exact⟨dd.typeIs,wpAny_getItem_of (z0z ry) dd.mapOf hw ⟨v,H2,I2.tok _,rw',q2⟩⟩
section
variable{X:Cx}
theorem z8h:PGet X (rIxL X.K):=by
 intro pins s σ H x y v u Q I rx ry h;obtain⟨p,xs,i,z,rfl,rfl,hq,he,q⟩:=h;cases rx;obtain⟨t,rfl⟩:=ry;obtain⟨its,r,pl,hz⟩:=I.list hq;obtain⟨j,h1,h2,h3,h4,h5⟩:=q7j he;obtain⟨w,ew,rw'⟩:=r.get h2;have hl:=r.length;have hn:=line63;have fin:EP X pins σ Q w s:=⟨z,H,I,rw',q⟩
 by_cases h0:0<=i
 ·have hj:i.toNat=j:=by
   rw[Ld h0 h5] at h1;exact Bq h1
  exact wpAny_getItem_list pl.isList h0 (by lia) (by rw[hj];simpa using ew) fin
 ·have hj:(i+(its.toArray.size:Int)).toNat=j:=by
   rw[seqIndex_neg (by lia) h4] at h1;rw[Az,<- hl];exact Bq h1
  exact Lg pl.isList (by lia) (by rw[Az]<;>lia) (by lia) (by rw[hj];simpa using ew) fin
theorem get_k(K:Ae)(hK:X.K=K):PGet X (rIxL K):=by subst hK;exact z8h
end
open PySem PySem.Spec PyProof.Rows
section
variable{X:Cx}
def rRjust:V->List V->Hp->VK->Prop:=fun x vs H Q=>∃z i c,x=.str z/\vs=[.int i,.str c]/\PadOk i=true/\c.length=1/\Q (.str (Ov z i (c.cps.getD 0 0))) H
theorem z8i:MtM X "str.rjust" rRjust:=by
 intro pins s σ H x vs v us Q I rx rv h;obtain⟨z,i,c,rfl,rfl,hp,hc,q⟩:=h;obtain⟨t,rfl⟩:=rx;obtain⟨u,w,rfl,ru,rw'⟩:=rv.two;obtain⟨t1,rfl⟩:=ru;obtain⟨t2,rfl⟩:=rw';exact rjust_fill hp hc fun t' k=>⟨.str _,H,I.tok _,⟨_,rfl⟩,q⟩
theorem q5v:CallR X (.type "str") (fun xs H Q=>∃n:Nat,xs=[.int (n:Int)]/\n<=10^14/\Q (.str (Aa (toString (n:Int)))) H):=by
 intro pins s σ H xs us Q I r h;obtain⟨n,rfl,h1,q⟩:=h;obtain⟨u,rfl,t,rfl⟩:=vals1 r;refine PySem.P.str_of_int ?_ ⟨.str (Aa (toString (n:Int))),H,I.tok _,⟨_,rfl⟩,q⟩;rw[Int.natAbs_natCast];have h2:n<2^50:=Nc h1 (by decide);have:n.log2<50:=by
  by_cases hz:n=0
  ·rw[hz];decide
  ·exact(Nat.log2_lt hz).mpr h2
 lia
end
end L2
namespace K
open PySem L2 TX
def wn(w:Nat)(t:List Nat):List Nat:=List.replicate (w-t.length) 48++t
theorem rj{w:Nat}:Ov (mk t) (w:Int) 48=mk (wn w t):=by
 have hl:(mk t).length=t.length:=by rw[len,q0v]
 unfold Ov wn;by_cases h:((w:Nat):Int)<=((mk t).length:Int)
 ·simp_all
 ·rw[if_neg h,hl];simp[Ee.Str.padded,tl,mk]
end K
namespace L2
open PySem PySem.Spec PyProof.Rows
def InnW(J2:It)(g2:TG)(te:TE)(σ2:St)(D:Addr)(ys0:List V)(N:List V->Hp->Prop)(H3:Hp):Prop :=
 ∃W:Nat->Nat->List V->Hp->Prop,(∃m,W 0 m ys0 H3)/\∀i m ys H,W i m ys H->(J2.stop i H/\N ys H)\/(J2.go i H/\∃N2:List V->Hp->Prop,(∀zs H',N2 zs H'->∃m',m'<m/\W (i+1) m' zs H')/\∀x H',J2.yld i H x H'->g2 x σ2 H' fun σ4 H4=>Keeps0 σ2 σ4/\te σ4 H4 fun v H5=>H5 D=some (.lst ys)/\ys.length<sizeLine/\N2 (ys++[v]) (upd H5 D (.lst (ys++[v]))))
def CompW2(J:It)(g:TG)(wi2:TI)(g2:TG)(te:TE)(σ0:St)(D:Addr)(Fin:List V->Hp->Prop)(H1:Hp):Prop :=
 ∃W:Nat->Nat->List V->Hp->Prop,(∃m,W 0 m [] (upd H1 D (.lst [])))/\∀i m ys H,W i m ys H->H D=some (.lst ys) /\
  ((J.stop i H/\Fin ys H)\/(J.go i H/\∃N:List V->Hp->Prop,(∀zs H',N zs H'->∃m',m'<m/\W (i+1) m' zs H')/\∀x H',J.yld i H x H'->g x σ0 H' fun σ2 H2=>Keeps0 σ0 σ2/\wi2 σ2 H2 fun J2 H3=>InnW J2 g2 te σ2 D ys N H3))
theorem q2o{elt target2 iter2 ifs2 c0 scope pos it acc env}(h0:Fb (model prog w) A (.compLoop (.ListComp elt [c0,⟨target2,iter2,ifs2,0⟩] scope pos) 1 it acc env) R s)(h:wpAny (model prog w) A (Hn it) (fun it' s'=>Fb (model prog w) A (.compLoop (.ListComp elt [c0,⟨target2,iter2,ifs2,0⟩] scope pos) 1 it' acc env) R s')
   (notedBy (model prog w) A env fun x s'=>R (.error x) s') s):
  Fb (model prog w) A (.compStart (.ListComp elt [c0,⟨target2,iter2,ifs2,0⟩] scope pos) 1 it acc env) R s:=by
 refine codeAny_of_tree ?_;show wpAny _ _ ((compStart (.ListComp elt [c0,⟨target2,iter2,ifs2,0⟩] scope pos) 1 it acc env).onRaise (fun x=>do noteFrame x env;Ln theWindowsPlace)) _ _ s;refine wpAny_notedAt ?_;unfold compStart;show wpAny _ _ (ask >>= _) _ _ s;refine Ab (wpAny_askSetting (wpAny_ite ?_));split
 ·first
   |exact Ab (An (An (And.intro rfl h0)))
   |exact An (And.intro rfl h0)
 ·first
   |exact Ab (Il (Ab (Dl (Ab (Cg h (fun it' s' h'=>An (And.intro rfl h')) fun _ _ x=>x)))))
   |(refine Ab (Il ?_);show wpAny _ _ (Ln iter2.pos >>= _) _ _ s;exact Ab (Dl (Ab (Cg h (fun it' s' h'=>An (And.intro rfl h')) fun _ _ x=>x))))
theorem z5u{σ:St}{Fin:Addr->List V->Hp->Prop}{RR:Value->Addr->Result->Ag->Prop}(hc:X.calm=true)(hkind:scope.kind=.function)(hnc:∀y∈scope.names,y.2≠.cell)(hc1:∀x c,cl.lookup x=some c->X.env.cells.lookup x=some c)(hc2:∀x,(x,Bb.free)∈scope.names->∃c,cl.lookup x=some c)(co:CapOk X scope caps)(hg:∀C s H,PG (cxComp X (tg++caps.map (·.1)) scope cl C fp s H) target g)(hi2:∀C s H,PI (cxComp X (tg++caps.map (·.1)) scope cl C fp s H) target2 iter2 wi2)(hg2:∀C s H,PG (cxComp X (tg++caps.map (·.1)) scope cl C fp s H) target2 g2)(hs2:∀C x,Ea iter2 (Cy scope cl C X.env) x=pure x)(he:∀C s H,PE (cxComp X (tg++caps.map (·.1)) scope cl C fp s H) elt te)(I2:Inv X pins σ H1 s₂)(T:Turn X.prog X.w X.K target J fp it tn)(st:tn 0 s₂.heap)(hf:∀b∈fp,FpOk X pins H1 b)(hw:∀D,H1 D=none->CompW2 J g wi2 g2 te (tg0 tg σ caps) D (Fin D) H1)(hRR:∀D C ys H' s',H1 D=none->Inv X pins σ H' s'->(∃m,s'.heap.Ns C m)->FpOk X pins H' C->Fin D ys H'->RR (.ref D) C (.ok .next) s'):
  wpAny (model X.prog X.w) X.A (newList []) (fun acc s₃=>wpAny (model X.prog X.w) X.A (newFunctionEnv scope X.env.globals cl [] X.env.qual none .none (some X.env)) (fun cenv s₄ =>
   Fb (model X.prog X.w) X.A (.compStart (.ListComp elt [⟨target,iter,[],0⟩,⟨target2,iter2,[],0⟩] scope pos) 0 (.ref it) acc { cenv with scope:=relabel scope X.env }) (RR acc cenv.locals) s₄) E s₃) E s₂:=by
 have I3:Inv X pins σ (upd H1 s₂.heap.objs.size (.lst [])) { s₂ with heap:=s₂.heap.push { cls:=.type "list",dict:=none,data:=.seq ([]:List Value).toArray },toks:=s₂.toks }:=I2.lnew .nil (Au _);have hD0:=I2.fresh;refine Dm (Mj hnc (by intro y hy;simp at hy) (fun h₁ hns₁ hsb₁=>?_) hkind);dsimp only at hns₁ hsb₁ ⊢;generalize hDd:s₂.heap.objs.size=D at I3 hD0 hns₁ hsb₁ ⊢;generalize hs3:({ s₂ with heap:=s₂.heap.push { cls:=.type "list",dict:=none,data:=.seq ([]:List Value).toArray } }:Ag)=s₃ at I3 hns₁ hsb₁ ⊢;have e3:s₂.heap.push { cls:=.type "list",dict:=none,data:=.seq ([]:List Value).toArray }=s₃.heap:=by grind
 have o3:({ s₂ with heap:=h₁,toks:=s₂.toks+([]:List (Str×Value)).length }:Ag)={ s₃ with heap:=h₁,toks:=s₂.toks }:=by grind
 have size3:s₃.heap.objs.size=D+1:=by rw[<- e3,Er,hDd]
 rw[e3] at hns₁ hsb₁ ⊢;have old3:∀b o,s₂.heap.get? b=some o->s₃.heap.get? b=some o:=fun b o e=>by rw[<- e3];exact Ak _ e
 generalize hCd:s₃.heap.objs.size=C at hns₁ hsb₁ ⊢;have hk:=fun b o e=>hsb₁.extBut b o (by rw[<- hCd];exact Ce (Ba e)) (Ak _ e);have fpo:∀b∈fp,∃o,s₂.heap.get? b=some o:=fun b hb=>by obtain⟨o,e,_⟩:=T.obj 0 _ st b hb;exact⟨o,e⟩
 have fpne:∀b∈fp,b≠D:=fun b hb=>by obtain⟨o,e⟩:=fpo b hb;rw[<- hDd];exact Ce (Ba e)
 have hf3:∀b∈fp,FpOk X pins (upd H1 D (.lst [])) b:=fun b hb=>⟨by rw[q0m (fpne b hb)];exact(hf b hb).1,(hf b hb).2⟩
 have IY:=Inv.ofcomp (tk:=s₂.toks) tg I3 hkind hnc hc1 hc2 hf3 (fun b hb=>let ⟨o,e⟩:=fpo b hb;⟨o,old3 b o e⟩) (Di hCd) hns₁ hk co;have FC:FpOk X pins H1 C:=by
  have z:=I3.fpOk (H':=H1) (Di hCd) (I2.hok.fresh (by rw[hDd,<- hCd,size3];exact Nw _));exact z
 generalize hY:cxComp X (tg++caps.map (·.1)) scope cl C fp s₃ (upd H1 D (.lst []))=Y at IY;have hgY:PG Y target g:=by rw[<- hY];exact hg _ _ _
 have hi2Y:PI Y target2 iter2 wi2:=by rw[<- hY];exact hi2 _ _ _
 have hg2Y:PG Y target2 g2:=by rw[<- hY];exact hg2 _ _ _
 have heY:PE Y elt te:=by rw[<- hY];exact he _ _ _
 have hYp:Y.prog=X.prog:=by rw[<- hY];rfl
 have hYw:Y.w=X.w:=by rw[<- hY];rfl
 have hYK:Y.K=X.K:=by rw[<- hY];rfl
 have hYA:Y.A=X.A:=by rw[<- hY];rfl
 have hYe:Y.env=Cy scope cl C X.env:=by rw[<- hY];rfl
 have hYx:Y.ex=fp:=by rw[<- hY];rfl
 have hYn:Y.pn=[]:=by rw[<- hY];rfl
 have hYc:Y.calm=true:=by rw[<- hY];exact hc
 have hYxe:Y.xe=fun _ _=>False:=by rw[<- hY];rfl
 have fpY:∀{H':Hp},(∀b∈fp,H' b=none)->∀b∈fp,FpOk Y [] H' b:=fun{H'} hn b hb=>by
  refine⟨hn b hb,?_,?_,.inl (by rw[hYx];exact hb),fun x c e=>?_,fun p hp=>?_⟩
  ·have:=(IY.ok.exf b (by rw[hYx];exact hb)).1;exact this
  ·exact IY.ok.exfs b (by rw[hYx];exact hb)
  ·exact(IY.ok.exf b (by rw[hYx];exact hb)).2 x c e
  ·grind
 obtain⟨W,⟨m0,w0⟩,turn⟩:=hw D hD0;have stY:=T.keep 0 _ _ st fun b hb o e=>hk b o (old3 b o e)
 have back:∀{H':Hp} {s':Ag} {σ':St},Inv Y [] σ' H' s'->Inv X pins σ H' s':=fun{H' s' σ'} IE=>by
  have hun:=IE.base;have hos:=IE.os;rw[<- hY] at hun hos;exact I3.call' hos hun (by have z:=IE.hok;rw[hYp,hYw] at z;exact z) IE.bare fun b hb=>⟨(hf b hb).2.2.2.1,(hf b hb).2.1,(hf b hb).2.2.2.2.1,(hf b hb).2.2.2.2.2⟩
 have gY:∀pins s σ H v u Q (E':Value->Ag->Prop),Inv Y pins σ H s->RelV v u->g v σ H Q->wpAny (model X.prog X.w) X.A (assign target (Cy scope cl C X.env) u) (fun _ s'=>∃σ' H',Inv Y pins σ' H' s'/\Q σ' H') E' s:=fun pins s σ H v u Q E' IE r q=>by
  have z:=hgY pins s σ H v u Q IE r q;rw[hYp,hYw,hYA,hYe,hYxe] at z;exact Cg z (fun _ _ x=>x) fun _ _ f=>f.elim
 have g2Y:∀pins s σ H v u Q (E':Value->Ag->Prop),Inv Y pins σ H s->RelV v u->g2 v σ H Q->wpAny (model X.prog X.w) X.A (assign target2 (Cy scope cl C X.env) u) (fun _ s'=>∃σ' H',Inv Y pins σ' H' s'/\Q σ' H') E' s:=fun pins s σ H v u Q E' IE r q=>by
  have z:=hg2Y pins s σ H v u Q IE r q;rw[hYp,hYw,hYA,hYe,hYxe] at z;exact Cg z (fun _ _ x=>x) fun _ _ f=>f.elim
 have i2Y:∀pins s σ H R (E':Value->Ag->Prop),Inv Y pins σ H s->wi2 σ H R->wpAny (model X.prog X.w) X.A (eval iter2 (Cy scope cl C X.env)) (fun v s1=>wpAny (model X.prog X.w) X.A (Hn v) (PIE Y pins σ target2 R) E' s1) E' s:=fun pins s σ H R E' IE q=>by
  have z:=hi2Y pins s σ H R IE q;rw[hYp,hYw,hYA,hYe,hYxe] at z;exact Cg z (fun _ _ x=>Cg x (fun _ _ y=>y) fun _ _ f=>f.elim) fun _ _ f=>f.elim
 have eY:∀pins s σ H Q (E':Value->Ag->Prop),Inv Y pins σ H s->te σ H Q->wpAny (model X.prog X.w) X.A (eval elt (Cy scope cl C X.env)) (EP Y pins σ Q) E' s:=fun pins s σ H Q E' IE q=>by
  have z:=heY pins s σ H Q IE q;rw[hYp,hYw,hYA,hYe,hYxe] at z;exact Cg z (fun _ _ x=>x) fun _ _ f=>f.elim
 have aY:∀pins s σ H ys v u Q (E':Value->Ag->Prop),Inv Y pins σ H s->RelV v u->H D=some (.lst ys)->ys.length<sizeLine->Q .non (upd H D (.lst (ys++[v])))->wpAny (model X.prog X.w) X.A (call (.builtin "list.append") [.ref D,u]) (EP Y pins σ Q) E' s:=fun pins s σ H ys v u Q E' IE r hH hz q=>by
  have z:=q1g pins s σ H (.ref D) [v] (.ref D) [u] Q IE rfl (.cons r .nil) ⟨D,ys,v,rfl,rfl,hH,hz,q⟩;rw[hYp,hYw,hYA,hYxe] at z;exact Cg z (fun _ _ x=>x) fun _ _ f=>f.elim
 have tiY:∀i pins s σ H (E':Value->Ag->Prop),Inv Y pins σ H s->(∀b∈fp,FpOk Y pins H b)->tn i s.heap->J.go i H ->
   wpAny (model X.prog X.w) X.A (Ig (.ref it)) (fun r s1=>∃u,r=some u /\
    wpAny (model X.prog X.w) X.A (Gq target (.ref it) u) (fun _ s2=>∃x H',Inv Y pins σ H' s2/\RelV x u/\J.yld i H x H'/\tn (i+1) s2.heap/\∀b∈fp,H' b=none) E' s1) E' s:=fun i pins s σ H E' IE hfy st go=>by
  have z:=T.item Y hYp hYw hYK hYc i pins s σ H E' IE hfy st go;rw[hYA] at z;exact z
 have tdY:∀i pins s σ H (E':Value->Ag->Prop),Inv Y pins σ H s->(∀b∈fp,FpOk Y pins H b)->tn i s.heap->J.stop i H ->
   wpAny (model X.prog X.w) X.A (Ig (.ref it)) (fun r s1=>r=none/\Inv Y pins σ H s1) E' s:=fun i pins s σ H E' IE hfy st go=>by
  have z:=T.done Y hYp hYw hYK hYc i pins s σ H E' IE hfy st go;rw[hYA] at z;exact z
 have loop:Fb (model X.prog X.w) X.A (.compLoop (.ListComp elt [⟨target,iter,[],0⟩,⟨target2,iter2,[],0⟩] scope pos) 0 (.ref it) (.ref D) (Cy scope cl C X.env)) (RR (.ref D) C) { s₃ with heap:=h₁,toks:=s₂.toks }:=by
  refine Nd rfl (fun n s'=>∃i ys H',Inv Y [] (tg0 tg σ caps) H' s'/\tn i s'.heap/\(∀b∈fp,H' b=none)/\W i n ys H') ?_ m0 ⟨0,[],_,IY,stY,fun b hb=>(hf3 b hb).1,w0⟩;rintro n s4 ⟨i,ys,H4,I4,st4,fr4,w4⟩;refine Nx ?_;obtain⟨hHD,alt⟩:=turn i n ys H4 w4;rcases alt with⟨stop,fin⟩|⟨go,N,hN,step⟩
  ·refine Ab (Dl (Ab (thn (tdY i [] s4 _ H4 _ I4 (fpY fr4) st4 stop) fun r s5 ⟨hr,I5⟩=>?_)));subst hr;refine An (hRR D C ys H4 s5 hD0 (back I5) ?_ ⟨?_,FC.2⟩ fin)
   ·obtain⟨m,hm,_⟩:=I5.loc;rw[hYe] at hm;exact⟨m,hm⟩
   ·have z:=I5.free;rw[hYe] at z;exact z
  ·refine Ab (Dl (Ab (thn (tiY i [] s4 _ H4 _ I4 (fpY fr4) st4 go) fun r s5 ⟨u,hr,h5⟩=>?_)));subst hr;refine Ab (thn h5 fun _ s6 ⟨x,H6,I6,r6,y6,st6,fr6⟩=>?_);have I6':=I6.pinned (fpY fr6) (T.obj _ _ st6);refine Ab (thn (gY _ s6 _ H6 x u _ _ I6' r6 (step x H6 y6)) fun _ s7 ⟨σ7,H7,I7,kp,q7⟩=>?_);have again:∀{H9:Hp} {s9:Ag} {zs:List V} {m':Nat},Inv Y ([]++pinsAt fp s6.heap) σ7 H9 s9->m'<n->W (i+1) m' zs H9->∃m,m<n/\∃i ys H',Inv Y [] (tg0 tg σ caps) H' s9/\tn i s9.heap/\(∀b∈fp,H' b=none)/\W i m ys H':=fun{H9 s9 zs m'} I9 hm w9=>by
    refine⟨m',hm,i+1,zs,H9,I9.unpinned.weak kp.1 kp.2,T.keep _ _ _ st6 fun b hb o e=>(I9.pin (b,o) (Av _ (Av _ (q1n hb e)))).1,fun b hb=>?_,w9⟩;obtain⟨o,e,d⟩:=T.obj _ _ st6 b hb;exact(I9.pin (b,o) (Av _ (Av _ (q1n hb e)))).2.1
   refine Ab (Kz ?_);show wpAny _ _ (eval iter2 (Cy scope cl C X.env) >>= fun x=>Ln iter2.pos >>= fun _=>Ea iter2 (Cy scope cl C X.env) x >>= fun x=>Kg [x] (Hn x) >>= fun it2=>runOwn (.compStart (.ListComp elt [⟨target,iter,[],0⟩,⟨target2,iter2,[],0⟩] scope pos) 1 it2 (.ref D) (Cy scope cl C X.env)) (Cy scope cl C X.env) >>= fun _=>PySem.again (.compLoop (.ListComp elt [⟨target,iter,[],0⟩,⟨target2,iter2,[],0⟩] scope pos) 0 (.ref it) (.ref D) (Cy scope cl C X.env))) _ _ _;refine Ab (thn (i2Y _ s7 σ7 H7 _ _ I7 q7) fun v s8 h8=>?_);refine Ab (Dl ?_);rw[hs2];refine Ab (An (Ab (Gg (thn h8 fun itv s9 h9=>?_))));obtain⟨it2,fp2,tn2,J2,H9,e9,I9,T2,st9,f9,W2,⟨m2,w2⟩,turn2⟩:=h9;subst e9;have stat2:∀{H':Hp},(∀b∈fp2,H' b=none)->∀b∈fp2,FpOk Y ([]++pinsAt fp s6.heap) H' b:=fun hn b hb=>⟨hn b hb,(f9 b hb).2⟩
   have loop2:Fb (model X.prog X.w) X.A (.compLoop (.ListComp elt [⟨target,iter,[],0⟩,⟨target2,iter2,[],0⟩] scope pos) 1 (.ref it2) (.ref D) (Cy scope cl C X.env)) (fun r s'=>r=.ok .next/\∃zs H',Inv Y ([]++pinsAt fp s6.heap) σ7 H' s'/\N zs H') s9:=by
    refine Nd rfl (fun n s'=>∃i ys H',Inv Y ([]++pinsAt fp s6.heap) σ7 H' s'/\tn2 i s'.heap/\(∀b∈fp2,H' b=none)/\W2 i n ys H') ?_ m2 ⟨0,ys,_,I9,st9,fun b hb=>(f9 b hb).1,w2⟩;rintro n2 t4 ⟨i2,ys2,K4,J4,st4',fr4',w4'⟩;refine Nx ?_;rcases turn2 i2 n2 ys2 K4 w4' with⟨stop2,fin2⟩|⟨go2,N2,hN2,step2⟩
    ·have z:∀E':Value->Ag->Prop,wpAny (model X.prog X.w) X.A (Ig (.ref it2)) (fun r s1=>r=none/\Inv Y ([]++pinsAt fp s6.heap) σ7 K4 s1) E' t4:=fun E'=>by
      have z:=T2.done Y rfl rfl rfl hYc i2 _ t4 σ7 K4 E' J4 (stat2 fr4') st4' stop2;rw[hYp,hYw,hYA] at z;exact z
     refine Ab (Dl (Ab (thn (z _) fun r t5 hr5=>?_)));obtain⟨hr,J5⟩:=hr5;subst hr;exact An ⟨rfl,ys2,K4,J5,fin2⟩
    ·have z:∀E':Value->Ag->Prop,wpAny (model X.prog X.w) X.A (Ig (.ref it2)) (fun r s1=>∃u,r=some u /\
       wpAny (model X.prog X.w) X.A (Gq target2 (.ref it2) u) (fun _ s2=>∃x H',Inv Y ([]++pinsAt fp s6.heap) σ7 H' s2/\RelV x u/\J2.yld i2 K4 x H'/\tn2 (i2+1) s2.heap/\∀b∈fp2,H' b=none) E' s1) E' t4:=fun E'=>by
      have z:=T2.item Y rfl rfl rfl hYc i2 _ t4 σ7 K4 E' J4 (stat2 fr4') st4' go2;rw[hYp,hYw,hYA] at z;exact z
     refine Ab (Dl (Ab (thn (z _) fun r t5 hr5=>?_)));obtain⟨u,hr,h5⟩:=hr5;subst hr;refine Ab (thn h5 fun _ t6 h6=>?_);obtain⟨x2,K6,J6,r6',y6',st6',fr6'⟩:=h6;have J6':=J6.pinned (stat2 fr6') (T2.obj _ _ st6');refine Ab (thn (g2Y _ t6 _ K6 x2 u _ _ J6' r6' (step2 x2 K6 y6')) fun _ t7 ⟨σ8,K7,J7,kp2,q7'⟩=>?_);refine Ab (Kz ?_);show wpAny _ _ ((eval elt (Cy scope cl C X.env) >>= fun x=>call (.builtin "list.append") [.ref D,x] >>= fun _=>pure ()) >>= fun _=>PySem.again (.compLoop (.ListComp elt [⟨target,iter,[],0⟩,⟨target2,iter2,[],0⟩] scope pos) 1 (.ref it2) (.ref D) (Cy scope cl C X.env))) _ _ _;refine Ab (Ab (thn (eY _ t7 σ8 K7 _ _ J7 q7') fun v t9 ⟨vv,K9,J9,r9,hH9,hz9,n9⟩=>?_));obtain⟨m',hm',w9⟩:=hN2 _ _ n9;refine Ab (thn (aY _ t9 σ8 K9 ys2 vv v (fun _ H10=>W2 (i2+1) m' (ys2++[vv]) H10) _ J9 r9 hH9 hz9 w9) fun _ t10 ⟨_,K10,J10,_,w10⟩=>?_);refine An (An ⟨rfl,m',hm',i2+1,_,K10,J10.unpinned.weak kp2.1 kp2.2,T2.keep _ _ _ st6' fun b hb o e=>(J10.pin (b,o) (Av _ (Av _ (q1n hb e)))).1,fun b hb=>?_,w10⟩);obtain⟨o,e,d⟩:=T2.obj _ _ st6' b hb;exact(J10.pin (b,o) (Av _ (Av _ (q1n hb e)))).2.1
   refine Ab (wpAny_runOwn ?_);rw[Around.mark_none];have T2':=T2;rw[hYp,hYw,hYK] at T2';refine Gx (q2o loop2 (T2'.self _ 0 _ _ _ st9 loop2)) fun r t hr=>?_;obtain⟨rfl,zs,H10,I10,n10⟩:=hr;obtain⟨m',hm',w10⟩:=hN _ _ n10;exact An ⟨rfl,again I10 hm' w10⟩
 rw[o3];exact Lj loop (T.self _ 0 _ _ _ stY loop)
def tComp2(wi:TI)(g:TG)(wi2:TI)(g2:TG)(te:TE)(tg:List Str)(caps:Caps):TE:=fun σ H Q=>wi σ H fun J H1=>∀D,H1 D=none->CompW2 J g wi2 g2 te (tg0 tg σ caps) D (fun _ H'=>Q (.ref D) H') H1
section
variable{X:Cx}{iter target iter2 target2 elt:Expr}{scope:Scope}{pos:Pos}{wi wi2:TI}{g g2:TG}{te:TE}
theorem z5v(tg:List Str)(caps:Caps)(hc:X.calm=true)(hi:PI X target iter wi)(hg:∀cl C fp s H,PG (cxComp X (tg++caps.map (·.1)) scope cl C fp s H) target g)(hi2:∀cl C fp s H,PI (cxComp X (tg++caps.map (·.1)) scope cl C fp s H) target2 iter2 wi2)(hg2:∀cl C fp s H,PG (cxComp X (tg++caps.map (·.1)) scope cl C fp s H) target2 g2)(he:∀cl C fp s H,PE (cxComp X (tg++caps.map (·.1)) scope cl C fp s H) elt te)(hk:compChk X.N X.env.scope scope caps=true:=by rfl)(hs:∀x,Ea iter X.env x=pure x:=by intro _;rfl)(hs2:∀env x,Ea iter2 env x=pure x:=by intro _ _;rfl):
  PE X (.ListComp elt [⟨target,iter,[],0⟩,⟨target2,iter2,[],0⟩] scope pos) (tComp2 wi g wi2 g2 te tg caps):=by
 intro pins s σ H Q I h;obtain⟨hkind,hnc,hnames,hfree,co⟩:=q4h hk;obtain⟨cl,hclos,hc1,hc2⟩:=z0t I hfree;refine Hc rfl hs hclos hkind hnames (thn (hi pins s σ H _ I h) fun v s1 h1=>thn h1 fun itv s2 h2=>?_);obtain⟨it,fp,tn,J,H2,e,I2,T,st2,f2,hw⟩:=h2;subst e;refine z5u hc hkind hnc hc1 hc2 co (fun C s H=>hg cl C fp s H) (fun C s H=>hi2 cl C fp s H) (fun C s H=>hg2 cl C fp s H) (fun C x=>hs2 _ x) (fun C s H=>he cl C fp s H) I2 T st2 f2 hw ?_;intro D C ys H' s' hD I' hm F fin;obtain⟨m,hm⟩:=hm;refine⟨m,hm,fun h' hsb=>⟨.ref D,H',I'.turned (t':=s'.toks) (fun b o hb e=>(hsb.2 b hb).trans e) F.1 F.2.1 F.2.2.2.1 F.2.2.2.2.1 F.2.2.2.2.2,rfl,fin⟩⟩
end
theorem z3x{r:St}{a:Option V}{v:Option V}:Keeps0 (a::none::r) (a::v::r):=⟨rfl,fun i w h=>by
 cases i with
 |zero=>exact h
 |succ i=>cases i with
  |zero=>cases h
  |succ i=>exact h⟩
theorem z3y{K:Ae}{a D:Addr}{xs:List V}{g:TG}{wi2:TI}{g2:TG}{te:TE}{σ0:St}{H1:Hp}{Fin:List V->Hp->Prop}(Pv:Nat->List V->Hp->Prop)(h0:Pv 0 [] (upd H1 D (.lst [])))(hl:∀i ys H,Pv i ys H->H D=some (.lst ys)/\SqL K H a xs)(hs:∀i ys H x,xs[i]?=some x->Pv i ys H->g x σ0 H fun σ2 H2=>Keeps0 σ0 σ2/\wi2 σ2 H2 fun J2 H3=>InnW J2 g2 te σ2 D ys (Pv (i+1)) H3)(hd:∀ys H,Pv xs.length ys H->Fin ys H):CompW2 (Itl K a) g wi2 g2 te σ0 D Fin H1:=by
 refine⟨fun i m ys H=>m=xs.length-i/\i<=xs.length/\Pv i ys H,⟨xs.length,by simp,Au _,h0⟩,?_⟩;rintro i m ys H ⟨rfl,hi,p⟩;refine⟨(hl i ys H p).1,?_⟩;by_cases hlt:i<xs.length
 ·exact .inr ⟨⟨xs,xs[i],(hl i ys H p).2,by simp[hlt]⟩,Pv (i+1),fun zs H' q=>⟨xs.length-(i+1),by lia,rfl,hlt,q⟩,fun x H' y=>by
   obtain⟨e,y⟩:=y;subst e;exact hs i ys _ x (y xs (hl i ys _ p).2) p⟩
 ·have e:i=xs.length:=by lia
  subst e;exact .inl ⟨⟨xs,(hl _ ys H p).2,Af _⟩,hd ys H p⟩
theorem z8j{K:Ae}{a2 D:Addr}{xs2 ys0:List V}{g2:TG}{te:TE}{σ2:St}{H3:Hp}{N:List V->Hp->Prop}(Pw:Nat->List V->Hp->Prop)(h0:Pw 0 ys0 H3)(hl:∀i ys H,Pw i ys H->SqL K H a2 xs2)(hs:∀i ys H x,xs2[i]?=some x->Pw i ys H->g2 x σ2 H fun σ4 H4=>Keeps0 σ2 σ4/\te σ4 H4 fun v H5=>H5 D=some (.lst ys)/\ys.length<sizeLine/\Pw (i+1) (ys++[v]) (upd H5 D (.lst (ys++[v]))))(hd:∀ys H,Pw xs2.length ys H->N ys H):InnW (Itl K a2) g2 te σ2 D ys0 N H3:=by
 refine⟨fun i m ys H=>m=xs2.length-i/\i<=xs2.length/\Pw i ys H,⟨xs2.length,by simp,Au _,h0⟩,?_⟩;rintro i m ys H ⟨rfl,hi,p⟩;by_cases hlt:i<xs2.length
 ·exact .inr ⟨⟨xs2,xs2[i],hl i ys H p,by simp[hlt]⟩,Pw (i+1),fun zs H' q=>⟨xs2.length-(i+1),by lia,rfl,hlt,q⟩,fun x H' y=>by
   obtain⟨e,y⟩:=y;subst e;exact hs i ys _ x (y xs2 (hl i ys _ p)) p⟩
 ·have e:i=xs2.length:=by lia
  subst e;exact .inl ⟨⟨xs2,hl _ ys H p,Af _⟩,hd ys H p⟩
end L2
namespace SB
open PySem PyProof.Rows
section
variable{prog:Program}{w:World}{A:Around}{E:Value->Ag->Prop}{s:Ag}
def rk(r:Value->Int)(xs:Array Keyed)(i:Nat):Int:=((xs[i]?).map fun p=>r p.1).getD 0
variable{kd:SortKind}{S:Value->Prop}{r:Value->Int}{a₀:Array Keyed}
end
open PySem PyProof.Rows TX
abbrev Pth:=List (List Nat)
theorem mk_inj(h:mk a=mk b):a=b:=by have:=congrArg tl h;rwa [q0v,q0v] at this
theorem IsTup.inj(h1:IsTup h a x)(h2:IsTup h a y):x=y:=by
 obtain⟨o,e,_,n,d⟩:=h1;obtain⟨o',e',_,n',d'⟩:=h2;rw[e] at e';cases e';rw[d] at d';cases d';rfl
theorem IsTup.keep(t:IsTup h a x)(k:∀o,h.get? a=some o->h'.get? a=some o):IsTup h' a x:=let ⟨o,e,r⟩:=t;⟨o,k o e,r⟩
section
variable{prog:Program}{w:World}{A:Around}{E:Value->Ag->Prop}{s:Ag}
open Classical in
noncomputable def keyBy (K:Value->Pth->Prop) (v:Value):Pth:=if h:∃p,K v p then choose h else[]
end
end SB
namespace L2
open PySem PySem.Spec PyProof.Rows SB TX
def kP(p:Pth):List Key:=p.map fun n=>Sum.inr (mk n)
abbrev vP(p:Pth):List V:=p.map fun n=>V.str (mk n)
theorem kP_kV(p:Pth):(kP p).map kV=vP p:=by unfold kP;rw[Cw];rfl
abbrev HRow:=Pth×V
abbrev dR(rows:List HRow):HO:=.dT (rows.map fun r=>(kP r.1,r.2))
section
variable{X:Cx}{pins:List (Addr×Obj)}{σ:St}{H:Hp}{s:Ag}
theorem Inv.rows(I:Inv X pins σ H s){rows:List HRow}(hd:H d=some (dR rows)):(d==Dy)=false/\rows.length<=sizeLine/\∃ob es ep,s.heap.get? d=some ob/\ob.ExactDict/\ob.data=.dict es ep/\(rows.map (·.1)).Nodup /\
  ∃zs:List (Addr×Value×HRow),zs.map (·.2.2)=rows/\es.toList.map (fun e=>(e.key,e.val))=zs.map (fun z=>(Value.ref z.1,z.2.1))/\∀z∈zs,H z.1=some (.tup (vP z.2.2.1))/\RelV z.2.2.2 z.2.1:=by
 obtain⟨z,hsys,xs,hp,ob,es,ep,ho,hex,hob,h4,h5⟩:=(show ObjOk X.prog X.w H s.heap d (dR rows) from I.hok d _ hd)
 rw[Ad] at z;have go:∀(rows:List HRow) (xs:List (List Key×Addr×Value)),Eu (fun(p:List Key×V) (q:List Key×Addr×Value)=>p.1=q.1/\H q.2.1=some (.tup (p.1.map kV))/\RelV p.2 q.2.2) (rows.map fun r=>(kP r.1,r.2)) xs ->
   xs.map (·.1)=rows.map (fun r=>kP r.1)/\∃zs:List (Addr×Value×HRow),zs.map (·.2.2)=rows/\(xs.map (entryOfKey (Jj (mixKind X.prog X.w)))).map (fun e=>(e.key,e.val))=zs.map (fun z=>(Value.ref z.1,z.2.1))/\∀z∈zs,H z.1=some (.tup (vP z.2.2.1))/\RelV z.2.2.2 z.2.1:=by
  intro rows;induction rows with
  |nil=>intro xs h;cases h;exact⟨rfl,[],rfl,rfl,fun _ h=>nomatch h⟩
  |cons r rows ih =>
   intro xs h;cases h with
   |cons hq t =>
    rename_i q ys;obtain⟨e1,e2,e3⟩:=hq;obtain⟨i0,zs,i1,i2,i3⟩:=ih ys t;refine⟨by rw[Ay,Ay,i0,<- e1],(q.2.1,q.2.2,r)::zs,by rw[Ay,i1],by rw[Ay,Ay,Ay,i2];rfl,fun z hz=>?_⟩;rcases Am.mp hz with rfl|hz
    ·exact⟨by rw[<- kP_kV];exact e2,e3⟩
    ·exact i3 z hz
 obtain⟨g0,zs,g1,g2,g3⟩:=go rows xs hp;refine⟨hsys,z,ob,es,ep,ho,hex,hob,?_,zs,g1,by rw[h4];exact g2,g3⟩;rw[g0] at h5;have e:rows.map (fun r=>kP r.1)=(rows.map (·.1)).map kP:=by simp_all
 rw[e] at h5;exact(List.pairwise_map.mp h5).imp fun hne z=>hne (by rw[z])
end
open PySem PySem.Spec PyProof.Rows SB TX
def putR(acc:List (List Key×V))(r:HRow):List (List Key×V):=putK acc (kP r.1) r.2
open PySem PySem.Spec PyProof.Rows
theorem q7s(ho:s.heap.get? a=some o)(hc:o.ExactDict)(hd:o.data=.dict es ep)(hs:(a==Dy)=false)(hz:es.size<=sizeLine)(h:∀t t',Q (.int es.size t) { s with toks:=t' }):wpAny (model prog w) A (call (.builtin "len") [.ref a]) Q E s:=by
  have hT:s.TypeIs (.ref a) "dict" := ⟨o,ho,hc.1⟩
  have hz63:¬((es.size:Nat):Int)>=2^63:=by rw[Fj] at hz;lia
  refine Oi (Ir (by decide +kernel) entry_len ?_);have hck:Hu "len" ⟨[.ref a],[]⟩=pure ():=by
    first
      |exact checkBuiltinCall_of_none (by decide +kernel) (by decide +kernel) _
      |rfl
      |(unfold Hu;rfl)
  refine Hr hck ?_;refine Ab ?_;refine An (Ab (Cu hT Lu (Dk Lu hT PySem.F.entry_dict_len ?_ (PySem.F.args_dict_len_1 _))));refine Ab (Ab (wpAny_notOrdered_dict hT ?_));refine An ?_;show wpAny _ _ (do
      let __do_lift<-dictSize a;let __do_lift_1<-Kf a
      retInt (↑__do_lift + ↑__do_lift_1)) _ _ _
  unfold dictSize Kf;rw[hs];refine Ab (Ab (wpAny_dictEntries ho hd (An ?_)));refine Ab (An ?_);have e0:((es.size:Nat):Int)+((0:Nat):Int)=es.size:=by lia
  rw[e0]
  wp_walk
  refine⟨_,rfl,?_⟩;have hn:¬((es.size:Nat):Int)<0:=by lia
  refine Ab (Gg ?_);refine An (Ab (Jh ?_));rw[if_neg hn,if_neg hz63]
  wp_walk
  exact h _ _
theorem KV.len:∀{kvs:List (Key×V)} {vs:List (Key×Value)},KV kvs vs->vs.length=kvs.length:=by
 intro kvs vs h;have:=Ey h;lia
theorem z5w:CallR X (.builtin "len") (fun xs H Q=>∃d kvs,xs=[V.ref d]/\H d=some (.dK kvs)/\Q (.int kvs.length) H):=by
 intro pins s σ H xs us Q I r h;obtain⟨d,kvs,rfl,e,q⟩:=h;obtain⟨u,rfl,ru⟩:=vals1 r;cases ru;obtain⟨z,hd,vs,rel,dd⟩:=(show ObjOk X.prog X.w H s.heap d (.dK kvs) from I.hok d _ e)
 obtain⟨o',es,ep,ho',hc,hdd,he,his,hn⟩:=dd;have hlen:es.size=kvs.length:=by
  have:=Pairs.length his;rw[Gn,KV.len rel] at this;exact this
 refine q7s ho' hc hdd hd (by rw[hlen];exact z) fun t t'=>⟨.int kvs.length,H,I.tok _,⟨t,by rw[hlen]⟩,q⟩
open PySem PySem.Spec PyProof.Rows PySem.Builtin PySem.Builtin.Str
def replace1(x y z:Str):Str :=
 if ((occurrences x y 0 x.length 1).isEmpty||(y.length==0&&z.length==0))=true then x
 else glued z (partsBetween x (occurrences x y 0 x.length 1) y.length)
theorem q6n (x y z : Str) (t u v c : Tok)
    (hf : ((occurrences x y 0 x.length 1).isEmpty || (y.length == 0 && z.length == 0)) = false →
      (u == 0 || v == 0) = false ∧ (u == v) = false ∧ (y == z) = false ∧ tooLong (x.length + (occurrences x y 0 x.length 1).length * z.length) = false) :
    Gives («str.replace» ⟨[.str x t, .str y u, .str z v, .int 1 c], []⟩) (if ((occurrences x y 0 x.length 1).isEmpty || (y.length == 0 && z.length == 0)) = true then .val (.str x t) else .str (glued z (partsBetween x (occurrences x y 0 x.length 1) y.length))) := by
  show Gives (if ((occurrences x y 0 x.length 1).isEmpty || (y.length == 0 && z.length == 0)) = true then (do rule "str.replace.nothing"; ret (.str x t)) else
          (do let same ← isSame (.str y u) (.str z v)
              if same = true then (do rule "str.replace.old-is-new"; ret (.str x t)) else
              if tooLong (x.length + (occurrences x y 0 x.length 1).length * z.length) = true then unsupported "str.replace:memory" else
              retStr (glued z (partsBetween x (occurrences x y 0 x.length 1) y.length)))) _
  cases hc : ((occurrences x y 0 x.length 1).isEmpty || (y.length == 0 && z.length == 0))
  · obtain ⟨h0, huv, hyz, hl⟩ := hf hc;rw [isSame_str_other y z u v h0 huv hyz, hl];exact .of_eq rfl
  · exact .rule (.of_eq rfl)
theorem q7t{x z:Str}(y:Str)(hb:x.length+z.length<=16777216):
  (glued z (partsBetween x (occurrences x y 0 x.length 1) y.length)).length<=sizeLine:=by
 have h1:=Ib x y 0 x.length 1;have hy:(glued y (partsBetween x (occurrences x y 0 x.length 1) y.length)).length=x.length:=by rw[StrLaws.glued_between_self]
 rw[size_glued,Mq,Jp] at hy;rw[size_glued,Mq,Jp,Fj];have h2:(occurrences x y 0 x.length 1).length*z.length<=1*z.length:=Eo _ h1;lia
theorem q7u{prog:Program}{w:World}{A:Around}{E:Value->Ag->Prop}{s:Ag}{x y z:Str}{t u v c:Tok}{Q:Value->Ag->Prop}(hu:u≠0)(hv:v≠0)(huv:u≠v)(hyz:(y==z)=false)(hb:x.length+z.length<=16777216)(hq:∀t' k,Q (.str (replace1 x y z) t') { s with toks:=k }):wpAny (model prog w) A (call (.builtin "str.replace") [.str x t,.str y u,.str z v,.int 1 c]) Q E s:=by
 have hl:tooLong (x.length+(occurrences x y 0 x.length 1).length*z.length)=false:=by
  have h1:=Ib x y 0 x.length 1;have h2:(occurrences x y 0 x.length 1).length*z.length<=1*z.length:=Eo _ h1;have e:(2:Nat)^24=16777216:=by decide
  unfold tooLong sizeLine;exact decide_eq_false (by lia)
 refine call_gives Jq (Ff _ _ _) F.entry_str_replace (F.args_str_replace_4 _ _ _ _)
  (q6n x y z t u v c fun _=>⟨by simp[hu,hv],by simp[huv],hyz,hl⟩) ?_
 have hq':=hq;unfold replace1 at hq';cases hc:((occurrences x y 0 x.length 1).isEmpty||(y.length==0&&z.length==0))
 ·rw[hc] at hq';simp only[Bool.false_eq_true,if_false] at hq' ⊢;exact⟨q7t y hb,hq' _ _⟩
 ·rw[hc] at hq';simp only[if_true] at hq' ⊢;exact hq' t s.toks
def PEQ(X:Cx)(e:Expr)(t:TE):Prop :=
 ∀(pins:List (Addr×Obj)) (s:Ag) (σ:St) (H:Hp) (Q:VK),0<s.toks->Inv X pins σ H s->t σ H Q->wpAny (model X.prog X.w) X.A (eval e X.env) (EP X pins σ Q) X.xe s
def PAQ(X:Cx)(es:List Expr)(t:TA):Prop :=
 ∀(pos:Pos) (pins:List (Addr×Obj)) (s:Ag) (σ:St) (H:Hp) (Q:List V->Hp->Prop),0<s.toks->Inv X pins σ H s->t σ H Q->wpAny (model X.prog X.w) X.A (spliced (Fc pos (Be es X.env))) (AP X pins σ Q) X.xe s
theorem tkn{M:Model}{A:Around}{α:Type}{t:Sem α}{Q:α->Ag->Prop}{E:Value->Ag->Prop}{s:Ag}(hn:0<s.toks)(h:wpAny M A t Q E s):wpAny M A t (fun a s'=>0<s'.toks/\Q a s') E s :=
 Cg (wpAny_toks_of (show 1<=s.toks from hn) h) (fun _ _ z=>z) fun _ _ z=>z.2
section
variable{X:Cx}{e:Expr}{es:List Expr}{te:TE}{t:TA}{pos apos cpos:Pos}{o:Expr}{to:TE}{y z:Str}
theorem PE.q(h:PE X e te):PEQ X e te:=fun pins s σ H Q _ I q=>h pins s σ H Q I q
theorem q4j:PAQ X [] tNil:=fun pos pins s σ H Q _ I h=>q0c pos pins s σ H Q I h
theorem q1b(ha:PEQ X e te)(hr:PAQ X es t)(hs:Be (e::es) X.env=(false,eval e X.env)::Be es X.env:=by rfl):PAQ X (e::es) (tCons te t):=by
 intro pos pins s σ H Q hn I h;rw[hs];refine Dj (thn (tkn hn (ha pins s σ H _ hn I h)) fun u s1 ⟨h1,x,H1,I1,r1,q1⟩=>?_);exact thn (hr pos pins s1 σ H1 _ h1 I1 q1) fun us s2 ⟨xs,H2,I2,r2,q2⟩=>⟨x::xs,H2,I2,.cons r1 r2,q2⟩
theorem q3n{x:Str}{j:Nat}{p:Pos}(hr:PAQ X es t)(hs:Be (.Constant (.str x) j p::es) X.env=(false,eval (.Constant (.str x) j p) X.env)::Be es X.env:=by rfl):PA X (.Constant (.str x) j p::es) (tCons (tC (.str x)) t):=by
 intro pos pins s σ H Q I h;rw[hs];refine Dj (Eh (k:=j) (pos:=p) ?_);have J:Inv X pins σ H { s with toks:=s.toks+1 }:=I.tok _;exact thn (hr pos pins _ σ H _ (Nat.succ_pos _) J h) fun us s2 ⟨xs,H2,I2,r2,q2⟩=>⟨.str x::xs,H2,I2,.cons ⟨_,rfl⟩ r2,q2⟩
theorem q5c{j1 j2:Nat}{p1 p2:Pos}(ho:PE X o to)(hyz:(y==z)=false)(hbase:Gh o "replace" X.env (eval o X.env)=eval o X.env:=by rfl)(hfew:((Fc cpos (Be [.Constant (.str y) j1 p1,.Constant (.str z) j2 p2] X.env)).all (fun x => !x.1)&&(Oa cpos (Li [] X.env)).all (fun x=>x.1.isSome)
   && decide (([.Constant (.str y) j1 p1,.Constant (.str z) j2 p2]:List Expr).length+([]:List Je).length+(if ([]:List Je).isEmpty then 0 else 1)<30))=true:=by rfl)(hline:(apos.endLine==cpos.line)=true:=by rfl)(hs:Fc cpos (Be [.Constant (.str y) j1 p1,.Constant (.str z) j2 p2] X.env)=[(false,eval (.Constant (.str y) j1 p1) X.env),(false,eval (.Constant (.str z) j2 p2) X.env)]:=by rfl):
  PEQ X (.Call (.Attribute o "replace" apos) [.Constant (.str y) j1 p1,.Constant (.str z) j2 p2] [] cpos) (tRepl y z to):=by
 intro pins s σ H Q hn I h;refine Ho hbase hfew hline rfl (thn (tkn hn (ho pins s σ H _ I h)) fun v s1 ⟨ht,x,H1,I1,r1,q1⟩=>?_);obtain⟨a,rfl,hb,q⟩:=q1;obtain⟨t,rfl⟩:=r1;refine⟨"str", "str.replace",Oe,Jq,Ng,Ff _ _ _,(fun _ e=>nomatch e),?_⟩;rw[hs];refine Fm rfl (Ik ?_);refine Dj (Eh (Dj (Eh (Jw ?_))));exact SC.replace (show s1.toks≠0 by lia) (show s1.toks+1≠0 by lia) (show s1.toks≠s1.toks+1 by lia) hyz hb fun t' k=>⟨.str _,H1,I1.tok _,⟨_,rfl⟩,q⟩
def rRepl1(y z:Str):V->Hp->VK->Prop:=fun v H Q=>∃s,v=.str s/\s.length+z.length<=16777216/\Q (.str (replace1 s y z)) H
def tRepl1(y z:Str)(to:TE):TE:=fun σ H Q=>to σ H fun v H1=>rRepl1 y z v H1 Q
theorem q9w{j1 j2 j3:Nat}{p1 p2 p3:Pos}(ho:PE X o to)(hyz:(y==z)=false)(hbase:Gh o "replace" X.env (eval o X.env)=eval o X.env:=by rfl)(hfew:((Fc cpos (Be [.Constant (.str y) j1 p1,.Constant (.str z) j2 p2,.Constant (.int 1) j3 p3] X.env)).all (fun x => !x.1)&&(Oa cpos (Li [] X.env)).all (fun x=>x.1.isSome)
   && decide (([.Constant (.str y) j1 p1,.Constant (.str z) j2 p2,.Constant (.int 1) j3 p3]:List Expr).length+([]:List Je).length+(if ([]:List Je).isEmpty then 0 else 1)<30))=true:=by rfl)(hline:(apos.endLine==cpos.line)=true:=by rfl)(hs:Fc cpos (Be [.Constant (.str y) j1 p1,.Constant (.str z) j2 p2,.Constant (.int 1) j3 p3] X.env)=[(false,eval (.Constant (.str y) j1 p1) X.env),(false,eval (.Constant (.str z) j2 p2) X.env),(false,eval (.Constant (.int 1) j3 p3) X.env)]:=by rfl):
  PEQ X (.Call (.Attribute o "replace" apos) [.Constant (.str y) j1 p1,.Constant (.str z) j2 p2,.Constant (.int 1) j3 p3] [] cpos) (tRepl1 y z to):=by
 intro pins s σ H Q hn I h;refine Ho hbase hfew hline rfl (thn (tkn hn (ho pins s σ H _ I h)) fun v s1 ⟨ht,x,H1,I1,r1,q1⟩=>?_);obtain⟨a,rfl,hb,q⟩:=q1;obtain⟨t,rfl⟩:=r1;refine⟨"str", "str.replace",Oe,Jq,Ng,Ff _ _ _,(fun _ e=>nomatch e),?_⟩;rw[hs];refine Fm rfl (Ik ?_);refine Dj (Eh (Dj (Eh (Dj (Mx (Jw ?_))))));exact q7u (show s1.toks≠0 by lia) (show s1.toks+1≠0 by lia) (show s1.toks≠s1.toks+1 by lia) hyz hb fun t' k=>⟨.str _,H1,I1.tok _,⟨_,rfl⟩,q⟩
theorem peq_j(h:PEQ X e te):PEQ X e (tVJ te):=by
 intro pins s σ H Q hn I hw;obtain⟨J,hJ,hw⟩:=hw;exact thn (h pins s σ H J hn I hw) fun u s' ⟨v,H',I',r,q⟩=>⟨v,H',I',r,hJ v H' q⟩
theorem z5x{c a b:Expr}{tA:TT}{ta tb:TE}(hc:PT X c tA)(ha:PEQ X a ta)(hb:PEQ X b tb):PEQ X (.IfExp c a b pos) (tIf tA ta tb):=by
 intro pins s σ H Q hn I h;refine wpAny_IfExp (thn (tkn hn (hc pins s σ H _ I h)) fun d s1 ⟨h1,H1,I1,q1⟩=>?_);cases d with
 |true=>exact ha pins s1 σ H1 Q h1 I1 q1
 |false=>exact hb pins s1 σ H1 Q h1 I1 q1
end
end L2
namespace TX
open PySem PySem.Builtin PySem.Builtin.Str
def oc(L w:Nat)(b:Nat->Bool):Nat->Nat->Nat->Nat->List Nat
 |0,_,_,_=>[]
 |n+1,i,fr,k=>if ((0<k/\fr<=i)/\i+w<=L)/\b i=true then i::oc L w b n (i+1) (i+w) (k-1) else oc L w b n (i+1) fr k
theorem z5y(s sub:Str)(hi limit:Nat):∀(n i fr:Nat) (arr:Array Nat),arr.size<=limit->(forIn (List.range' i n) (arr,fr) (Ow s sub hi limit)).run.fst.toList=arr.toList++oc hi sub.length (subAt s sub) n i fr (limit-arr.size)
 |0,i,fr,arr,_=>by show arr.toList=_++[];rw[By]
 |n+1,i,fr,arr,h=>by
  rw[List.range'_succ,Ot];unfold Ow;have e:(arr.size<limit)↔0<limit-arr.size:=by lia
  split
  ·rename_i hc;have hc:((arr.size<limit/\fr<=i)/\i+sub.length<=hi)/\subAt s sub i=true:=hc;refine Eq.trans (z5y s sub hi limit n (i+1) (i+sub.length) (arr.push i) (by rw[Ox];lia)) ?_;rw[oc,if_pos ⟨⟨⟨e.mp hc.1.1.1,hc.1.1.2⟩,hc.1.2⟩,hc.2⟩,Array.toList_push,Ox,Cf,Nat.sub_sub];rfl
  ·rename_i hc;have hc:¬(((arr.size<limit/\fr<=i)/\i+sub.length<=hi)/\subAt s sub i=true):=hc;refine Eq.trans (z5y s sub hi limit n (i+1) fr arr h) ?_;rw[oc,if_neg fun z=>hc ⟨⟨⟨e.mpr z.1.1.1,z.1.1.2⟩,z.1.2⟩,z.2⟩]
theorem oc_fr{L w:Nat}{b:Nat->Bool}:∀{n i fr fr' k:Nat},fr<=i->fr'<=i->oc L w b n i fr k=oc L w b n i fr' k
 |0,_,_,_,_,_,_=>rfl
 |n+1,i,fr,fr',k,h,h'=>by
  have e:(((0<k/\fr<=i)/\i+w<=L)/\b i=true)↔(((0<k/\fr'<=i)/\i+w<=L)/\b i=true):=by simp only[h,h']
  rw[oc,oc];by_cases hc:((0<k/\fr<=i)/\i+w<=L)/\b i=true
  ·rw[if_pos hc,if_pos (e.mp hc)]
  ·rw[if_neg hc,if_neg fun z=>hc (e.mpr z),oc_fr (n:=n) (i:=i+1) (fr:=fr) (fr':=fr') (by lia) (by lia)]
theorem z5z{L w:Nat}{b:Nat->Bool}{fr k:Nat}:∀(d n i:Nat),i+d=fr->oc L w b (n+d) i fr k=oc L w b n fr fr k
 |0,n,i,h=>by rw[Nat.add_zero] at h;rw[h];rfl
 |d+1,n,i,h=>by
  show oc L w b (n+d+1) i fr k=_;rw[oc,if_neg (fun z=>by have:=z.1.1.2;lia)];exact z5z d n (i+1) (by lia)
def rpl(y z:List Nat):Nat->Nat->List Nat->List Nat
 |0,_,l=>l
 |n+1,k,l=>if 0<k/\l.take y.length=y then z++rpl y z n (k-1) (l.drop y.length) else match l with
  |[]=>[]
  |c::r=>c::rpl y z n k r
def nxt(f:List Nat->List Nat):List Nat->List Nat
 |[]=>[]
 |c::r=>c::f r
theorem q9x(y z:List Nat)(n k:Nat)(l:List Nat):rpl y z (n+1) k l=if 0<k/\l.take y.length=y then z++rpl y z n (k-1) (l.drop y.length) else nxt (rpl y z n k) l:=by
 cases l<;>rfl
theorem q7v{y z:List Nat}(hy:y≠[]):∀{n m k:Nat} {l:List Nat},l.length<n->l.length<m->rpl y z n k l=rpl y z m k l
 |0,_,_,_,h,_=>absurd h (by lia)
 |_+1,0,_,_,_,h=>absurd h (by lia)
 |n+1,m+1,k,l,h,h'=>by
  rw[q9x,q9x];have hp:=Bx.mpr hy;by_cases hc:0<k/\l.take y.length=y
  ·have hl:y.length<=l.length:=by
    have:=congrArg List.length hc.2;rw[Bv] at this;lia
   rw[if_pos hc,if_pos hc,q7v hy (n:=n) (m:=m) (by rw[Bk];lia) (by rw[Bk];lia)]
  ·rw[if_neg hc,if_neg hc];cases l with
   |nil=>rfl
   |cons c r =>
    rw[Ar] at h h';show c::rpl y z n k r=c::rpl y z m k r;rw[q7v hy (n:=n) (m:=m) (by lia) (by lia)]
def fj(l z:List Nat)(w:Nat):Nat->List Nat->List Nat
 |a,[]=>l.drop a
 |a,c::r=>(l.drop a).take (c-a)++(z++fj l z w (c+w) r)
theorem fj_oc{l y z:List Nat}{b:Nat->Bool}(hy:y≠[])(hb:∀i,i+y.length<=l.length->(b i=true↔(l.drop i).take y.length=y)):∀(n i a k:Nat),i+n=l.length+1->a<=i->i<=l.length->fj l z y.length a (oc l.length y.length b n i i k)=(l.drop a).take (i-a)++rpl y z n k (l.drop i):=by
 intro n;induction n using Nat.strongRecOn with
 |ind n ih =>
  intro i a k hn ha hi;have hp:=Bx.mpr hy;cases n with
  |zero=>lia
  |succ m =>
   rw[oc,q9x];by_cases hc:((0<k/\i<=i)/\i+y.length<=l.length)/\b i=true
   ·have hc':0<k/\(l.drop i).take y.length=y:=⟨hc.1.1.1,(hb i hc.1.2).mp hc.2⟩
    rw[if_pos hc,if_pos hc'];show(l.drop a).take (i-a)++(z++fj l z y.length (i+y.length) _)=_;have hle:=hc.1.2;rw[show m=(m-(y.length-1))+(y.length-1) by lia,z5z (y.length-1) _ (i+1) (by lia),ih (m-(y.length-1)) (by lia) (i+y.length) (i+y.length) (k-1) (by lia) (Af _) hle,Iu,Hi,Oy,Lv];rw[q7v hy (n:=m-(y.length-1)) (m:=m-(y.length-1)+(y.length-1)) (by rw[Bk];lia) (by rw[Bk];lia)]
   ·have hc':¬(0<k/\(l.drop i).take y.length=y):=fun z=>hc (by
     have hl:i+y.length<=l.length:=by
      have:=congrArg List.length z.2;rw[Bv,Bk] at this;lia
     exact⟨⟨⟨z.1,Af _⟩,hl⟩,(hb i hl).mpr z.2⟩)
    rw[if_neg hc,if_neg hc'];by_cases hil:i=l.length
    ·have hm:m=0:=by lia
     rw[hm,hil,Ge];show l.drop a=(l.drop a).take (l.length-a)++[]
     rw[By,Cj (by rw[Bk];lia)]
    ·have hlt:i<l.length:=by lia
     rw[oc_fr (fr:=i) (fr':=i+1) (by lia) (Af _),ih m (by lia) (i+1) a k (by lia) (by lia) hlt,Gu hlt];show _=(l.drop a).take (i-a)++(l[i]::rpl y z m k (l.drop (i+1)))
     have e:(l.drop a).take (i+1-a)=(l.drop a).take (i-a)++[l[i]]:=by
      rw[show i+1-a=(i-a)+1 by lia,Et,Hf,show a+(i-a)=i by lia,Bi hlt];rfl
     rw[e,Cf];rfl
theorem z1d(x z:Str)(w:Nat):∀(a:Nat) (cuts:List Nat),tl (Gb z (Nu x w a cuts))=fj (tl x) (tl z) w a cuts
 |a,[]=>by
  show(strSub x a x.length).cps.toList=(x.cps.toList).drop a;rw[Lw,Cj];rw[Bk];show x.cps.toList.length-a<=x.cps.size-a;simp
 |a,c::r=>by
  have ih:=z1d x z w (c+w) r;obtain⟨p,q,e⟩:=StrLaws.partsFrom_ne x w (c+w) r;show tl (Gb z (strSub x a c::Nu x w (c+w) r))=(tl x |>.drop a).take (c-a)++(tl z++fj (tl x) (tl z) w (c+w) r)
  rw[<- ih,e];show tl (strSub x a c++z++Gb z (p::q))=_;rw[q2c,q2c,Cf];congr 1;exact Lw x a c
theorem z6a(x y z:Str)(k:Nat)(hy:tl y≠[]):tl (glued z (partsBetween x (occurrences x y 0 x.length k) y.length))=rpl (tl y) (tl z) ((tl x).length+1) k (tl x):=by
 have hx:(tl x).length=x.length:=(len x).symm;have hyl:(tl y).length=y.length:=(len y).symm;rw[Ia,Kw,z1d,StrLaws.occ_eq];have ho:=z5y x y x.length k (x.length+1) 0 0 #[] (Au _);rw[show x.length+1-0=x.length+1 by lia,ho];have:=fj_oc (l:=tl x) (y:=tl y) (z:=tl z) (b:=subAt x y) hy (fun i _=>by
  rw[StrLaws.subAt_eq,hyl];exact beq_iff_eq) (x.length+1) 0 0 k (by lia) (Af _) (Au _)
 rw[hx,hyl] at this;show fj (tl x) (tl z) y.length 0 ([]++oc x.length y.length (subAt x y) (x.length+1) 0 0 (k-0))=_;rw[Oy,Nat.sub_zero,this,hx];rfl
theorem q6x(x y z:Str)(k:Nat)(hy:tl y≠[]):tl (if ((occurrences x y 0 x.length k).isEmpty||(y.length==0&&z.length==0))=true then x else glued z (partsBetween x (occurrences x y 0 x.length k) y.length))=rpl (tl y) (tl z) ((tl x).length+1) k (tl x):=by
 have h0:(y.length==0)=false:=by
  have:=Bx.mpr hy;rw[<- len] at this;exact beq_eq_false_iff_ne.mpr (by lia)
 rw[h0,Lo,Bool.or_false,<- z6a x y z k hy];split
 ·rename_i h;have e:occurrences x y 0 x.length k=[]:=List.isEmpty_iff.mp h;rw[e,Ia,Kw,z1d];show tl x=(tl x).drop 0;rw[Lx]
 ·rfl
theorem q6y(x y z:Str)(hy:tl y≠[]):tl (Ji x y z)=rpl (tl y) (tl z) ((tl x).length+1) ((tl x).length+1) (tl x):=by
 unfold Ji;have:=q6x x y z (x.length+1) hy;rw[len x] at this ⊢;exact this
theorem q5w(x y z:Str)(hy:tl y≠[]):tl (L2.replace1 x y z)=rpl (tl y) (tl z) ((tl x).length+1) 1 (tl x):=q6x x y z 1 hy
theorem q5d{y z r:List Nat}{n k:Nat}(hk:0<k):rpl y z (n+1) k (y++r)=z++rpl y z n (k-1) r:=by
 rw[q9x,if_pos ⟨hk,Ly⟩,Lz]
theorem q7w{y z r:List Nat}{n k c:Nat}(h:(c::r).take y.length≠y):rpl y z (n+1) k (c::r)=c::rpl y z n k r:=by
 rw[q9x,if_neg fun w=>h w.2];rfl
theorem q7x{y z:List Nat}:∀{n:Nat} {l:List Nat},rpl y z n 0 l=l
 |0,_=>rfl
 |n+1,l=>by
  rw[q9x,if_neg fun w=>by have:=w.1;lia];cases l with
  |nil=>rfl
  |cons c r=>show c::rpl y z n 0 r=_;rw[q7x]
theorem q2i{y z:List Nat}{d:Nat}{ys:List Nat}(hy:y=d::ys):∀{a r:List Nat} {n k:Nat},(∀c∈a,c≠d)->rpl y z (n+a.length) k (a++r)=a++rpl y z n k r
 |[],r,n,k,_=>rfl
 |c::a,r,n,k,h=>by
  have hc:=h c Ai;show rpl y z (n+a.length+1) k (c::(a++r))=c::(a++_)
  rw[q7w (fun w=>by rw[hy,Ar,List.take_succ_cons] at w;injection w with w;exact hc w),q2i hy fun x hx=>h x (Ah _ hx)]
end TX
namespace HM
open PySem PySem.Spec PyProof.Rows L2 TX SB
def NSs:Str:=Aa "abcdefghijklmnopqrstuvwxyzABCDEFGHIJKLMNOPQRSTUVWXYZ0123456789-_."
abbrev NS:List Nat:=tl NSs
abbrev Rw:=Pth×Option Int
theorem ns_up:∀c∈NS,up1 c∈NS:=by decide +kernel
theorem drop_app{a:Pth}(h:a≠[]):(p++a).dropLast=p++a.dropLast:=List.dropLast_append_of_ne_nil h
end HM
namespace PM
open PySem PySem.Spec PyProof.Rows L2 TX
def jn:List (List Nat)->List Nat
 |[]=>[]
 |[a]=>a
 |a::b::r=>a++47::jn (b::r)
def sp:List Nat->List (List Nat)
 |[]=>[[]]
 |c::r=>if c=47 then[]::sp r else match sp r with | []=>[[c]]|p::q=>(c::p)::q
theorem z9x:∀{a:List Nat} (l:List Nat),47∉a->sp (a++47::l)=a::sp l
 |[],l,_=>by show(if 47=47 then _ else _)=_;rw[if_pos rfl]
 |c::a,l,h=>by
  have hc:c≠47:=fun z=>h (by rw[z];exact Ai);have ih:=z9x l fun z=>h (Ah _ z);show(if c=47 then _ else _)=_;rw[if_neg hc];show(match sp (a++47::l) with | []=>[[c]]|p::q=>(c::p)::q)=_;rw[ih]
theorem z9y:∀{a:List Nat},47∉a->sp a=[a]
 |[],_=>rfl
 |c::a,h=>by
  have hc:c≠47:=fun z=>h (by rw[z];exact Ai);have ih:=z9y fun z=>h (Ah _ z);show(if c=47 then _ else _)=_;rw[if_neg hc,ih]
theorem sp_jn:∀{xs:List (List Nat)},xs≠[]->(∀x∈xs,47∉x)->sp (jn xs)=xs
 |[],h,_=>absurd rfl h
 |[a],_,f=>z9y (f a Ai)
 |a::b::r,_,f=>by
  show sp (a++47::jn (b::r))=_;rw[z9x _ (f a Ai),sp_jn (by simp) fun x hx=>f x (Ah _ hx)]
theorem slash:Aa "/" = ⟨#[47]⟩:=by decide +kernel
theorem tl_joinS:∀ts:List Str,tl (Kk (Aa "/") ts)=jn (ts.map tl):=by
 intro ts;rw[q5s];induction ts with
 |nil=>rfl
 |cons a r ih =>
  cases r with
  |nil=>simp[Gb,jn]
  |cons b r =>
   show tl (a++Aa "/" ++ Gb (Aa "/") (b::r))=_;rw[q2c,q2c,ih];have e:tl (Aa "/")=[47]:=by decide +kernel
   rw[e];show _=tl a++47::jn (tl b::r.map tl);simp
theorem z8k(z:Str):(Fv z (Aa "/")).map tl=sp (tl z):=by
 have h1:=Nh z (Aa "/");rw[<- q5s] at h1;have h2:=tl_joinS (Fv z (Aa "/"));rw[h1] at h2;have h3:=Ni z 47;rw[<- slash] at h3;have h4:=split_pos z (Aa "/");rw[h2,sp_jn]
 ·intro z;have:=congrArg List.length z;rw[Ad,Gs] at this;lia
 ·grind
theorem split_mk(z:Str):(Fv z (Aa "/")).map V.str=(sp (tl z)).map fun n=>V.str (mk n):=by
 rw[<- z8k,Cw];refine Ed fun p _=>?_;show V.str p=V.str (mk (tl p));rw[z0x]
end PM
namespace PC
open PySem PySem.Spec PyProof.Rows L2 TX
def jc(s:Nat):List (List Nat)->List Nat
 |[]=>[]
 |[a]=>a
 |a::b::r=>a++s::jc s (b::r)
def sc(s:Nat):List Nat->List (List Nat)
 |[]=>[[]]
 |c::r=>if c=s then[]::sc s r else match sc s r with | []=>[[c]]|p::q=>(c::p)::q
theorem z9z:∀{a:List Nat} (l:List Nat),s∉a->sc s (a++s::l)=a::sc s l
 |[],l,_=>by show(if s=s then _ else _)=_;rw[if_pos rfl]
 |c::a,l,h=>by
  have hc:c≠s:=fun z=>h (by rw[z];exact Ai);have ih:=z9z l fun z=>h (Ah _ z);show(if c=s then _ else _)=_;rw[if_neg hc];show(match sc s (a++s::l) with | []=>[[c]]|p::q=>(c::p)::q)=_;rw[ih]
theorem x0a:∀{a:List Nat},s∉a->sc s a=[a]
 |[],_=>rfl
 |c::a,h=>by
  have hc:c≠s:=fun z=>h (by rw[z];exact Ai);have ih:=x0a fun z=>h (Ah _ z);show(if c=s then _ else _)=_;rw[if_neg hc,ih]
theorem sc_jc{s:Nat}:∀{xs:List (List Nat)},xs≠[]->(∀x∈xs,s∉x)->sc s (jc s xs)=xs
 |[],h,_=>absurd rfl h
 |[a],_,f=>x0a (f a Ai)
 |a::b::r,_,f=>by
  show sc s (a++s::jc s (b::r))=_;rw[z9z _ (f a Ai),sc_jc (by simp) fun x hx=>f x (Ah _ hx)]
theorem tl_joinS(s:Nat):∀ts:List Str,tl (Kk ((⟨#[s]⟩:Str)) ts)=jc s (ts.map tl):=by
 intro ts;rw[q5s];induction ts with
 |nil=>rfl
 |cons a r ih =>
  cases r with
  |nil=>simp[Gb,jc]
  |cons b r =>
   show tl (a++(⟨#[s]⟩:Str)++Gb ((⟨#[s]⟩:Str)) (b::r))=_;rw[q2c,q2c,ih];have e:tl (⟨#[s]⟩:Str)=[s]:=rfl;rw[e];show _=tl a++s::jc s (tl b::r.map tl);simp
theorem split_sc(s:Nat)(z:Str):(Fv z ((⟨#[s]⟩:Str))).map tl=sc s (tl z):=by
 have h1:=Nh z ((⟨#[s]⟩:Str));rw[<- q5s] at h1;have h2:=tl_joinS s (Fv z ((⟨#[s]⟩:Str)));rw[h1] at h2;have h3:=Ni z s;have h4:=split_pos z ((⟨#[s]⟩:Str));rw[h2,sc_jc]
 ·intro z;have:=congrArg List.length z;rw[Ad,Gs] at this;lia
 ·grind
theorem split_mk(s:Nat)(z:Str):(Fv z ((⟨#[s]⟩:Str))).map V.str=(sc s (tl z)).map fun n=>V.str (mk n):=by
 rw[<- split_sc s,Cw];refine Ed fun p _=>?_;show V.str p=V.str (mk (tl p));rw[z0x]
theorem sc_len:∀l:List Nat,(sc s l).length<=l.length+1
 |[]=>Af _
 |c::r=>by
  have ih:=sc_len (s:=s) r;show(if c=s then[]::sc s r else match sc s r with | []=>[[c]]|p::q=>(c::p)::q).length<=_;split
  ·simp;lia
  ·cases e:sc s r with
   |nil=>simp
   |cons p q=>grind
end PC
namespace HD
open PySem PySem.W PyProof.Rows
theorem end0:(∃f,endAt 0 t=some f)/\through t=true\/endAt 0 t=none/\through t=false:=by
 unfold endAt through;obtain⟨cur,code,pos,stack⟩:=t;cases stack with
 |cons a r=>exact .inr ⟨by cases cur<;>rfl,rfl⟩
 |nil =>
  cases cur with
  |pure f =>
   cases f with
   |done f=>simp_all
   |_=>simp_all
  |_=>exact .inr ⟨rfl,rfl⟩
theorem z2k{tb:String->Option Ee}{p:Program}{w:World}{n₀:Nat}{ann:Option Value}:∀{n:Nat} {s s':Ag} {t:Thread} {f:Flow} {c:Code} {q:Pos},segRun tb p w n₀ ann 0 n s t=some (f,s',c,q)->topRun tb p w n₀ ann n s t=some s'
 |0,_,_,_,_,_,_,h=>by cases h
 |n+1,s,s',t,f,c,q,h=>by
  unfold segRun at h;unfold topRun;rcases end0 (t:=t) with⟨⟨f',e⟩,th⟩|⟨e,th⟩
  ·rw[e] at h;rw[th];cases h;rfl
  ·rw[e] at h;rw[th];dsimp only at h ⊢;cases ok:stepOk n₀ ann t with
   |false=>rw[ok] at h;cases h
   |true =>
    rw[ok] at h;dsimp only at h ⊢;cases st:step (denote tb) p w s t with
    |go s1 t1=>rw[st] at h;exact z2k h
    |halt _ _=>rw[st] at h;cases h
def mkT(l:List Obj):BT:=(l.foldl (fun(a:BT×Nat) o=>(a.1.ins a.2 o,a.2+1)) (BT.nil,0)).1
noncomputable def bootT (P:Params) (os:Pb):SharedT:=⟨mkT (boot_heap P).objs.toList,11,(boot_heap P).life,#[],boot_drawn,boot_toks,os⟩
theorem z8l(P:Params)(os:Pb):(bootT P os).abs=⟨boot_heap P,#[],boot_drawn,boot_toks,os⟩:=by kernel_rfl
theorem z6b(P:Params):((boot_heap P).isNs Cm&&(#[]:Array GenState).size==0,(boot_heap P).objs.size,(boot_heap P).nsMap Cm "__annotations__")=(true,11,some (.ref 6)):=by kernel_rfl
theorem left{Yf:Ag->α}{Ya:World->α}(e:opening p=plainProg p.main.scope.names)(hN:Nat.ble 600 N=true)(f:∀s,fenceModules? p s=some s)(h:∀(w:World) (os:Pb),(segRunT Jr p w 11 (some (.ref 6)) 0 N (bootT w.params os) (topStub p)).map (fun r=>((staticsOk (Dp p.main.body) (boot_heap w.params) r.2.1.abs.heap&&namesBound p r.2.1.abs.heap&&gensDone r.2.1.abs&&laidKept (boot_heap w.params) r.2.1.abs.heap),
   openSeen q loose (Dp p.main.body) Xt true r.2.1.abs,Yf r.2.1.abs))=some (true,openGood q loose,Ya w)):LeftO p q loose Xt Yf Ya N:=fun w=>by
 obtain⟨⟨hp,gs,d,k,os⟩,e1,e2⟩:=Bm.mp (boot_open e hN f w);obtain⟨rfl,rfl,rfl,rfl⟩:hp=boot_heap w.params/\gs=#[]/\d=boot_drawn/\k=boot_toks:=by simpa using e2
 obtain⟨z1,z2,z3⟩:_/\_/\_:=by simpa only[Prod.mk.injEq] using z6b w.params
 obtain⟨⟨fl,st,c,ps⟩,r1,r2⟩:=Bm.mp (h w os);obtain⟨l1,l2,l3⟩:_/\_/\_:=by simpa only[Prod.mk.injEq] using r2
 have r:=z2k (segRun_of r1);rw[z8l] at r;have t:topFrom Jr p w N ⟨boot_heap w.params,#[],boot_drawn,boot_toks,os⟩=some st.abs:=by
  unfold topFrom;rw[z1,z2,z3,r];show(match staticsOk (Dp p.main.body) (boot_heap w.params) st.abs.heap&&namesBound p st.abs.heap&&gensDone st.abs&&laidKept (boot_heap w.params) st.abs.heap with|true=>_|false=>_)=_;rw[l1]
 unfold openEnds;rw[e1];show(topFrom Jr p w N _).map _=_;rw[t];exact congrArg some (Prod.ext l2 l3)
theorem left2(row:String){Yf:Ag->α}{Ya:World->α}(e:opening p=plainProg p.main.scope.names)(hN:Nat.ble 600 N=true)(f:∀s,fenceModules? p s=some s)(h:∀(b:Bool) (w:World) (os:Pb),(segRunT Jr p (w.withFollow row b) 11 (some (.ref 6)) 0 N (bootT (w.withFollow row b).params os) (topStub p)).map (fun r=>((staticsOk (Dp p.main.body) (boot_heap (w.withFollow row b).params) r.2.1.abs.heap&&namesBound p r.2.1.abs.heap&&gensDone r.2.1.abs&&laidKept (boot_heap (w.withFollow row b).params) r.2.1.abs.heap),
   openSeen q loose (Dp p.main.body) Xt true r.2.1.abs,Yf r.2.1.abs))=some (true,openGood q loose,Ya (w.withFollow row b))):LeftO p q loose Xt Yf Ya N :=
 left e hN f fun w os=>by
  have:=h (w.params.followText row) w os
  rwa [World.withFollow_self w row] at this
end HD
set_option maxHeartbeats 4000000
namespace K
open PySem L2 TX
def top(i:Nat):Stmt:=PySem.Challenge.pw_renamehall_k74_two_ways_round.main.body.getD i (.Pass ⟨0,0,0,0⟩)
structure Txt (mg:Str->Option Value):Prop where
 b_all:mg "all" = none
 b_dict:mg "dict" = none
 b_enumerate:mg "enumerate" = none
 b_int:mg "int" = none
 b_isinstance:mg "isinstance" = none
 b_len:mg "len" = none
 b_list:mg "list" = none
 b_max:mg "max" = none
 b_min:mg "min" = none
 b_range:mg "range" = none
 b_reversed:mg "reversed" = none
 b_sorted:mg "sorted" = none
 b_str:mg "str" = none
 b_tuple:mg "tuple" = none
 b_zip:mg "zip" = none
 NAME_SIGNS:∃t,mg "NAME_SIGNS" = some (.str (Aa "abcdefghijklmnopqrstuvwxyzABCDEFGHIJKLMNOPQRSTUVWXYZ0123456789-_.") t)
 GAP_SIGNS:∃t,mg "GAP_SIGNS" = some (.str (Aa "?*#@") t)
 MOST_GAPS:∃t,mg "MOST_GAPS" = some (.int 9 t)
 FIGURES:∃t,mg "FIGURES" = some (.str (Aa "0123456789") t)
 LETTERS:∃t,mg "LETTERS" = some (.str (Aa "abcdefghijklmnopqrstuvwxyzABCDEFGHIJKLMNOPQRSTUVWXYZ") t)
 FROM_ONE:∃t,mg "FROM_ONE" = some (.str (Aa "123456789") t)
 FROM_TWO:∃t,mg "FROM_TWO" = some (.str (Aa "23456789") t)
 MOST_FIGURES:∃t,mg "MOST_FIGURES" = some (.int 9 t)
 MOST_NAMES_ASKED:∃t,mg "MOST_NAMES_ASKED" = some (.int 1000 t)
 MOST_START:∃t,mg "MOST_START" = some (.int 1000000000 t)
structure Calls (P:Program) (w:World) (K:Ae) (mg:Str->Option Value) (base:Heap):Prop where
 draw:Cal P w K mg base "_law_draw" 1 ["_law_feed", "_law_many"] spDraw
section
variable{P:Program}{w:World}{K:Ae}{mg:Str->Option Value}{base:Heap}
abbrev z1e:Stmt:=top 63
theorem sc_draw:FnScope ["_law_feed", "_law_many", "_law_cell", "_law_number", "_law_found"] ["_law_feed", "_law_many"] (defScope z1e):=by trivial
theorem x1m (D : Df K mg "_law_draw" z1e ["_law_feed", "_law_many"]) (T : Txt mg) : Cal P w K mg base "_law_draw" 1 ["_law_feed", "_law_many"] spDraw := by
  refine D.cal sc_draw (fun vs H Q E h => ?_) (fun f cdv A outer s H vs Q E hr h => ?_)
  · obtain ⟨a, b, m, rfl, _⟩ := h; rfl
  · obtain ⟨a, b, m, rfl, ⟨⟨i, j, ha⟩, ns, hb⟩, hm0, hm1, k⟩ := h;refine ⟨_, (q0b (q5g (q0s q0n (q0t (ix_k K rfl) (pv 0) q0f (fun _ _ => rfl)) q0f) (z4l (pv 0) q0f q4x)) (q0b (q0u (q0g (eq_k K rfl hr) (q0t (ix_k K rfl) (pv 0) q0f (fun _ _ => rfl)) q0f (nomark _)) (q0b (q0j (i := 2) sc_draw.nd rfl (by first | exact Or.inl rfl | exact Or.inr rfl) (q0t (ix_k K rfl) (pv 0) q0f (fun _ _ => rfl))) (q0b (q0u (q0g q5h (q0y (q3o K rfl) (by rfl) T.b_len Cc (q0a (q0t (ix_k K rfl) (pv 0) q0f (fun _ _ => rfl)) q0c)) q0f (nomark _)) (q0d (q0j (i := 2) sc_draw.nd rfl (by first | exact Or.inl rfl | exact Or.inr rfl) (q0t (ix_k K rfl) (q0t (ix_k K rfl) (pv 0) q0f (fun _ _ => rfl)) (q0s q6p (q0t (ix_k K rfl) (pv 0) q0f (fun _ _ => rfl)) (q0y (q3o K rfl) (by rfl) T.b_len Cc (q0a (q0t (ix_k K rfl) (pv 0) q0f (fun _ _ => rfl)) q0c))) (fun _ _ => rfl)))) q0i) (q0b (q0u (q0g z7n (pv 2) (q0s z9m q0f q0f) (nomark _)) (q0b (q0j (i := 3) sc_draw.nd rfl (by first | exact Or.inl rfl | exact Or.inr rfl) (q0s q6p (q0s q5q (q0s q0n (q0s q0n (q0s q6p (pv 2) q0f) (q0s q5q q0f (q0t (ix_k K rfl) (pv 0) q0f (fun _ _ => rfl)))) q0f) q0f) q0f)) (q0b (q0j (i := 3) sc_draw.nd rfl (by first | exact Or.inl rfl | exact Or.inr rfl) (q0s q6p (q0s q5q (pv 3) (q0s q0n (pv 3) q0f)) q0f)) (q0d (q0l (q0s q6p (q0s z4o (pv 3) q0f) (pv 1)))))) q0i) (q0d (q5g (pv 2) (z4l (pv 0) q0f q4x)))))) q0i) (q0b (q0j (i := 4) sc_draw.nd rfl (by first | exact Or.inl rfl | exact Or.inr rfl) (q0s q6p (q0t (ix_k K rfl) (pv 0) q0f (fun _ _ => rfl)) (pv 1))) (q0b (q5g (q0s z4o (q0t (ix_k K rfl) (pv 0) q0f (fun _ _ => rfl)) (pv 1)) (z4l (pv 0) q0f q4x)) (q0d (q0l (pv 4))))))), ?_⟩;have nba : b ≠ a := FeedAt.ne ⟨⟨i, j, ha⟩, ns, hb⟩;refine ⟨_, rfl, .inl ⟨a, _, 1, _, rfl, rfl, SqL.of ha, rfl, .inl ⟨_, _, rfl, rfl, _, rfl, a, _, 1, 1, rfl, rfl, ha, rfl, ?_⟩⟩⟩;generalize hH1 : upd H a _ = H1;have ha1 : H1 a = some (.lst [.ref b, .int (i + 1), .int j]) := by rw [← hH1]; exact q0e
    have hb1 : H1 b = some (.lst (ns.map V.int)) := by rw [← hH1, q0m nba]; exact hb
    have fd : ∀ (x y : Int), Fd a b H (upd H1 a (.lst [.ref b, .int x, .int y])) := fun x y => ⟨⟨⟨x, y, q0e⟩, ns, by rw [q0m nba]; exact hb1⟩, fun c o e hc => by rw [q0m hc, ← hH1, q0m hc]; exact e⟩
    have fd1 : Fd a b H H1 := ⟨⟨⟨_, _, ha1⟩, ns, hb1⟩, fun c o e hc => by rw [← hH1, q0m hc]; exact e⟩
    refine ⟨_, rfl, .inl ⟨a, _, 2, _, rfl, rfl, SqL.of ha1, rfl, .inl ⟨rfl, _, rfl, ?_⟩⟩⟩;have last : ∀ (H2 : Hp) (σ2 : St) (y : Int), H2 a = some (.lst [.ref b, .int (i + 1), .int y]) → (∀ x y : Int, Fd a b H (upd H2 a (.lst [.ref b, .int x, .int y]))) → σ2[0]? = some (some (.ref a)) → σ2[1]? = some (some (.int m)) → σ2.length = 5 →
        tSeq (tAsg (tOp (rI (fun _ j => 0 < j) fun i j => .int (i % j)) (tOp (rIx K) (tVar 0) (tC (.int 2))) (tVar 1)) (gName 4)) (tSeq (tAsg (tOp (rI CDiv fun i j => .int (i / j)) (tOp (rIx K) (tVar 0) (tC (.int 2))) (tVar 1)) (gSub (tVar 0) (tC (.int 2)) rSetL)) (tRet (tVar 4))) { nx := fun _ H' => Q .non H', rt := Q } σ2 H2 := by
      intro H2 σ2 y h2 f2 e0 e1 el;match σ2, e0, e1, el with
      | [x0, x1, x2, x3, x4], e0, e1, _ =>
        cases e0;cases e1;refine ⟨_, rfl, .inl ⟨a, _, 2, _, rfl, rfl, SqL.of h2, rfl, _, rfl, _, _, rfl, rfl, hm0, ?_⟩⟩;refine ⟨_, rfl, .inl ⟨a, _, 2, _, rfl, rfl, SqL.of h2, rfl, _, rfl, _, _, rfl, rfl, ⟨hm0, hm1⟩, _, rfl, a, _, 2, 2, rfl, rfl, h2, rfl, _, rfl, ?_⟩⟩;exact k _ _ (Ip _ (by lia)) (Hd _ hm0) (f2 _ _)
    refine ite2 (fun _ => ?_) (fun _ => last H1 _ j ha1 fd rfl rfl rfl);refine ⟨_, rfl, .inl ⟨a, _, 1, _, rfl, rfl, SqL.of ha1, rfl, ?_⟩⟩;refine ⟨_, rfl, .inl ⟨a, _, 0, _, rfl, rfl, SqL.of ha1, rfl, ⟨_, _, rfl, .inl ⟨_, SqL.of hb1, rfl⟩, ⟨_, _, rfl, rfl, _, rfl, ?_⟩⟩⟩⟩
    have rest : ∀ cell : Int, tSeq (tIfS (tTest (tOp (rI0 fun i j => .bl (decide (i < j))) (tVar 2) (tOp (rI CPow fun i j => .int (i ^ j.toNat)) (tC (.int 10)) (tC (.int 18)))))
          (tSeq (tAsg (tOp (rI (fun _ j => 0 < j) fun i j => .int (i % j)) (tOp rMulU (tOp rAddU (tOp rAddU (tOp (rI (fun _ j => 0 < j) fun i j => .int (i % j)) (tVar 2) (tC (.int 2147483647))) (tOp rMulU (tC (.int 613)) (tOp (rIx K) (tVar 0) (tC (.int 1))))) (tC (.int 7))) (tC (.int 48271))) (tC (.int 2147483647))) (gName 3))
            (tSeq (tAsg (tOp (rI (fun _ j => 0 < j) fun i j => .int (i % j)) (tOp rMulU (tVar 3) (tOp rAddU (tVar 3) (tC (.int 69621)))) (tC (.int 2147483629))) (gName 3))
              (tRet (tOp (rI (fun _ j => 0 < j) fun i j => .int (i % j)) (tOp (rI CDiv fun i j => .int (i / j)) (tVar 3) (tC (.int 64))) (tVar 1))))) tNext)
          (tAsg (tVar 2) (gSub (tVar 0) (tC (.int 2)) rSetL))
        { nx := fun σ2 H2 => tSeq (tAsg (tOp (rI (fun _ j => 0 < j) fun i j => .int (i % j)) (tOp (rIx K) (tVar 0) (tC (.int 2))) (tVar 1)) (gName 4)) (tSeq (tAsg (tOp (rI CDiv fun i j => .int (i / j)) (tOp (rIx K) (tVar 0) (tC (.int 2))) (tVar 1)) (gSub (tVar 0) (tC (.int 2)) rSetL)) (tRet (tVar 4))) { nx := fun _ H' => Q .non H', rt := Q } σ2 H2, rt := Q }
        [some (.ref a), some (.int m), some (.int cell), none, none] H1 := by
      intro cell;refine ⟨_, rfl, _, _, rfl, rfl, ⟨by decide, by decide, by decide⟩, _, _, rfl, rfl, _, rfl, ?_⟩;refine ite2 (fun _ => ?_) (fun _ => ?_)
      · refine ⟨_, rfl, _, _, rfl, rfl, (by show (0 : Int) < 2147483647; decide), ?_⟩;refine ⟨_, rfl, .inl ⟨a, _, 1, _, rfl, rfl, SqL.of ha1, rfl, .inl ⟨_, _, rfl, rfl, .inl ⟨by decide, by decide⟩, .inl ⟨_, _, rfl, rfl, .inl ⟨_, _, rfl, rfl, .inl ⟨_, _, rfl, rfl, .inr ⟨by decide, by decide⟩, _, _, rfl, rfl, (by show (0 : Int) < 2147483647; decide), ?_⟩⟩⟩⟩⟩⟩;generalize hn : ((cell % 2147483647 + 613 * (i + 1) + 7) * 48271) % 2147483647 = n;have n0 : 0 ≤ n := by rw [← hn]; exact Ip _ (by decide)
        have n1 : n < 2147483647 := by rw [← hn]; exact Hd _ (by decide)
        refine ⟨_, rfl, _, rfl, .inl ⟨_, _, rfl, rfl, .inl ⟨_, _, rfl, rfl, .inl ⟨by lia, by lia⟩, _, _, rfl, rfl, (by show (0 : Int) < 2147483629; decide), ?_⟩⟩⟩;refine ⟨_, rfl, _, _, rfl, rfl, ⟨by decide, by decide⟩, _, rfl, _, _, rfl, rfl, hm0, ?_⟩;exact k _ _ (Ip _ (by lia)) (Hd _ hm0) fd1
      · refine ⟨_, rfl, _, rfl, a, _, 2, 2, rfl, rfl, ha1, rfl, ?_⟩;refine last _ _ cell q0e (fun x y => ?_) rfl rfl rfl;have := fd x y;rw [x0q];exact this
    refine ite2 (fun hl => ?_) (fun _ => rest _);have hne : ns.map V.int ≠ [] := by
      intro z;rw [z] at hl;simp at hl
    obtain ⟨x, hx, ex⟩ := x1b (i + 1) hne;obtain ⟨c, rfl⟩ : ∃ c, x = V.int c := by
      obtain ⟨c, _, e⟩ := Bt.mp hx;exact ⟨c, e.symm⟩
    refine ⟨_, rfl, .inl ⟨a, _, 0, _, rfl, rfl, SqL.of ha1, rfl, ⟨_, rfl, .inl ⟨a, _, 1, _, rfl, rfl, SqL.of ha1, rfl, ⟨_, rfl, .inl ⟨a, _, 0, _, rfl, rfl, SqL.of ha1, rfl, ⟨_, _, rfl, .inl ⟨_, SqL.of hb1, rfl⟩, _, _, rfl, rfl, ?_, ?_⟩⟩⟩⟩⟩⟩⟩
    · have : 0 < (ns.map V.int).length := by
        cases e : ns.map V.int with
        | nil => exact absurd e hne
        | cons _ _ => simp
      show (0 : Int) < ((ns.map V.int).length : Int);lia
    · exact .inl ⟨b, _, _, _, rfl, rfl, SqL.of hb1, ex, rest c⟩
abbrev z1f:Stmt:=top 66
theorem x1n:FnScope ["_law_feed", "_law_signs_here", "_law_size"] ["_law_feed", "_law_signs_here", "_law_size"] (defScope z1f):=by trivial
theorem x1o(D:Df K mg "_law_text" z1f ["_law_feed", "_law_signs_here", "_law_size"])(T:Txt mg)(draw:Cal P w K mg base "_law_draw" 1 ["_law_feed", "_law_many"] spDraw):Cal P w K mg base "_law_text" 2 ["_law_feed", "_law_signs_here", "_law_size"] spText:=by
 refine D.cal x1n (fun vs H Q E h=>?_) (fun f cdv A outer s H vs Q E hr h=>?_)
 ·obtain⟨a,b,g,n,rfl,_⟩:=h;rfl
 ·obtain⟨a,b,g,n,rfl,F,hg0,hg1,hn0,hn1,k⟩:=h;have C:Calls P w K mg base:=⟨draw⟩
  refine⟨_,(q0d (q0l (@bm_k _ _ _ _ _ _ _ _ _ _ _ _ K rfl Bo Ma Mb (z9r K rfl) q0h (q0a (q4y ["_law_k"] [("_law_signs_here",1),("_law_feed",0)] rfl (q1v rfl T.b_range (q0a (pv 2) q0c)) (fun _ _ _ _ _=>(q0k (i:=0) (show(["_law_k", "_law_signs_here", "_law_feed"]:List Str).Nodup by decide +kernel) rfl (by trivial))) (fun _ _ _ _ _=>z0s) (fun _ _ _ _ _=>(q0t (ix_k K rfl) (pv 1) (pe_c C.draw hr (q0a (pv 2) (q0a (q0y (q3o K rfl) (by rfl) T.b_len Cc (q0a (pv 1) q0c)) q0c))) (fun _ _=>rfl)))) q0c) (by rfl) (by rfl) (by rfl) (by rfl) (by rfl)))),?_⟩;refine⟨rfl,_,rfl,n,rfl,by lia,by lia,fun D hD=>?_⟩;refine z0w (n:=n.toNat) (fun i ys H'=>∃cs:List Nat,ys=cs.map (fun c=>V.str ⟨#[c]⟩)/\cs.length=i/\i<=n.toNat/\(∀c∈cs,c∈tl g)/\Fd a b H H'/\H' D=some (.lst ys)) ⟨[],rfl,rfl,Au _,fun _ h=>(nomatch h),(Fd.refl F).new hD,q0e⟩ (fun i ys H' ⟨cs,_,_,_,_,_,h⟩=>h) ?_ ?_
  ·rintro i ys H' hi ⟨cs,rfl,hl,_,hc,fd,hHD⟩;refine⟨_,rfl,_,rfl,_,rfl,_,_,rfl,⟨small (by lia),rfl⟩,a,b,_,rfl,fd.feed,by lia,by lia,fun r H2 r0 r1 fd2=>?_⟩;have hl2:(tl g).length=g.length:=(len g).symm;obtain⟨c,hc1,hc2⟩:=z2d (xs:=tl g) r0 (by lia);refine .inr (.inr ⟨g,r,c,rfl,rfl,small (by lia),hc2,?_⟩);have hDa:D≠a:=fun z=>by subst z;exact F.na hD rfl
   refine⟨fd2.at hHD hDa,small' (by rw[Ad];lia),cs++[c],by rw[Ax];rfl,by rw[Ac,hl];rfl,by lia,fun d hd=>?_,(fd.trans fd2).put F hD,q0e⟩;rcases Aw.mp hd with z|z
   ·exact hc d z
   ·rw[Al.mp z];exact As hc1
  ·rintro ys H' ⟨cs,rfl,hl,_,hc,fd,hHD⟩;have e:cs.map (fun c=>V.str ⟨#[c]⟩)=(cs.map fun c=>(⟨#[c]⟩:Str)).map V.str:=by rw[Cw];rfl
   refine⟨_,D,cs.map fun c=>⟨#[c]⟩,rfl,rfl,.inl (SqL.of (by rw[<- e];exact hHD)),?_,?_⟩
   ·rw[z7y,Ad];have:(Aa "").length=0:=by decide +kernel
    rw[this];lia
   ·have z:=z5i cs;rw[z];exact k cs H' hl hc fd
abbrev q2p:Stmt:=top 64
theorem q7y:FnScope [] [] (defScope q2p):=by trivial
theorem q7z(D:Df K mg "_law_name_signs" q2p []):Cal P w K mg base "_law_name_signs" 1 [] (spConst NSs):=by
 refine D.cal q7y (fun vs H Q E h=>?_) (fun f cdv A outer s H vs Q E hr h=>?_)
 ·obtain⟨rfl,_⟩:=h;rfl
 ·obtain⟨rfl,k⟩:=h;refine⟨_,(q0d (q0l q0h)),?_⟩;exact k
def spAsk:Sp:=fun vs H Q _=>∃l,vs=[.str (mk l)]/\Good l/\∀H',Same H H'->Q .non H'
theorem gn_in:∀c,decide (c∈tl (Aa "?*#@" ++ Aa "abcdefghijklmnopqrstuvwxyzABCDEFGHIJKLMNOPQRSTUVWXYZ0123456789-_."))=decide (c∈GS\/c∈NS):=fun c=>by
 rw[q2c];exact decide_eq_decide.mpr Aw
abbrev q3b:Stmt:=top 15
theorem sc_ask_signs:FnScope ["pattern", "gaps", "at", "sign"] ["pattern"] (defScope q3b):=by trivial
theorem q9y(D:Df K mg "ask_signs" q3b ["pattern"])(T:Txt mg):Cal P w K mg base "ask_signs" 1 ["pattern"] spAsk:=by
 refine D.cal sc_ask_signs (fun vs H Q E h=>?_) (fun f cdv A outer s H vs Q E hr h=>?_)
 ·obtain⟨l,rfl,_⟩:=h;rfl
 ·obtain⟨l,rfl,hg,k⟩:=h;obtain⟨_,g_NAME_SIGNS⟩:=T.NAME_SIGNS;obtain⟨_,g_GAP_SIGNS⟩:=T.GAP_SIGNS;obtain⟨_,g_MOST_GAPS⟩:=T.MOST_GAPS;refine⟨_,(q0b (q0j (i:=1) sc_ask_signs.nd rfl (by trivial) q0f) (q0d (q1h Bd rfl (@z9s _ _ _ _ _ _ _ _ K rfl rfl T.b_enumerate (q0a (pv 0) q0c) (by rfl)) (@q2z _ _ _ _ (2) _ K rfl rfl (q0q (q0k (i:=2) sc_ask_signs.nd rfl (by trivial)) (q0q (q0k (i:=3) sc_ask_signs.nd rfl (by trivial)) q2b)) (by rfl) (by rfl)) (q1k (q0u (q0g (in_k K rfl) (pv 3) (q1c (v:=.str (Aa "?*#@")) (by rfl) g_GAP_SIGNS ⟨_,rfl⟩) (by with_unfolding_all rfl)) (q0d (z1v (i:=1) sc_ask_signs.nd rfl (by trivial) q0f z4p)) q0i) (q0d (q0u (pt_j (@PW.pt _ _ _ (z4j (q0g q5h (pv 1) (q1c (v:=.int 9) (by rfl) g_MOST_GAPS ⟨_,rfl⟩) (nomark _)) (q9c (q0g (z5f K rfl) (pv 3) (q0s q0n (q1c (v:=.str (Aa "?*#@")) (by rfl) g_GAP_SIGNS ⟨_,rfl⟩) (q1c (v:=.str (Aa "abcdefghijklmnopqrstuvwxyzABCDEFGHIJKLMNOPQRSTUVWXYZ0123456789-_.")) (by rfl) g_NAME_SIGNS ⟨_,rfl⟩)) (by with_unfolding_all rfl)))))) (q0d q1l) q0i)))))),?_⟩;have hlen:(mk l).length=l.length:=by rw[len,q0v]
  refine⟨_,rfl,.inl ⟨_,rfl,q9r (fun i σ' H'=>∃x2 x3,σ'=[some (.str (mk l)),some (.int (((l.take i).filter fun c=>decide (c∈GS)).length:Nat)),x2,x3]/\Same H H') ⟨none,none,rfl,Same.refl H⟩ ?_ ?_⟩⟩
  ·rintro i c T' σ' H' hc ⟨x2,x3,rfl,sm⟩ hT;have hci:l[i]?=some c:=by have:=get hc;rw[q0v] at this;exact this
   have hcl:c∈l:=As hci;have hi:i<l.length:=(Aj.mp hci).1;have hcount:((l.take (i+1)).filter fun c=>decide (c∈GS)).length<=9:=by
    refine Ap (List.Sublist.length_le ?_) hg.gp;exact(Np _ _).filter _
   have htake:((l.take (i+1)).filter fun c=>decide (c∈GS)).length=((l.take i).filter fun c=>decide (c∈GS)).length+(if c∈GS then 1 else 0):=by
    rw[q0z hci,Fh,Ac];congr 1;by_cases h:c∈GS
    ·rw[if_pos h,z8a h];rfl
    ·rw[if_neg h,z8b h];rfl
   refine⟨T',_,rfl,SqT.of q0e,rfl,_,_,rfl,_,_,rfl,rfl,?_⟩;generalize hH2:upd H' T' _=H2;have sm2:Same H H2:=by rw[<- hH2];exact sm.new hT
   refine⟨fun σ2 H3=>σ2=[some (.str (mk l)),some (.int (((l.take (i+1)).filter fun c=>decide (c∈GS)).length:Nat)),some (.int (i:Nat)),some (.str ⟨#[c]⟩)]/\H3=H2,?_,?_⟩
   ·rintro σ2 H3 ⟨rfl,rfl⟩;refine⟨fun b H4=>b=false/\H4=H3,?_,?_⟩
    ·rintro b H4 ⟨rfl,rfl⟩;exact iteF ⟨_,_,rfl,sm2⟩
    ·refine⟨_,rfl,_,_,rfl,rfl,_,rfl,?_⟩;refine iteB (fun h=>?_) (fun h=>?_)
     ·exact absurd (of_decide_eq_true h) (by lia)
     ·refine⟨_,rfl,.inr (.inl ⟨_,_,rfl,rfl,by decide +kernel,.inl ⟨_,_,rfl,rfl,_,rfl,?_,rfl⟩⟩)⟩;rw[q2x,gn_in,decide_eq_true (hg.sg c hcl)];rfl
   ·refine⟨_,rfl,.inl ⟨_,_,rfl,rfl,_,rfl,?_⟩⟩;rw[q2x];refine ite2 (fun h=>?_) (fun h=>?_)
    ·have h':c∈GS:=of_decide_eq_true h;refine⟨_,rfl,_,_,rfl,rfl,?_,rfl⟩;rw[htake,if_pos h'];rfl
    ·have h':¬c∈GS:=fun z=>h (decide_eq_true z);refine⟨?_,rfl⟩;rw[htake,if_neg h'];rfl
  ·rintro σ' H' ⟨x2,x3,rfl,sm⟩;exact k _ sm
def spTextParts:Sp:=fun vs H Q _=>∃t,vs=[.str (mk t)]/\∀L H',H L=none->Same H H'->HL H' L (tp t)->Q (.ref L) H'
theorem z6c{t:List Nat}:decide (V.str (mk t)=V.str (Aa ""))=decide (t=[]):=by
 refine decide_eq_decide.mpr ⟨fun h=>?_,fun h=>by rw[h];rfl⟩;injection h with h;have:=congrArg tl h;rw[q0v] at this;rw[this];decide +kernel
abbrev q2q:Stmt:=top 16
theorem q8a:FnScope ["text"] ["text"] (defScope q2q):=by trivial
theorem q8b(D:Df K mg "text_parts" q2q ["text"])(T:Txt mg):Cal P w K mg base "text_parts" 1 ["text"] spTextParts:=by
 refine D.cal q8a (fun vs H Q E h=>?_) (fun f cdv A outer s H vs Q E hr h=>?_)
 ·obtain⟨t,rfl,_⟩:=h;rfl
 ·obtain⟨t,rfl,k⟩:=h;refine⟨_,(q0b (q0u (q0g (eq_k K rfl hr) (pv 0) q0h (nomark _)) (q0d (q0l (q1t q0c))) q0i) (q0d (q0l (q1t (q0a (q0w (q0a q0h (q0a (pv 0) q0c))) q0c))))),?_⟩;refine⟨_,rfl,.inl ⟨rfl,_,rfl,?_⟩⟩;rw[z6c];refine ite2 (fun h=>?_) (fun h=>?_)
  ·have h':=of_decide_eq_true h;refine⟨by show 0<=sizeLine;decide,fun L hL=>k L _ hL ((Same.refl H).new hL) ⟨[],q0e,?_⟩⟩;unfold tp;rw[if_pos h'];exact .nil
  ·have h':¬t=[]:=fun z=>h (decide_eq_true z);refine⟨_,rfl,by show 2<=sizeLine;decide,fun T1 h1=>⟨by show 1<=sizeLine;decide,fun L hL=>k L _ ?_ (((Same.refl H).new h1).new hL) ⟨[T1],q0e,?_⟩⟩⟩
   ·have s1:Same H (upd H T1 (.tup [.str (Aa "text"),.str (mk t)])):=(Same.refl H).new h1;exact s1.free hL
   ·unfold tp;rw[if_neg h'];refine .cons ?_ .nil;have:T1≠L:=q0r q0e hL;rw[q0m this];exact q0e
structure Calls1 (P:Program) (w:World) (K:Ae) (mg:Str->Option Value) (base:Heap):Prop where
 ask_signs:Cal P w K mg base "ask_signs" 1 ["pattern"] spAsk
 text_parts:Cal P w K mg base "text_parts" 1 ["text"] spTextParts
def spPartsOf:Sp:=fun vs H Q _=>∃l,vs=[.str (mk l)]/\Good l/\∀L H',H L=none->Same H H'->HL H' L (parse [] l)->Q (.ref L) H'
theorem q5x{l:List Nat}{i j:Nat}(h1:i<=j)(h2:j<=l.length):Lb (mk l) (some (i:Int)) (some (j:Int))=mk ((l.drop i).take (j-i)):=by
 show Eb (mk l) (some (i:Int)) (some (j:Int))=_;rw[StrLaws.sliceText_plain ⟨by lia,by lia,by rw[show((mk l).cps.toList).length=l.length from congrArg List.length (q0v l)];lia⟩];have e1:((i:Nat):Int).toNat=i:=by lia
 have e2:(((j:Nat):Int)-((i:Nat):Int)).toNat=j-i:=by lia
 show mk (((mk l).cps.toList.drop ((i:Nat):Int).toNat).take (((j:Nat):Int)-((i:Nat):Int)).toNat)=_;rw[show(mk l).cps.toList=l from q0v l,e1,e2]
abbrev q3u:Stmt:=top 17
theorem sc_parts_of:FnScope ["pattern", "parts", "begin", "at", "sign"] ["pattern"] (defScope q3u):=by trivial
theorem z1g(D:Df K mg "parts_of" q3u ["pattern"])(T:Txt mg)(C:Calls1 P w K mg base):Cal P w K mg base "parts_of" 2 ["pattern"] spPartsOf:=by
 refine D.cal sc_parts_of (fun vs H Q E h=>?_) (fun f cdv A outer s H vs Q E hr h=>?_)
 ·obtain⟨l,rfl,_⟩:=h;rfl
 ·obtain⟨l,rfl,hg,k⟩:=h;obtain⟨_,g_NAME_SIGNS⟩:=T.NAME_SIGNS;obtain⟨_,g_GAP_SIGNS⟩:=T.GAP_SIGNS;refine⟨_,(q0b (q0u (q0g (eq_k K rfl hr) (pv 0) q0h (nomark _)) (q0d q1l) q0i) (q0b (q0x (pe_c C.ask_signs hr (q0a (pv 0) q0c))) (q0b (q0j (i:=1) sc_parts_of.nd rfl (by trivial) (q1t q0c)) (q0b (q0j (i:=2) sc_parts_of.nd rfl (by trivial) q0f) (q0b (q1h Bd rfl (@z9s _ _ _ _ _ _ _ _ K rfl rfl T.b_enumerate (q0a (pv 0) q0c) (by rfl)) (@q2z _ _ _ _ (2) _ K rfl rfl (q0q (q0k (i:=3) sc_parts_of.nd rfl (by trivial)) (q0q (q0k (i:=4) sc_parts_of.nd rfl (by trivial)) q2b)) (by rfl) (by rfl)) (q0d (q0u (q0g (in_k K rfl) (pv 4) (q1c (v:=.str (Aa "?*#@")) (by rfl) g_GAP_SIGNS ⟨_,rfl⟩) (by with_unfolding_all rfl)) (q0b (q0x (@bm_k _ _ _ _ _ _ _ _ _ _ _ _ K rfl Bs Kq Kr q9n (pv 1) (q0a (pe_c C.text_parts hr (q0a (q1u (sl_k K rfl) (pv 0) (q1i (pv 2)) (q1i (pv 3))) q0c)) q0c) (by rfl) (by rfl) (by rfl) (by rfl) (by rfl))) (q0b (q0x (@bm_k _ _ _ _ _ _ _ _ _ _ _ _ K rfl Bs Ca Cb q1g (pv 1) (q0a (q0w (q0a q0h (q0a (pv 4) q0c))) q0c) (by rfl) (by rfl) (by rfl) (by rfl) (by rfl))) (q0d (q0j (i:=2) sc_parts_of.nd rfl (by trivial) (q0s q0n (pv 3) q0f))))) q0i))) (q0b (q0x (@bm_k _ _ _ _ _ _ _ _ _ _ _ _ K rfl Bs Kq Kr q9n (pv 1) (q0a (pe_c C.text_parts hr (q0a (q1u (sl_k K rfl) (pv 0) (q1i (pv 2)) q7i) q0c)) q0c) (by rfl) (by rfl) (by rfl) (by rfl) (by rfl))) (q0d (q0l (pv 1))))))))),?_⟩;have hlen:(mk l).length=l.length:=by rw[len,q0v]
  have hl0:=hg.len;refine⟨_,rfl,.inl ⟨rfl,_,rfl,?_⟩⟩;rw[z6c,decide_eq_false hg.ne];refine iteF ?_;refine⟨_,rfl,l,rfl,hg,fun H1 sm1=>?_⟩;refine⟨by show 0<=sizeLine;decide,fun L hL=>?_⟩;have hL0:H L=none:=sm1.free hL;have ext:∀(H':Hp) (acc:List Pt) (t:List Nat) (M:Addr) (H2:Hp),HL H' L acc->acc.length<=5000->Same H H'->H' M=none->Same H' H2->HL H2 M (tp t) ->
    ∃xs zs,H2 L=some (.lst xs)/\H2 M=some (.lst zs)/\xs.length+zs.length<=sizeLine/\HL (upd H2 L (.lst (xs++zs))) L (acc++tp t)/\Same H (upd H2 L (.lst (xs++zs))):=by
   intro H' acc t M H2 hl ha sm hM sm2 hm;obtain⟨Ts,h1,h2⟩:=hl.ex;obtain⟨Us,h3,h4⟩:=hm.ex;have l1:=h2.len;have l2:=h4.len;have l3:(tp t).length<=1:=by unfold tp;split<;>simp
   have hL2:H2 L=some (.lst (Ts.map V.ref)):=sm2 _ _ h1;refine⟨_,_,hL2,h3,by rw[Ad,Ad];exact small (by lia),⟨Ts++Us,by rw[Ax];exact q0e,?_⟩,(sm.trans sm2).put hL0⟩;exact Tups.app ((h2.keep (Same.tk sm2)).keep ((TKeep.refl H2).lst hL2)) (h4.keep ((TKeep.refl H2).lst hL2))
  refine⟨_,rfl,.inl ⟨_,rfl,q9r (fun i σ' H'=>∃acc x3 x4 bg,σ'=[some (.str (mk l)),some (.ref L),some (.int (bg:Nat)),x3,x4]/\Same H H'/\HL H' L acc/\bg<=i/\i<=l.length/\acc.length<=2*i/\acc++parse ((l.drop bg).take (i-bg)) (l.drop i)=parse [] l) ⟨[],none,none,0,rfl,(sm1.new hL),⟨[],q0e,.nil⟩,Af _,Au _,Af _,by simp⟩ ?_ ?_⟩⟩
  ·rintro i c T' σ' H' hc ⟨acc,x3,x4,bg,rfl,sm,hl,hbi,hil,hal,hp⟩ hT;have hci:l[i]?=some c:=by have:=get hc;rw[q0v] at this;exact this
   have hi:i<l.length:=(Aj.mp hci).1;have hdr:l.drop i=c::l.drop (i+1):=by
    have:=Gu hi;rw[this];congr 1;exact(Aj.mp hci).2
   refine⟨T',_,rfl,SqT.of q0e,rfl,_,_,rfl,_,_,rfl,rfl,?_⟩;generalize hH2:upd H' T' _=H2;have s12:Same H' H2:=by rw[<- hH2];exact(Same.refl H').new hT
   have sm2:Same H H2:=sm.trans s12;have hl2:HL H2 L acc:=hl.same s12;refine⟨_,rfl,.inl ⟨_,_,rfl,rfl,_,rfl,?_⟩⟩;rw[q2x];rw[hdr,parse] at hp;refine ite2 (fun h=>?_) (fun h=>?_)
   ·have h':c∈GS:=of_decide_eq_true h;rw[if_pos h'] at hp;refine⟨_,rfl,.inl ⟨rfl,hl2.sq⟩,_,rfl,_,rfl,_,rfl,_,rfl,_,rfl,.inl ⟨_,rfl,small (by lia),?_⟩⟩;rw[q5x hbi hil];refine⟨_,rfl,fun M H3 hM sm3 hm=>?_⟩;obtain⟨xs,zs,e1,e2,e3,e4,e5⟩:=ext H2 acc _ M H3 hl2 (by lia) sm2 hM sm3 hm;refine⟨L,M,xs,zs,rfl,rfl,e1,e2,e3,?_⟩;generalize hH4:upd H3 L _=H4;rw[hH4] at e4 e5;refine⟨_,rfl,.inl ⟨rfl,e4.sq⟩,_,rfl,by show 2<=sizeLine;decide,fun T2 hT2=>?_⟩;have e6:HL (upd H4 T2 (.tup (Pt.gp c).vs)) L _:=e4.new hT2;obtain⟨Ts,h1,h2⟩:=e6.ex;have htl:(tp ((l.drop bg).take (i-bg))).length<=1:=by unfold tp;split<;>simp
    have hTl:=h2.len;rw[Ac] at hTl;refine⟨L,_,_,rfl,rfl,h1,by rw[Ad];exact small' (by lia),?_⟩;refine⟨_,rfl,.inl ⟨_,_,rfl,rfl,?_⟩⟩;have hT2L:T2≠L:=fun z=>by subst z;rw[q0e] at h1;cases h1
    refine⟨acc++tp ((l.drop bg).take (i-bg))++[.gp c],some (.int (i:Nat)),some (.str ⟨#[c]⟩),i+1,rfl,(e5.new hT2).put hL0,⟨Ts++[T2],by rw[Ax];exact q0e,?_⟩,Af _,hi,by rw[Ac,Ac,Bh];lia,?_⟩
    ·refine Tups.app (h2.keep ((TKeep.refl _).lst h1)) (.cons ?_ .nil);rw[q0m hT2L];exact q0e
    ·rw[<- hp];simp
   ·have h':¬c∈GS:=fun z=>h (decide_eq_true z);rw[if_neg h'] at hp;refine⟨acc,_,_,bg,rfl,sm2,hl2,by lia,hi,by lia,?_⟩;rw[<- hp];congr 2;have e1:i+1-bg=(i-bg)+1:=by lia
    rw[e1];refine q0z ?_;rw[Hf];have e2:bg+(i-bg)=i:=by lia
    rw[e2];exact hci
  ·rintro σ' H' ⟨acc,x3,x4,bg,rfl,sm,hl,hbi,hil,hal,hp⟩;refine⟨_,rfl,.inl ⟨rfl,hl.sq⟩,_,rfl,_,rfl,_,rfl,.inl ⟨_,rfl,small (by lia),?_⟩⟩;have hbl:bg<=l.length:=by lia
   rw[z3t (by lia) (by rw[q0v];lia),q0v];refine⟨_,rfl,fun M H3 hM sm3 hm=>?_⟩;obtain⟨xs,zs,e1,e2,e3,e4,e5⟩:=ext H' acc _ M H3 hl (by lia) sm hM sm3 hm;refine⟨L,M,xs,zs,rfl,rfl,e1,e2,e3,_,rfl,?_⟩;refine k L _ hL0 e5 ?_;rw[hlen] at hp;have e6:(l.drop bg).take (l.length-bg)=l.drop bg:=Cj (by rw[Bk];exact Af _);rw[Ge,parse,e6] at hp;have e7:((bg:Nat):Int).toNat=bg:=by lia
   rw[e7] at e4;rw[<- hp];exact e4
def spAllOf:Sp:=fun vs H Q _=>∃t g,vs=[.str (mk t),.str g]/\t.length<=1000/\∀H',Same H H'->Q (.bl (allOf t (tl g))) H'
abbrev q5y:Stmt:=top 11
theorem z6d:FnScope ["text", "signs"] ["text", "signs"] (defScope q5y):=by trivial
theorem z6e(D:Df K mg "all_of" q5y ["text", "signs"])(T:Txt mg):Cal P w K mg base "all_of" 1 ["text", "signs"] spAllOf:=by
 refine D.cal z6d (fun vs H Q E h=>?_) (fun f cdv A outer s H vs Q E hr h=>?_)
 ·obtain⟨t,g,rfl,_⟩:=h;rfl
 ·obtain⟨t,g,rfl,hl,k⟩:=h;refine⟨_,(q0d (q0l (pe_j (z9l (q4g (ne_k K rfl hr) (pv 0) q0h (nomark _)) (z4k (q0y (all_k K rfl rfl) (by rfl) T.b_all (by decide +kernel) (q0a (q4y ["sign"] [("signs",1)] rfl (@q2y _ _ _ _ K rfl (pv 0)) (fun _ _ _ _ _=>(q0k (i:=0) (show(["sign", "signs"]:List Str).Nodup by decide +kernel) rfl (by trivial))) (fun _ _ _ _ _=>z0s) (fun _ _ _ _ _=>(q4g (in_k K rfl) (pv 0) (pv 1) (by with_unfolding_all rfl)))) q0c))))))),?_⟩;refine⟨fun v H'=>v=.bl (allOf t (tl g))/\Same H H',?_,?_⟩
  ·rintro v H' ⟨rfl,sm⟩;exact k H' sm
  refine⟨_,rfl,.inl ⟨rfl,_,rfl,?_⟩⟩;rw[z6c];refine iteB (fun h=>?_) (fun h=>?_)
  ·have hne:¬t=[]:=fun z=>by rw[decide_eq_true z] at h;cases h
   refine⟨_,rfl,.inr (.inr ⟨mk t,rfl,fun D hD=>?_⟩)⟩;refine z5g (fun i ys H'=>ys=(t.take i).map (fun c=>V.bl (decide (c∈tl g)))/\Same H H'/\H' D=some (.lst ys)/\ys.length<=i/\i<=t.length) ⟨rfl,(Same.refl H).new hD,q0e,Af _,Au _⟩ (fun i ys H' h=>h.2.2.1) ?_ ?_
   ·rintro i ys H' c hc ⟨rfl,sm,hHD,hle,_⟩;have hci:t[i]?=some c:=by have:=get hc;rw[q0v] at this;exact this
    have hi:i<t.length:=(Aj.mp hci).1;refine⟨_,rfl,_,rfl,.inl ⟨_,_,rfl,rfl,hHD,small' (by lia),?_,sm.put hD,q0e,?_,hi⟩⟩
    ·rw[q0z hci,Ax,q2x];rfl
    ·rw[Ac,Bh];lia
   ·rintro ys H' ⟨rfl,sm,hHD,_,_⟩;have e3:t.take (mk t).length=t:=by rw[q0o];exact Cj (Af _)
    rw[e3] at hHD;refine⟨D,t.map fun c=>decide (c∈tl g),rfl,SqL.of (by rw[Cw];exact hHD),?_,sm⟩;unfold allOf;rw[decide_eq_true hne,Bool.true_and,List.all_map];rfl
  ·have he:t=[]:=Dx fun z=>by rw[decide_eq_false z] at h;cases h
   refine⟨?_,Same.refl H⟩;subst he;rfl
def spGapTakes:Sp:=fun vs H Q _=>∃c t,vs=[.str (mk [c]),.str (mk t)]/\t.length<=1000/\∀H',Same H H'->Q (.bl (gapTakes c t)) H'
structure CallsA (P:Program) (w:World) (K:Ae) (mg:Str->Option Value) (base:Heap):Prop where
 all_of:Cal P w K mg base "all_of" 1 ["text", "signs"] spAllOf
theorem lit1(c d:Nat)(s:String)(h:Aa s=mk [d]):decide (V.str (mk [c])=V.str (Aa s))=decide (c=d):=by
 rw[h,dec_str];exact decide_eq_decide.mpr ⟨fun z=>by injection z,fun z=>by rw[z]⟩
theorem x1p(t:List Nat):decide (V.int (((mk t).length:Nat):Int)=V.int 1)=decide (t.length=1):=by
 rw[q0o];exact decide_eq_decide.mpr ⟨fun z=>by injection z with z;lia,fun z=>by rw[z];rfl⟩
abbrev q3c:Stmt:=top 42
theorem q9z:FnScope ["gap_sign", "text"] ["gap_sign", "text"] (defScope q3c):=by trivial
theorem z0a(D:Df K mg "gap_takes" q3c ["gap_sign", "text"])(T:Txt mg)(C:CallsA P w K mg base):Cal P w K mg base "gap_takes" 2 ["gap_sign", "text"] spGapTakes:=by
 refine D.cal q9z (fun vs H Q E h=>?_) (fun f cdv A outer s H vs Q E hr h=>?_)
 ·obtain⟨c,t,rfl,_⟩:=h;rfl
 ·obtain⟨c,t,rfl,hl,k⟩:=h;obtain⟨_,g_FIGURES⟩:=T.FIGURES;obtain⟨_,g_LETTERS⟩:=T.LETTERS;refine⟨_,(q0b (q0u (q0g (eq_k K rfl hr) (pv 0) q0h (nomark _)) (q0d (q0l (q4g (eq_k K rfl hr) (q0y (q3o K rfl) (by rfl) T.b_len Cc (q0a (pv 1) q0c)) q0f (nomark _)))) q0i) (q0b (q0u (q0g (eq_k K rfl hr) (pv 0) q0h (nomark _)) (q0d (q0l (pe_c C.all_of hr (q0a (pv 1) (q0a (q1c (v:=.str (Aa "0123456789")) (by rfl) g_FIGURES ⟨_,rfl⟩) q0c))))) q0i) (q0b (q0u (q0g (eq_k K rfl hr) (pv 0) q0h (nomark _)) (q0d (q0l (pe_c C.all_of hr (q0a (pv 1) (q0a (q1c (v:=.str (Aa "abcdefghijklmnopqrstuvwxyzABCDEFGHIJKLMNOPQRSTUVWXYZ")) (by rfl) g_LETTERS ⟨_,rfl⟩) q0c))))) q0i) (q0d (q0l q5f))))),?_⟩;have hlen:=q0o t;refine⟨_,rfl,.inl ⟨rfl,_,rfl,?_⟩⟩;rw[lit1 c 63 "?" (by decide +kernel)];refine ite2 (fun h=>?_) (fun h=>?_)
  ·have h':c=63:=of_decide_eq_true h;refine⟨_,rfl,_,_,rfl,⟨small (by lia),rfl⟩,.inl ⟨rfl,?_⟩⟩;rw[x1p];have:=k H (Same.refl H);unfold gapTakes at this;rw[if_pos h'] at this;exact this
  have n1:¬c=63:=fun z=>h (decide_eq_true z);refine⟨_,rfl,.inl ⟨rfl,_,rfl,?_⟩⟩;rw[lit1 c 35 "#" (by decide +kernel)];refine ite2 (fun h=>?_) (fun h=>?_)
  ·have h':c=35:=of_decide_eq_true h;refine⟨_,rfl,t,_,rfl,hl,fun H' sm=>?_⟩;have:=k H' sm;unfold gapTakes at this;rw[if_neg n1,if_pos h'] at this;exact this
  have n2:¬c=35:=fun z=>h (decide_eq_true z);refine⟨_,rfl,.inl ⟨rfl,_,rfl,?_⟩⟩;rw[lit1 c 64 "\x40" (by decide +kernel)];refine ite2 (fun h=>?_) (fun h=>?_)
  ·have h':c=64:=of_decide_eq_true h;refine⟨_,rfl,t,_,rfl,hl,fun H' sm=>?_⟩;have:=k H' sm;unfold gapTakes at this;rw[if_neg n1,if_neg n2,if_pos h'] at this;exact this
  have n3:¬c=64:=fun z=>h (decide_eq_true z);have:=k H (Same.refl H);unfold gapTakes at this;rw[if_neg n1,if_neg n2,if_neg n3] at this;exact this
structure CallsB (P:Program) (w:World) (K:Ae) (mg:Str->Option Value) (base:Heap):Prop where
 gap_takes:Cal P w K mg base "gap_takes" 2 ["gap_sign", "text"] spGapTakes
def spTakes:Sp:=fun vs H Q _=>∃(a:Addr) (p:Pt) (t:List Nat),vs=[.ref a,.str (mk t)]/\H a=some (.tup p.vs)/\p.ok/\t.length<=1000/\∀H',Same H H'->Q (.bl (p.takes t)) H'
theorem wtext:decide (V.str (Aa "text")=V.str (Aa "text"))=true:=decide_eq_true rfl
theorem wgap:decide (V.str (Aa "gap")=V.str (Aa "text"))=false:=by decide +kernel
abbrev q8c:Stmt:=top 43
theorem sc_takes:FnScope ["part", "text", "sort", "what"] ["part", "text"] (defScope q8c):=by trivial
theorem z8m(D:Df K mg "takes" q8c ["part", "text"])(T:Txt mg)(C:CallsB P w K mg base):Cal P w K mg base "takes" 3 ["part", "text"] spTakes:=by
 refine D.cal sc_takes (fun vs H Q E h=>?_) (fun f cdv A outer s H vs Q E hr h=>?_)
 ·obtain⟨a,p,t,rfl,_⟩:=h;rfl
 ·obtain⟨a,p,t,rfl,ha,hok,hl,k⟩:=h;refine⟨_,(q0b (q5g (pv 0) (@q2z _ _ _ _ (2) _ K rfl rfl (q0q (q0k (i:=2) sc_takes.nd rfl (by trivial)) (q0q (q0k (i:=3) sc_takes.nd rfl (by trivial)) q2b)) (by rfl) (by rfl))) (q0b (q0u (q0g (eq_k K rfl hr) (pv 2) q0h (nomark _)) (q0d (q0l (q4g (eq_k K rfl hr) (pv 1) (pv 3) (nomark _)))) q0i) (q0d (q0l (pe_c C.gap_takes hr (q0a (pv 3) (q0a (pv 1) q0c))))))),?_⟩;refine⟨_,rfl,a,_,rfl,SqT.of ha,rfl,_,_,rfl,_,_,rfl,rfl,?_⟩;cases p with
  |tx l =>
   refine⟨_,rfl,.inl ⟨rfl,_,rfl,?_⟩⟩;refine Eq.mpr (congrArg (fun b=>if b=true then _ else _) wtext) ?_;refine iteT ?_;refine⟨_,rfl,_,rfl,.inl ⟨rfl,?_⟩⟩;have:=k H (Same.refl H);rw[show(Pt.tx l).takes t=decide (V.str (mk t)=V.str (mk l)) from(dec_str t l).symm] at this;exact this
  |gp c =>
   refine⟨_,rfl,.inl ⟨rfl,_,rfl,?_⟩⟩;refine Eq.mpr (congrArg (fun b=>if b=true then _ else _) wgap) ?_;refine iteF ?_;exact⟨_,rfl,_,rfl,c,t,rfl,hl,fun H' sm=>k H' sm⟩
structure CallsC (P:Program) (w:World) (K:Ae) (mg:Str->Option Value) (base:Heap):Prop where
 takes:Cal P w K mg base "takes" 3 ["part", "text"] spTakes
def spFurthest:Sp:=fun vs H Q _=>∃a p n d g,vs=[.ref a,.str (mk n),.ref d]/\H a=some (.tup p.vs)/\p.ok/\n.length<=60/\DF H d g/\∀e H',H e=none->Same H H'->DF H' e (far p n fun x=>(g x).isSome)->Q (.ref e) H'
abbrev q1x:Stmt:=top 44
theorem sc_furthest_ends:FnScope ["part", "name", "later", "ends", "begin", "end"] ["part", "name", "later"] (defScope q1x):=by trivial
theorem q4v(D:Df K mg "furthest_ends" q1x ["part", "name", "later"])(T:Txt mg)(C:CallsC P w K mg base):Cal P w K mg base "furthest_ends" 4 ["part", "name", "later"] spFurthest:=by
 refine D.cal sc_furthest_ends (fun vs H Q E h=>?_) (fun f cdv A outer s H vs Q E hr h=>?_)
 ·obtain⟨a,p,n,d,g,rfl,_⟩:=h;rfl
 ·obtain⟨a,p,n,d,g,rfl,ha,hok,hn,hd,k⟩:=h;refine⟨_,(q0b (q0j (i:=3) sc_furthest_ends.nd rfl (by trivial) z2h) (q0b (q1h Bd rfl (q1v rfl T.b_range (q0a (q0s q0n (q0y (q3o K rfl) (by rfl) T.b_len Cc (q0a (pv 1) q0c)) q0f) q0c)) (q0k (i:=4) sc_furthest_ends.nd rfl (by trivial)) (q0d (q1h Bd rfl (z4m rfl T.b_range (q0a (pv 4) (q0a (q0s q0n (q0y (q3o K rfl) (by rfl) T.b_len Cc (q0a (pv 1) q0c)) q0f) q0c))) (q0k (i:=5) sc_furthest_ends.nd rfl (by trivial)) (q0d (q0u (pt_j (@PW.pt _ _ _ (q2w (z4i (pc_din (z0r hr) (pv 5) (pv 2))) (q2k (@tru_k _ _ _ K rfl (pe_c C.takes hr (q0a (pv 0) (q0a (q1u (sl_k K rfl) (pv 1) (q1i (pv 4)) (q1i (pv 5))) q0c))) (fun _=>rfl)))))) (q0d (q7q (z0r hr) (pv 3) (pv 4) (pv 5) rfl)) q0i))))) (q0d (q0l (pv 3))))),?_⟩;have hlen:=q0o n;intro e he;generalize hL:(fun x=>(g x).isSome)=L at k;refine⟨_,rfl,_,_,rfl,⟨small (by lia),rfl⟩,.inl ⟨_,_,rfl,rfl,?_⟩⟩;refine⟨_,rfl,by lia,by lia,q1w (fun i σ' H'=>∃x4 x5 kvs,σ'=[some (.ref a),some (.str (mk n)),some (.ref d),some (.ref e),x4,x5]/\Same H H'/\H' e=some (.dK kvs)/\kvs.length<=i*61/\∀b:Nat,valV kvs (Sum.inl (b:Int))=(if b<i then far p n L b else none).map fun e=>V.int (e:Nat))
   ⟨none,none,[],rfl,(Same.refl H).new he,q0e,Au _,fun b=>by rw[if_neg (Nat.not_lt_zero b)];rfl⟩ ?_ ?_⟩
  ·rintro i σ' H' hi ⟨x4,x5,kvs,rfl,sm,hHe,hkl,hkv⟩;have hi':i<=n.length:=by lia
   rw[show(0:Int)+(i:Int)=((i:Nat):Int) from by lia];refine⟨_,rfl,_,rfl,_,_,rfl,⟨small (by lia),rfl⟩,.inl ⟨_,_,rfl,rfl,?_⟩⟩;have ek:((((mk n).length:Nat):Int)+1-((i:Nat):Int)).toNat=n.length+1-i:=by lia
   refine⟨_,_,rfl,⟨by lia,by lia,by lia,by lia⟩,?_⟩;rw[ek];refine q1w (fun j σ2 H2=>∃x5 kvs,σ2=[some (.ref a),some (.str (mk n)),some (.ref d),some (.ref e),some (.int (i:Nat)),x5]/\Same H H2/\H2 e=some (.dK kvs)/\kvs.length<=i*61+j/\∀b:Nat,valV kvs (Sum.inl (b:Int))=(if b<i then far p n L b else if b=i then farTo p n L i j else none).map fun e=>V.int (e:Nat))
    ⟨x5,kvs,rfl,sm,hHe,hkl,fun b=>?_⟩ ?_ ?_
   ·rw[hkv b];by_cases z:b<i
    ·rw[if_pos z,if_pos z]
    ·rw[if_neg z,if_neg z];split<;>rfl
   ·rintro j σ2 H2 hj ⟨x5,kvs,rfl,sm2,hHe2,hkl2,hkv2⟩;rw[show((i:Nat):Int)+(j:Int)=((i+j:Nat):Int) from by lia];have hfs:=q6u p n L i j;refine⟨fun bb H3=>bb=(L (i+j)&&p.takes (cut n i (i+j)))/\Same H2 H3,?_,?_⟩
    ·rintro bb H3 ⟨rfl,sm3⟩;refine ite2 (fun h=>?_) (fun h=>?_)
     ·refine⟨_,rfl,_,rfl,_,rfl,e,_,rfl,DPut.k (k:=Sum.inl ((i:Nat):Int)) (sm3 _ _ hHe2) (small' (by lia)),?_⟩;refine⟨_,_,rfl,(sm2.trans sm3).put he,q0e,Ap (q2n _ _ _) (by lia),fun b=>?_⟩;have:=z9w (b:=i) (e:=i+j) hkv2 b;refine this.trans (congrArg (Option.map _) ?_);show(if b=i then some (i+j) else _)=_;rw[hfs,if_pos h];by_cases z:b=i
      ·subst z;rw[if_pos rfl,if_neg (Ej _),if_pos rfl]
      ·rw[if_neg z,if_neg z,if_neg z]
     ·refine⟨_,_,rfl,sm2.trans sm3,sm3 _ _ hHe2,by lia,fun b=>?_⟩;rw[hkv2 b,hfs,if_neg h]
    ·refine⟨_,rfl,_,rfl,d,_,rfl,(hd.same sm2).get (i+j),_,rfl,?_⟩;have eL:((g (i+j)).map fun e=>V.int (e:Nat)).isSome=L (i+j):=by rw[<- hL];show _=(g (i+j)).isSome;cases g (i+j)<;>rfl
     rw[eL];refine iteB (fun h=>?_) (fun h=>?_)
     ·refine⟨_,rfl,_,rfl,_,rfl,_,rfl,_,rfl,_,rfl,.inl ⟨_,rfl,small (by lia),?_⟩⟩;rw[q5x (by lia) (by lia)];refine⟨a,p,cut n i (i+j),rfl,sm2 _ _ ha,hok,?_,fun H3 sm3=>⟨_,rfl,?_,sm3⟩⟩
      ·unfold cut;rw[Bv,Bk];lia
      ·rw[h,Bool.true_and]
     ·refine⟨?_,Same.refl H2⟩;rw[h,Lo]
   ·rintro σ2 H2 ⟨x5,kvs,rfl,sm2,hHe2,hkl2,hkv2⟩;refine⟨_,_,kvs,rfl,sm2,hHe2,by lia,fun b=>?_⟩;rw[hkv2 b];by_cases z:b<i
    ·rw[if_pos z,if_pos (by lia)]
    ·rw[if_neg z];by_cases z2:b=i
     ·subst z2;rw[if_pos rfl,if_pos (by lia)];unfold far;rw[if_pos hi']
     ·rw[if_neg z2,if_neg (by lia)]
  ·rintro σ' H' ⟨x4,x5,kvs,rfl,sm,hHe,hkl,hkv⟩;have et:((((mk n).length:Nat):Int)+1).toNat=n.length+1:=by lia
   rw[et] at hkl hkv;refine⟨_,rfl,k e H' he sm ⟨kvs,hHe,?_,fun b=>?_⟩⟩
   ·have:(n.length+1)*61<=61*61:=Eo _ (by lia);lia
   ·rw[hkv b];by_cases z:b<n.length+1
    ·rw[if_pos z]
    ·rw[if_neg z];unfold far;rw[if_neg (by lia)]
structure CallsD (P:Program) (w:World) (K:Ae) (mg:Str->Option Value) (base:Heap):Prop where
 furthest_ends:Cal P w K mg base "furthest_ends" 4 ["part", "name", "later"] spFurthest
def spEnds:Sp:=fun vs H Q _=>∃L n ps,vs=[.ref L,.str (mk n)]/\HL H L ps/\(∀p∈ps,p.ok)/\ps.length<=3000/\n.length<=60/\∀E H' ds,H E=none->Same H H'->H' E=some (.lst (ds.map V.ref))->DS H' n ds ps->Q (.ref E) H'
theorem x1q{α:Type}{l:List α}{i:Nat}{x:α}(h:l.reverse[i]?=some x):i<l.length/\l[l.length-1-i]?=some x:=by
 have hi:i<l.length:=by
  have:=(Aj.mp h).1;simpa using this
 exact⟨hi,by rwa [List.getElem?_reverse hi] at h⟩
abbrev q1y:Stmt:=top 45
theorem sc_ends_of_parts:FnScope ["parts", "name", "later", "ends", "part"] ["parts", "name"] (defScope q1y):=by trivial
theorem q4w(D:Df K mg "ends_of_parts" q1y ["parts", "name"])(T:Txt mg)(C:CallsD P w K mg base):Cal P w K mg base "ends_of_parts" 5 ["parts", "name"] spEnds:=by
 refine D.cal sc_ends_of_parts (fun vs H Q E h=>?_) (fun f cdv A outer s H vs Q E hr h=>?_)
 ·obtain⟨L,n,ps,rfl,_⟩:=h;rfl
 ·obtain⟨L,n,ps,rfl,hL,hok,hpl,hn,k⟩:=h;refine⟨_,(q0b (q0j (i:=2) sc_ends_of_parts.nd rfl (by trivial) (x1i (z8e (q0y (q3o K rfl) (by rfl) T.b_len Cc (q0a (pv 1) q0c)) (q0y (q3o K rfl) (by rfl) T.b_len Cc (q0a (pv 1) q0c)) x1h) rfl rfl (by simp) (by decide))) (q0b (q0j (i:=3) sc_ends_of_parts.nd rfl (by trivial) (q1t q0c)) (q0b (q1h Bd rfl (@rev_k _ _ _ _ _ _ K rfl rfl T.b_reversed (q0a (pv 0) q0c) (by rfl)) (q0k (i:=4) sc_ends_of_parts.nd rfl (by trivial)) (q0b (q0j (i:=2) sc_ends_of_parts.nd rfl (by trivial) (pe_c C.furthest_ends hr (q0a (pv 4) (q0a (pv 1) (q0a (pv 2) q0c))))) (q0d (q0x (@bm_k _ _ _ _ _ _ _ _ _ _ _ _ K rfl Bs Ca Cb q1g (pv 3) (q0a (pv 2) q0c) (by rfl) (by rfl) (by rfl) (by rfl) (by rfl)))))) (q0b (q0x (@q5r _ _ _ _ _ _ _ _ _ K rfl Bs PySem.F.slot_list_reverse PySem.F.type_list_reverse z3n (pv 3) (by rfl) (by rfl))) (q0d (q0l (pv 3))))))),?_⟩;have hlen:=q0o n;obtain⟨Ts,h1,h2⟩:=hL.ex;have hTl:=h2.len;intro d0 hd0;refine⟨_,rfl,_,_,rfl,⟨small (by lia),rfl⟩,_,rfl,_,_,rfl,⟨small (by lia),rfl⟩,q0e,[(Sum.inl ((n.length:Nat):Int),.int ((n.length:Nat):Int))],?_,Mc rfl,?_⟩
  ·rw[hlen];rfl
  have sm0:Same H (upd (upd H d0 (.dK [])) d0 (.dK (mergeK [] [(Sum.inl ((n.length:Nat):Int),.int ((n.length:Nat):Int))]))):=((Same.refl H).new hd0).put hd0;have df0:DF (upd (upd H d0 (.dK [])) d0 (.dK (mergeK [] [(Sum.inl ((n.length:Nat):Int),.int ((n.length:Nat):Int))]))) d0 (fun b=>if b=n.length then some n.length else none):=by
   refine⟨_,q0e,Mc rfl,fun b=>?_⟩;have:=z9w (kvs:=[]) (b:=n.length) (e:=n.length) (f:=fun _=>none) (fun c=>rfl) b;exact this
  generalize hH1:upd (upd H d0 (.dK [])) d0 _=H1 at sm0 df0;refine⟨by show 0<=sizeLine;decide,fun E hE=>?_⟩;have hE0:H E=none:=sm0.free hE;have sm1:Same H (upd H1 E (.lst [])):=sm0.new hE;have hEL:E≠L:=fun z=>by subst z;rw[hE0] at h1;cases h1
  refine⟨_,rfl,L,_,rfl,sm1 _ _ h1,?_⟩;refine x1j (xs:=Ts.map V.ref) (fun i σ' H'=>∃d g x4 ds,σ'=[some (.ref L),some (.str (mk n)),some (.ref d),some (.ref E),x4]/\Same H H'/\DF H' d g/\(∀b,(g b).isSome=fits n (ps.drop (ps.length-i)) b)/\H' E=some (.lst (ds.map V.ref))/\DS H' n ds.reverse (ps.drop (ps.length-i))/\i<=ps.length)
   ⟨d0,_,none,[],rfl,sm1,df0.new hE,fun b=>?_,q0e,?_,Au _⟩ (fun i σ' H' ⟨_,_,_,_,_,sm,_⟩=>SqL.of (sm _ _ h1)) ?_ ?_
  ·rw[show ps.length-0=ps.length from rfl,Ge];show(if b=n.length then some n.length else none).isSome=decide (b=n.length);by_cases z:b=n.length
   ·rw[if_pos z,decide_eq_true z];rfl
   ·rw[if_neg z,decide_eq_false z];rfl
  ·rw[show ps.length-0=ps.length from rfl,Ge];exact .nil
  ·rintro i x σ' H' hx ⟨d,g,x4,ds,rfl,sm,hd,hg,hHE,hds,hil⟩;obtain⟨hi,hx'⟩:=x1q hx;rw[Ad] at hi hx';obtain⟨T1,p,rfl,hp,hT1⟩:=h2.get hx';rw[hTl] at hp hi;have hpm:p∈ps:=As hp;have edr:ps.drop (ps.length-(i+1))=p::ps.drop (ps.length-i):=by
    have:=q4e hp;rw[show ps.length-1-i=ps.length-(i+1) from by lia,show ps.length-(i+1)+1=ps.length-i from by lia] at this;exact this
   refine⟨_,rfl,_,rfl,_,rfl,T1,p,n,d,g,rfl,sm _ _ hT1,hok p hpm,hn,hd,fun e H2 he sm2 hde=>?_⟩;have eg:(fun x=>(g x).isSome)=fits n (ps.drop (ps.length-i)):=funext hg;rw[eg] at hde;have hdl:=hds.len;rw[Ja,Bk] at hdl;have hE2:H2 E=some (.lst (ds.map V.ref)):=sm2 _ _ hHE;refine⟨_,rfl,.inl ⟨rfl,_,SqL.of hE2⟩,_,rfl,E,_,_,rfl,rfl,hE2,by rw[Ad];exact small' (by lia),?_⟩;have eE:E≠e:=fun z=>by subst z;rw[he] at hHE;cases hHE
   have hde2:DF (upd H2 E (.lst (ds.map V.ref++[.ref e]))) e (far p n (fits n (ps.drop (ps.length-i)))):=by
    obtain⟨kvs,a1,a2,a3⟩:=hde.ex;exact⟨kvs,by rw[q0m (Gk eE)];exact a1,a2,a3⟩
   refine⟨e,_,_,ds++[e],rfl,(sm.trans sm2).put hE0,hde2,fun b=>?_,by rw[Ax];exact q0e,?_,by lia⟩
   ·rw[edr];rfl
   ·rw[edr,List.reverse_append];refine .cons hde2 ?_;refine(hds.same sm2).keepL ?_;exact fun b kvs z=>by rw[q0m (fun y=>by subst y;rw[hE2] at z;cases z)];exact z
  ·rintro σ' H' ⟨d,g,x4,ds,rfl,sm,hd,hg,hHE,hds,hil⟩;rw[Ad,hTl,Iu,Lx] at hds;refine⟨_,rfl,.inl ⟨rfl,_,SqL.of hHE⟩,E,_,rfl,rfl,hHE,?_⟩;refine⟨_,rfl,k E _ ds.reverse hE0 (sm.put hE0) (by rw[<- List.map_reverse];exact q0e) (hds.keepL ?_)⟩;exact fun b kvs z=>by rw[q0m (fun y=>by subst y;rw[hHE] at z;cases z)];exact z
structure CallsE (P:Program) (w:World) (K:Ae) (mg:Str->Option Value) (base:Heap):Prop where
 parts_of:Cal P w K mg base "parts_of" 2 ["pattern"] spPartsOf
 ends_of_parts:Cal P w K mg base "ends_of_parts" 5 ["parts", "name"] spEnds
def spReading:Sp:=fun vs H Q _=>∃l n,vs=[.str (mk l),.str (mk n)]/\Good l/\n.length<=60/\(fits n (parse [] l) 0=false->∀H',Same H H'->Q .non H') /\
 (fits n (parse [] l) 0=true->∀L H',H L=none->Same H H'->H' L=some (.lst (vN (rd n (parse [] l) 0)))->Q (.ref L) H')
theorem wgg(p:Pt):decide (V.str p.word=V.str (Aa "gap"))=p.isG:=by
 cases p with
 |tx l=>show decide (V.str (Aa "text")=V.str (Aa "gap"))=false;decide +kernel
 |gp c=>exact decide_eq_true rfl
abbrev q4k:Stmt:=top 46
theorem sc_reading:FnScope ["pattern", "name", "parts", "ends", "texts", "begin", "part", "part_ends", "end"] ["pattern", "name"] (defScope q4k):=by trivial
theorem z3z(D:Df K mg "reading" q4k ["pattern", "name"])(T:Txt mg)(C:CallsE P w K mg base):Cal P w K mg base "reading" 6 ["pattern", "name"] spReading:=by
 refine D.cal sc_reading (fun vs H Q E h=>?_) (fun f cdv A outer s H vs Q E hr h=>?_)
 ·obtain⟨l,n,rfl,_⟩:=h;rfl
 ·obtain⟨l,n,rfl,hg,hn,kN,kS⟩:=h;refine⟨_,(q0b (q0j (i:=2) sc_reading.nd rfl (by trivial) (pe_c C.parts_of hr (q0a (pv 0) q0c))) (q0b (q0j (i:=3) sc_reading.nd rfl (by trivial) (pe_c C.ends_of_parts hr (q0a (pv 2) (q0a (pv 1) q0c)))) (q0b (q0u (z4i (z5p (z0r hr) q0f (q0t (ix_k K rfl) (pv 3) q0f (fun _ _=>rfl)))) (q0d (q0l z9k)) q0i) (q0b (q0j (i:=4) sc_reading.nd rfl (by trivial) (q1t q0c)) (q0b (q0j (i:=5) sc_reading.nd rfl (by trivial) q0f) (q0b (q1h Bd rfl (@zip_k _ _ _ _ _ _ _ _ _ K rfl rfl T.b_zip (q0a (pv 2) (q0a (pv 3) q0c)) (by rfl) (by rfl)) (@q2z _ _ _ _ (2) _ K rfl rfl (q0q (q0k (i:=6) sc_reading.nd rfl (by trivial)) (q0q (q0k (i:=7) sc_reading.nd rfl (by trivial)) q2b)) (by rfl) (by rfl)) (q0b (q0j (i:=8) sc_reading.nd rfl (by trivial) (x1g (z0r hr) (pv 7) (pv 5) (fun _ _=>rfl))) (q1k (q0u (q0g (eq_k K rfl hr) (q0t (ix_k K rfl) (pv 6) q0f (fun _ _=>rfl)) q0h (nomark _)) (q0d (q0x (@bm_k _ _ _ _ _ _ _ _ _ _ _ _ K rfl Bs Ca Cb q1g (pv 4) (q0a (q1u (sl_k K rfl) (pv 1) (q1i (pv 5)) (q1i (pv 8))) q0c) (by rfl) (by rfl) (by rfl) (by rfl) (by rfl)))) q0i) (q0d (q0j (i:=5) sc_reading.nd rfl (by trivial) (pv 8)))))) (q0d (q0l (pv 4))))))))),?_⟩;have hlen:=q0o n;have hll:=hg.len;refine⟨_,rfl,l,rfl,hg,fun L H1 hL sm1 hlL=>?_⟩;have hok:=q4d l [] (fun _ h=>nomatch h) hg.sg;have hne:=z9v l [] (.inr hg.ne);have hpl:=q5t l [];generalize hps:parse [] l=ps at hlL hok hne hpl kN kS;refine⟨_,rfl,_,rfl,L,n,ps,rfl,hlL,hok,by lia,hn,fun E H2 ds hE sm2 hHE hds=>?_⟩;have sm12:=sm1.trans sm2;have hdl:=hds.len;obtain⟨p0,ps0,rfl⟩:∃p0 ps0,ps=p0::ps0:=by cases ps with|nil=>exact absurd rfl hne|cons a b=>exact⟨a,b,rfl⟩
  obtain⟨d0,ds0,rfl⟩:∃d0 ds0,ds=d0::ds0:=by cases ds with|nil=>simp at hdl|cons a b=>exact⟨a,b,rfl⟩
  have hf0:fits n (p0::ps0) 0=(far p0 n (fits n ps0) 0).isSome:=rfl;obtain⟨q0,hq0,hdf0⟩:=hds.get (i:=0) rfl;cases hq0;refine⟨_,rfl,.inl ⟨E,_,0,.ref d0,rfl,rfl,SqL.of hHE,q1m (j:=0) rfl,d0,_,rfl,hdf0.get 0,_,rfl,?_⟩⟩;have eS:((far p0 n (fits n ((p0::ps0).drop (0+1))) 0).map fun e=>V.int (e:Nat)).isSome=fits n (p0::ps0) 0:=by
   rw[hf0];show(Option.map _ (far p0 n (fits n ps0) 0)).isSome=_;cases far p0 n (fits n ps0) 0<;>rfl
  rw[eS];refine iteB (fun h=>?_) (fun h=>?_)
  ·refine kN ?_ H2 sm12;cases hz:fits n (p0::ps0) 0 with
   |false=>rfl
   |true=>rw[hz] at h;cases h
  have hfit:fits n (p0::ps0) 0=true:=by
   cases hz:fits n (p0::ps0) 0 with
   |true=>rfl
   |false=>rw[hz] at h;cases h
  replace kS:=kS hfit;generalize hps:p0::ps0=ps at hlL hok hdl hds hfit kS hpl;generalize hdd:d0::ds0=ds at hdl hds hHE;refine⟨by show 0<=sizeLine;decide,fun X hX=>?_⟩;have hX0:H X=none:=sm12.free hX;have sm3:Same H2 (upd H2 X (.lst [])):=(Same.refl H2).new hX;have hlL2:HL H2 L ps:=hlL.same sm2;obtain⟨Ts,h1,h2⟩:=hlL2.ex;have hTl:=h2.len;refine .inr ⟨_,rfl,_,rfl,L,E,_,_,rfl,SqL.of (sm3 _ _ h1),SqL.of (sm3 _ _ hHE),z7x (xs:=Ts.map V.ref) (ys:=ds.map V.ref) (fun i σ' H'=>∃b ts x6 x7 x8,σ'=[some (.str (mk l)),some (.str (mk n)),some (.ref L),some (.ref E),some (.ref X),some (.int (b:Nat)),x6,x7,x8]/\Same H2 H'/\H' X=some (.lst (vN ts))/\fits n (ps.drop i) b=true/\ts++rd n (ps.drop i) b=rd n ps 0/\ts.length<=i/\i<=ps.length) ⟨0,[],none,none,none,rfl,sm3,q0e,hfit,rfl,Af _,Au _⟩ (fun i σ' H' ⟨_,_,_,_,_,_,sm,_⟩=>⟨SqL.of (sm _ _ h1),SqL.of (sm _ _ hHE)⟩) ?_ ?_⟩
  ·rintro i x y T' σ' H' hx hy ⟨b,ts,x6,x7,x8,rfl,sm,hHX,hft,hrd,htl,hil⟩ hT';obtain⟨T1,p,rfl,hp,hT1⟩:=h2.get hx;obtain⟨d,hd,rfl⟩:∃d,ds[i]?=some d/\y=V.ref d:=by
    rw[Bg] at hy;cases hz:ds[i]? with
    |none=>rw[hz] at hy;cases hy
    |some d=>rw[hz] at hy;cases hy;exact⟨d,rfl,rfl⟩
   obtain⟨p',hp',hdf⟩:=hds.get hd;rw[hp] at hp';cases hp';have edr:=q4e hp;rw[edr] at hft hrd;have hf:(far p n (fits n (ps.drop (i+1))) b).isSome=true:=hft;obtain⟨e,he⟩:∃e,far p n (fits n (ps.drop (i+1))) b=some e:=by
    cases hz:far p n (fits n (ps.drop (i+1))) b with
    |none=>rw[hz] at hf;cases hf
    |some e=>exact⟨e,rfl⟩
   obtain⟨a1,a2,a3,a4,_⟩:=z2i he;have hi:i<ps.length:=(Aj.mp hp).1;refine⟨T',_,rfl,SqT.of q0e,rfl,_,_,rfl,_,_,rfl,rfl,?_⟩;generalize hH3:upd H' T' _=H3;have sm4:Same H' H3:=by rw[<- hH3];exact(Same.refl H').new hT'
   have sm5:Same H2 H3:=sm.trans sm4;have hg3:=(hdf.same sm5).get b;rw[he] at hg3;refine⟨_,rfl,_,rfl,d,_,rfl,hg3,?_⟩;have hHX3:H3 X=some (.lst (vN ts)):=sm4 _ _ hHX;have hT13:H3 T1=some (.tup p.vs):=sm5 _ _ hT1;refine⟨fun σ2 H4=>∃ts',σ2=[some (.str (mk l)),some (.str (mk n)),some (.ref L),some (.ref E),some (.ref X),some (.int (b:Nat)),some (.ref T1),some (.ref d),some (.int (e:Nat))]/\Same H2 H4/\H4 X=some (.lst (vN ts'))/\ts'=(if p.isG then ts++[cut n b e] else ts),?_,?_⟩
   ·rintro σ2 H4 ⟨ts',rfl,sm6,hHX4,ets⟩;refine⟨_,rfl,e,ts',_,_,_,rfl,sm6,hHX4,a3,?_,?_,hi⟩
    ·rw[<- hrd,ets];show _=ts++rd n (p::ps.drop (i+1)) b;cases hG:p.isG with
     |true=>simp[rd,hG,he]
     |false=>simp[rd,hG,he]
    ·rw[ets];split
     ·rw[Ac,Bh];lia
     ·lia
   ·refine⟨_,rfl,.inr (.inl ⟨T1,_,0,_,rfl,rfl,SqT.of hT13,rfl,.inl ⟨rfl,_,rfl,?_⟩⟩)⟩;rw[wgg];refine ite2 (fun h=>?_) (fun h=>?_)
    ·refine⟨_,rfl,.inl ⟨rfl,_,SqL.of hHX3⟩,_,rfl,_,rfl,_,rfl,_,rfl,_,rfl,.inl ⟨_,rfl,small (by lia),?_⟩⟩;rw[q5x a1 a2];refine⟨X,_,_,rfl,rfl,hHX3,by rw[Ad];exact small' (by lia),?_⟩;exact⟨ts++[cut n b e],rfl,sm5.put hX,by rw[show vN (ts++[cut n b e])=vN ts++[V.str (mk (cut n b e))] from Ax];exact q0e,by rw[if_pos h]⟩
    ·exact⟨ts,rfl,sm5,hHX3,by rw[if_neg h]⟩
  ·rintro σ' H' ⟨b,ts,x6,x7,x8,rfl,sm,hHX,hft,hrd,htl,hil⟩;have emin:min (Ts.map V.ref).length (ds.map V.ref).length=ps.length:=by rw[Ad,Ad,hTl,hdl,Nat.min_self]
   rw[emin,Ge] at hrd;rw[show rd n [] b=[] from rfl,By] at hrd;refine⟨_,rfl,kS X H' hX0 (sm12.trans sm) ?_⟩;rw[<- hrd];exact hHX
end
end K
set_option maxHeartbeats 4000000
namespace K
open PySem L2 TX
section
variable{P:Program}{w:World}{K:Ae}{mg:Str->Option Value}{base:Heap}
def spAsked:Sp:=fun vs H Q _=>∃(l:List Nat) (at_ c:Nat) (g:Str),vs=[.str (mk l),.int (at_:Int),.str g]/\l[at_]?=some c/\c∈tl g/\l.length<=1000/\Q (.str (mk [c])) H
abbrev q8d:Stmt:=top 23
theorem z8n:FnScope ["template", "at", "signs"] ["template", "at", "signs"] (defScope q8d):=by trivial
theorem z8o(D:Df K mg "asked" q8d ["template", "at", "signs"])(T:Txt mg):Cal P w K mg base "asked" 1 ["template", "at", "signs"] spAsked:=by
 refine D.cal z8n (fun vs H Q E h=>?_) (fun f cdv A outer s H vs Q E hr h=>?_)
 ·obtain⟨l,at_,c,g,rfl,_⟩:=h;rfl
 ·obtain⟨l,at_,c,g,rfl,hc,hg,hl,k⟩:=h;refine⟨_,(q0b (q0u (pt_j (@PW.pt _ _ _ (z4j (q0g op_ge (pv 1) (q0y (q3o K rfl) (by rfl) T.b_len Cc (q0a (pv 0) q0c)) (nomark _)) (q9c (q0g (z5f K rfl) (q0t (ix_k K rfl) (pv 0) (pv 1) (fun _ _=>rfl)) (pv 2) (by with_unfolding_all rfl)))))) (q0d q1l) q0i) (q0d (q0l (q0t (ix_k K rfl) (pv 0) (pv 1) (fun _ _=>rfl))))),?_⟩;have hlen:=q0o l;have hlt:=(Aj.mp hc).1;have hat:atI (tl (mk l)) ((at_:Nat):Int)=some c:=q1m (by rw[q0v];exact hc);refine⟨fun b H'=>b=false/\H'=H,?_,?_⟩;rotate_left
  ·refine⟨_,rfl,_,rfl,_,_,rfl,⟨small (by lia),rfl⟩,_,_,rfl,rfl,_,rfl,?_⟩;refine iteB (fun h=>absurd (of_decide_eq_true h) (by lia)) (fun h=>?_);refine⟨_,rfl,_,rfl,.inr (.inr ⟨mk l,_,c,rfl,rfl,small (by lia),hat,_,rfl,.inl ⟨_,_,rfl,rfl,_,rfl,?_,rfl⟩⟩)⟩;rw[q2x,decide_eq_true hg];rfl
  rintro b H' ⟨rfl,rfl⟩;exact iteF ⟨_,rfl,_,rfl,.inr (.inr ⟨mk l,_,c,rfl,rfl,small (by lia),hat,k⟩)⟩
def spEndOf:Sp:=fun vs H Q _=>∃(l:List Nat) (at_ most k:Nat) (g:Str),vs=[.str (mk l),.int (at_:Int),.str g,.int (most:Int)]/\l.length<=1000/\at_+k<=l.length/\k<=most/\(∀j,j<k->∃c,l[at_+j]?=some c/\c∈tl g)/\(k=most\/at_+k=l.length\/∃c,l[at_+k]?=some c/\¬c∈tl g)/\Q (.int ((at_+k:Nat):Int)) H
def enMeas(n:Nat)(σ:St):Nat:=match σ[4]? with|some (some (V.int e))=>n-e.toNat|_=>0
abbrev q5z:Stmt:=top 24
theorem sc_end_of:FnScope ["template", "at", "signs", "most", "end"] ["template", "at", "signs", "most"] (defScope q5z):=by trivial
theorem z6f(D:Df K mg "end_of" q5z ["template", "at", "signs", "most"])(T:Txt mg):Cal P w K mg base "end_of" 1 ["template", "at", "signs", "most"] spEndOf:=by
 refine D.cal sc_end_of (fun vs H Q E h=>?_) (fun f cdv A outer s H vs Q E hr h=>?_)
 ·obtain⟨l,at_,most,n,g,rfl,_⟩:=h;rfl
 ·obtain⟨l,at_,most,n,g,rfl,hl,hle,hm,hin,hst,k⟩:=h;refine⟨_,(q0b (q0j (i:=4) sc_end_of.nd rfl (by trivial) (pv 1)) (q0b (q7g Bd (pt_j (@PW.pt _ _ _ (q2w (q0g z7n (pv 4) (q0y (q9e rfl) (by rfl) T.b_min (by decide +kernel) (q0a (q0y (q3o K rfl) (by rfl) T.b_len Cc (q0a (pv 0) q0c)) (q0a (q0s q0n (pv 1) (pv 3)) q0c))) (nomark _)) (q2k (q0g (in_k K rfl) (q0t (ix_k K rfl) (pv 0) (pv 4) (fun _ _=>rfl)) (pv 2) (by with_unfolding_all rfl)))))) (q0d (z1v (i:=4) sc_end_of.nd rfl (by trivial) q0f z4p))) (q0d (q0l (pv 4))))),?_⟩;have hlen:=q0o l;refine⟨_,rfl,?_⟩;refine q7h (fun σ3 H3=>∃j:Nat,σ3=[some (.str (mk l)),some (.int (at_:Int)),some (.str g),some (.int (most:Int)),some (.int ((at_+j:Nat):Int))]/\H3=H/\j<=n) (fun σ3 _=>enMeas (at_+n+1) σ3) ⟨0,rfl,rfl,Au _⟩ ?_ ?_
  ·rintro σ3 H3 ⟨j,rfl,rfl,hj⟩;refine⟨fun b H4=>H4=H3/\b=decide (j<n),?_,?_⟩;rotate_left
   ·refine⟨_,rfl,_,rfl,_,_,rfl,⟨small (by lia),rfl⟩,_,rfl,_,rfl,.inl ⟨_,_,rfl,rfl,_,_,rfl,?_⟩⟩;refine⟨_,_,rfl,rfl,_,rfl,?_⟩;refine iteB (fun h=>?_) (fun h=>?_)
    ·have h1:=of_decide_eq_true h;have hlt:at_+j<l.length/\j<most:=by
      split at h1<;>lia
     have hd:l[at_+j]?=some l[at_+j]:=Bi hlt.1;refine⟨_,rfl,_,rfl,.inr (.inr ⟨mk l,_,l[at_+j],rfl,rfl,small (by lia),q1m (show(tl (mk l))[at_+j]?=_ by rw[q0v];exact hd),_,rfl,.inl ⟨_,_,rfl,rfl,_,rfl,rfl,?_⟩⟩)⟩;rw[q2x];by_cases hz:j<n
     ·obtain⟨c,hc1,hc2⟩:=hin j hz;rw[hd] at hc1;cases hc1;rw[decide_eq_true hc2,decide_eq_true hz]
     ·have ej:j=n:=by lia
      subst ej;rcases hst with z|z|⟨c,hc1,hc2⟩
      ·lia
      ·lia
      ·rw[hd] at hc1;cases hc1;rw[decide_eq_false hc2,decide_eq_false hz]
    ·have h1:=of_decide_eq_false h;refine⟨rfl,?_⟩;have:¬j<n:=by
      intro z;refine h1 ?_;split<;>lia
     rw[decide_eq_false this]
   rintro b H4 ⟨rfl,rfl⟩;refine ite2 (fun h=>?_) (fun h=>?_)
   ·have hz:=of_decide_eq_true h;refine⟨_,rfl,_,_,rfl,rfl,⟨j+1,rfl,rfl,by lia⟩,?_⟩;show at_+n+1-(((at_+j:Nat):Int)+1).toNat<at_+n+1-((at_+j:Nat):Int).toNat;lia
   ·have hz:¬j<n:=fun z=>h (decide_eq_true z);have ej:j=n:=by lia
    subst ej;exact⟨_,rfl,k⟩
  ·rintro σ H Q Q' hq ⟨J,hJ,hw⟩;exact⟨J,fun b H1 z=>hq b H1 (hJ b H1 z),hw⟩
inductive Pc where
 |tx (l:List Nat)
 |gap (k:Nat)
 |great (k:Nat)
 |small (k:Nat)
 |nou (k w:Nat)
 |more (k m:Nat)
 |cnt (v:Nat)
 |into
def Pc.vs:Pc->List V
 |.tx l=>[.str (Aa "text"),.str (mk l)]
 |.gap k=>[.str (Aa "gap"),.int (k:Int)]
 |.great k=>[.str (Aa "great"),.int (k:Int)]
 |.small k=>[.str (Aa "small"),.int (k:Int)]
 |.nou k w=>[.str (Aa "noughts"),.int (k:Int),.int (w:Int)]
 |.more k m=>[.str (Aa "more"),.int (k:Int),.int (m:Int)]
 |.cnt v=>[.str (Aa "count"),.int (v:Int)]
 |.into=>[.str (Aa "into")]
def cntW(v:Nat):List Nat:=if v=1 then[125] else[48+v,125]
def Pc.wr:Pc->List Nat
 |.tx l=>l
 |.gap k=>123::(48+k)::[125]
 |.great k=>123::(48+k)::[117,125]
 |.small k=>123::(48+k)::[108,125]
 |.nou k w=>123::(48+k)::122::[48+w,125]
 |.more k m=>123::(48+k)::43::(dg m++[125])
 |.cnt v=>123::110::cntW v
 |.into=>[47]
def Pc.ok:Pc->Prop
 |.tx l=>l≠[]/\∀c∈l,c∈NS
 |.gap k=>1<=k/\k<=9
 |.great k=>1<=k/\k<=9
 |.small k=>1<=k/\k<=9
 |.nou k w=>(1<=k/\k<=9)/\1<=w/\w<=9
 |.more k m=>(1<=k/\k<=9)/\m<10^9
 |.cnt v=>1<=v/\v<=9
 |.into=>True
def RT(H:Hp)(Q:VK)(p:Pc)(e:Nat):Prop:=∀T1 T2 H',H T1=none->H T2=none->Same H H'->H' T1=some (.tup p.vs)->H' T2=some (.tup [.ref T1,.int ((e:Nat):Int)])->Q (.ref T2) H'
theorem RT.go{H:Hp}{Q:VK}{p:Pc}{e:Nat}{i:Int}(h:RT H Q p e)(hi:i=((e:Nat):Int)){T1 T2:Addr}(h1:H T1=none)(h2:upd H T1 (.tup p.vs) T2=none):Q (.ref T2) (upd (upd H T1 (.tup p.vs)) T2 (.tup [.ref T1,.int i])):=by
 subst hi;have hne:T1≠T2:=q0r q0e h2;refine h T1 T2 _ h1 (by rw[q0m (Gk hne)] at h2;exact h2) (((Same.refl H).new h1).new h2) ?_ q0e;rw[q0m hne];exact q0e
theorem RT.same{H H1:Hp}{Q:VK}{p:Pc}{e:Nat}(h:RT H Q p e)(sm:Same H H1):RT H1 Q p e:=fun T1 T2 H' a b c d f=>h T1 T2 H' (sm.free a) (sm.free b) (sm.trans c) d f
theorem q1e{l r:List Nat}{i c:Nat}(h:l.drop i=c::r):l[i]?=some c/\l.drop (i+1)=r:=by
 have h1:=congrArg (fun x=>x[0]?) h;have h2:=congrArg (fun x=>x.drop 1) h;refine⟨by simpa[Hf] using h1,?_⟩;rw[<- Lv,h];rfl
theorem z6g{v:Nat}(h:v<10):Hh (mk [48+v])=some (v:Int):=by rw[<- q2h h];exact z5t (by lia)
structure CallsT (P:Program) (w:World) (K:Ae) (mg:Str->Option Value) (base:Heap):Prop where
 asked:Cal P w K mg base "asked" 1 ["template", "at", "signs"] spAsked
 end_of:Cal P w K mg base "end_of" 1 ["template", "at", "signs", "most"] spEndOf
def spCount:Sp:=fun vs H Q _=>∃(l r:List Nat) (a v:Nat),vs=[.str (mk l),.int (a:Int)]/\l.length<=1000/\1<=v/\v<=9/\l.drop a=cntW v++r/\RT H Q (.cnt v) (a+(cntW v).length)
theorem in_two:∀v,v<10->2<=v->48+v∈tl (Aa "}" ++ Aa "23456789"):=by decide +kernel
theorem x1r:∀v,v<10->1<=v->48+v∈tl (Aa "123456789"):=by decide +kernel
theorem in_fig:∀v,v<10->48+v∈tl (Aa "0123456789"):=by decide +kernel
abbrev q2r:Stmt:=top 25
theorem sc_read_count:FnScope ["template", "at", "sign"] ["template", "at"] (defScope q2r):=by trivial
theorem q8e(D:Df K mg "read_count" q2r ["template", "at"])(T:Txt mg)(C:CallsT P w K mg base):Cal P w K mg base "read_count" 2 ["template", "at"] spCount:=by
 refine D.cal sc_read_count (fun vs H Q E h=>?_) (fun f cdv A outer s H vs Q E hr h=>?_)
 ·obtain⟨l,r,a,v,rfl,_⟩:=h;rfl
 ·obtain⟨l,r,a,v,rfl,hl,hv1,hv9,hd,k⟩:=h;obtain⟨_,g_FROM_TWO⟩:=T.FROM_TWO;refine⟨_,(q0b (q0j (i:=2) sc_read_count.nd rfl (by trivial) (pe_c C.asked hr (q0a (pv 0) (q0a (pv 1) (q0a (q0s q0n q0h (q1c (v:=.str (Aa "23456789")) (by rfl) g_FROM_TWO ⟨_,rfl⟩)) q0c))))) (q0b (q0u (q0g (eq_k K rfl hr) (pv 2) q0h (nomark _)) (q0d (q0l (q0w (q0a (q0w (q0a q0h (q0a q0f q0c))) (q0a (q0s q0n (pv 1) q0f) q0c))))) q0i) (q0b (q0x (pe_c C.asked hr (q0a (pv 0) (q0a (q0s q0n (pv 1) q0f) (q0a q0h q0c))))) (q0d (q0l (q0w (q0a (q0w (q0a q0h (q0a (q1j q3a (by rfl) T.b_int (by decide +kernel) (q0a (pv 2) q0c)) q0c))) (q0a (q0s q0n (pv 1) q0f) q0c)))))))),?_⟩;have e9:(Aa "}").length+(Aa "23456789").length<=1000:=by decide +kernel
  by_cases hv:v=1
  ·subst hv;have hd':l.drop a=125::r:=hd;obtain⟨hc,_⟩:=q1e hd';refine⟨_,rfl,_,rfl,.inr (.inl ⟨_,_,rfl,rfl,small (by lia),l,a,125,_,rfl,hc,by decide +kernel,hl,?_⟩)⟩;refine⟨_,rfl,.inl ⟨rfl,_,rfl,?_⟩⟩;rw[lit1 125 125 "}" (by decide +kernel),decide_eq_true rfl];refine iteT ⟨by show 2<=sizeLine;decide,fun T1 hT1=>⟨_,rfl,.inl ⟨_,_,rfl,rfl,by show 2<=sizeLine;decide,fun T2 hT2=>?_⟩⟩⟩;exact k.go (by show(a:Int)+1=((a+1:Nat):Int);lia) hT1 hT2
  ·have ew:cntW v=[48+v,125]:=by unfold cntW;rw[if_neg hv]
   rw[ew] at hd k;obtain⟨hc,hd2⟩:=q1e (show l.drop a=(48+v)::(125::r) from hd);obtain⟨hc2,_⟩:=q1e hd2;refine⟨_,rfl,_,rfl,.inr (.inl ⟨_,_,rfl,rfl,small (by lia),l,a,48+v,_,rfl,hc,in_two v (by lia) (by lia),hl,?_⟩)⟩;refine⟨_,rfl,.inl ⟨rfl,_,rfl,?_⟩⟩;rw[lit1 (48+v) 125 "}" (by decide +kernel),decide_eq_false (by lia)];refine iteF ⟨_,rfl,_,rfl,.inl ⟨_,_,rfl,rfl,l,a+1,125,_,by rfl,hc2,by decide +kernel,hl,?_⟩⟩;refine⟨_,rfl,.inr ⟨_,_,rfl,z6g (by lia),by rw[q0o];show 1<=640;decide,by show 2<=sizeLine;decide,fun T1 hT1=>⟨_,rfl,.inl ⟨_,_,rfl,rfl,by show 2<=sizeLine;decide,fun T2 hT2=>?_⟩⟩⟩⟩;exact k.go (by show(a:Int)+2=((a+2:Nat):Int);lia) hT1 hT2
def spNoughts:Sp:=fun vs H Q _=>∃(l r:List Nat) (a g v:Nat),vs=[.str (mk l),.int (a:Int),.int (g:Int)]/\l.length<=1000/\1<=v/\v<=9/\l.drop a=(48+v)::125::r/\RT H Q (.nou g v) (a+2)
abbrev q2d:Stmt:=top 26
theorem sc_read_noughts:FnScope ["template", "at", "gap", "width"] ["template", "at", "gap"] (defScope q2d):=by trivial
theorem q6a(D:Df K mg "read_noughts" q2d ["template", "at", "gap"])(T:Txt mg)(C:CallsT P w K mg base):Cal P w K mg base "read_noughts" 2 ["template", "at", "gap"] spNoughts:=by
 refine D.cal sc_read_noughts (fun vs H Q E h=>?_) (fun f cdv A outer s H vs Q E hr h=>?_)
 ·obtain⟨l,r,a,g,v,rfl,_⟩:=h;rfl
 ·obtain⟨l,r,a,g,v,rfl,hl,hv1,hv9,hd,k⟩:=h;obtain⟨_,g_FROM_ONE⟩:=T.FROM_ONE;refine⟨_,(q0b (q0j (i:=3) sc_read_noughts.nd rfl (by trivial) (pe_c C.asked hr (q0a (pv 0) (q0a (pv 1) (q0a (q1c (v:=.str (Aa "123456789")) (by rfl) g_FROM_ONE ⟨_,rfl⟩) q0c))))) (q0b (q0x (pe_c C.asked hr (q0a (pv 0) (q0a (q0s q0n (pv 1) q0f) (q0a q0h q0c))))) (q0d (q0l (q0w (q0a (q0w (q0a q0h (q0a (pv 2) (q0a (q1j q3a (by rfl) T.b_int (by decide +kernel) (q0a (pv 3) q0c)) q0c)))) (q0a (q0s q0n (pv 1) q0f) q0c))))))),?_⟩;obtain⟨hc,hd2⟩:=q1e hd;obtain⟨hc2,_⟩:=q1e hd2;refine⟨_,rfl,_,rfl,l,a,48+v,_,rfl,hc,x1r v (by lia) (by lia),hl,?_⟩;refine⟨_,rfl,_,rfl,.inl ⟨_,_,rfl,rfl,l,a+1,125,_,by rfl,hc2,by decide +kernel,hl,?_⟩⟩;refine⟨_,rfl,_,rfl,.inr ⟨_,_,rfl,z6g (by lia),by rw[q0o];show 1<=640;decide,by show 3<=sizeLine;decide,fun T1 hT1=>⟨_,rfl,.inl ⟨_,_,rfl,rfl,by show 2<=sizeLine;decide,fun T2 hT2=>?_⟩⟩⟩⟩;exact k.go (by show(a:Int)+2=((a+2:Nat):Int);lia) hT1 hT2
def spMore:Sp:=fun vs H Q _=>∃(l r:List Nat) (a g m:Nat),vs=[.str (mk l),.int (a:Int),.int (g:Int)]/\l.length<=1000/\m<10^9/\l.drop a=dg m++125::r/\RT H Q (.more g m) (a+(dg m).length+1)
theorem q8f{l x y:List Nat}{a j:Nat}(h:l.drop a=x++y)(hj:j<x.length):∃c,l[a+j]?=some c/\x[j]?=some c:=by
 refine⟨x[j],?_,Bi hj⟩;rw[<- Hf,h,Co hj];exact Bi hj
theorem drop_app{l x y:List Nat}{a:Nat}(h:l.drop a=x++y):l.drop (a+x.length)=y:=by
 rw[<- Lv,h,Lz]
theorem z2l{l x y:List Nat}{a:Nat}(h:l.drop a=x++y)(hx:x≠[]):a+x.length<=l.length:=by
 have h1:=congrArg List.length h;rw[Bk,Ac] at h1;have:0<x.length:=Bx.mpr hx;lia
abbrev q3d:Stmt:=top 27
theorem sc_read_more:FnScope ["template", "at", "gap", "first", "end"] ["template", "at", "gap"] (defScope q3d):=by trivial
theorem z0b(D:Df K mg "read_more" q3d ["template", "at", "gap"])(T:Txt mg)(C:CallsT P w K mg base):Cal P w K mg base "read_more" 2 ["template", "at", "gap"] spMore:=by
 refine D.cal sc_read_more (fun vs H Q E h=>?_) (fun f cdv A outer s H vs Q E hr h=>?_)
 ·obtain⟨l,r,a,g,m,rfl,_⟩:=h;rfl
 ·obtain⟨l,r,a,g,m,rfl,hl,hm,hd,k⟩:=h;obtain⟨_,g_FIGURES⟩:=T.FIGURES;obtain⟨_,g_MOST_FIGURES⟩:=T.MOST_FIGURES;refine⟨_,(q0b (q0j (i:=3) sc_read_more.nd rfl (by trivial) (pe_c C.asked hr (q0a (pv 0) (q0a (pv 1) (q0a (q1c (v:=.str (Aa "0123456789")) (by rfl) g_FIGURES ⟨_,rfl⟩) q0c))))) (q0b (q0j (i:=4) sc_read_more.nd rfl (by trivial) (pe_c C.end_of hr (q0a (pv 0) (q0a (pv 1) (q0a (q1c (v:=.str (Aa "0123456789")) (by rfl) g_FIGURES ⟨_,rfl⟩) (q0a (pe_j (z7m (q0g (eq_k K rfl hr) (pv 3) q0h (nomark _)) q0f (q1c (v:=.int 9) (by rfl) g_MOST_FIGURES ⟨_,rfl⟩))) q0c)))))) (q0b (q0x (pe_c C.asked hr (q0a (pv 0) (q0a (pv 4) (q0a q0h q0c))))) (q0d (q0l (q0w (q0a (q0w (q0a q0h (q0a (pv 2) (q0a (q1j q3a (by rfl) T.b_int (by decide +kernel) (q0a (q1u (sl_k K rfl) (pv 0) (q1i (pv 1)) (q1i (pv 4))) q0c)) q0c)))) (q0a (q0s q0n (pv 4) q0f) q0c)))))))),?_⟩;have hlen:=q0o l;obtain⟨d0,r0,hd0,hd10,hd00⟩:=z5s m;have hdl:=q9v 8 m (by lia);have hdp:=dg_pos m;have hne:dg m≠[]:=by rw[hd0];simp
  have hle:=z2l hd hne;have hfig:=z5r m;obtain⟨hc0,_⟩:=q1e (show l.drop a=(48+d0)::(r0++125::r) by rw[hd,hd0];rfl);obtain⟨hce,_⟩:=q1e (drop_app hd);refine⟨_,rfl,_,rfl,l,a,48+d0,_,rfl,hc0,in_fig d0 hd10,hl,?_⟩;refine⟨_,rfl,_,rfl,?_⟩;refine⟨fun v H'=>H'=H/\∃most:Nat,v=.int (most:Int)/\(dg m).length<=most,?_,?_⟩;rotate_left
  ·refine⟨_,rfl,.inl ⟨rfl,_,rfl,?_⟩⟩;rw[lit1 (48+d0) 48 "0" (by decide +kernel)];refine ite2 (fun h=>?_) (fun h=>?_)
   ·have hz:d0=0:=by have:=of_decide_eq_true h;lia
    have hr:=(hd00 hz).2;exact⟨rfl,1,rfl,by rw[hd0,hr];simp⟩
   ·exact⟨rfl,9,rfl,hdl⟩
  rintro v H' ⟨rfl,most,rfl,hmost⟩;refine⟨l,a,most,(dg m).length,_,rfl,hl,hle,hmost,fun j hj=>?_,.inr (.inr ⟨125,hce,by decide +kernel⟩),?_⟩
  ·obtain⟨c,h1,h2⟩:=q8f hd hj;exact⟨c,h1,hfig c (As h2)⟩
  refine⟨_,rfl,_,rfl,l,a+(dg m).length,125,_,rfl,hce,by decide +kernel,hl,?_⟩;refine⟨_,rfl,_,rfl,_,rfl,_,rfl,_,rfl,_,rfl,.inl ⟨_,rfl,small (by lia),?_⟩⟩;rw[q5u (by lia) (by lia),show a+(dg m).length-a=(dg m).length from by lia,hd,Ly];refine .inr ⟨_,_,rfl,z5t (by lia),by rw[q0o];lia,by show 3<=sizeLine;decide,fun T1 hT1=>⟨_,rfl,.inl ⟨_,_,rfl,rfl,by show 2<=sizeLine;decide,fun T2 hT2=>?_⟩⟩⟩;exact k.go (by show((a+(dg m).length:Nat):Int)+1=((a+(dg m).length+1:Nat):Int);lia) hT1 hT2
def spRText:Sp:=fun vs H Q _=>∃(l t r:List Nat) (a:Nat),vs=[.str (mk l),.int (a:Int)]/\l.length<=1000/\l.drop a=t++r/\t≠[]/\(∀c∈t,c∈NS)/\(∀c r',r=c::r'->¬c∈NS)/\RT H Q (.tx t) (a+t.length)
abbrev q3e:Stmt:=top 31
theorem sc_read_text:FnScope ["template", "at", "end"] ["template", "at"] (defScope q3e):=by trivial
theorem z0c(D:Df K mg "read_text" q3e ["template", "at"])(T:Txt mg)(C:CallsT P w K mg base):Cal P w K mg base "read_text" 2 ["template", "at"] spRText:=by
 refine D.cal sc_read_text (fun vs H Q E h=>?_) (fun f cdv A outer s H vs Q E hr h=>?_)
 ·obtain⟨l,t,r,a,rfl,_⟩:=h;rfl
 ·obtain⟨l,t,r,a,rfl,hl,hd,hne,hns,hst,k⟩:=h;obtain⟨_,g_NAME_SIGNS⟩:=T.NAME_SIGNS;refine⟨_,(q0b (q0x (pe_c C.asked hr (q0a (pv 0) (q0a (pv 1) (q0a (q1c (v:=.str (Aa "abcdefghijklmnopqrstuvwxyzABCDEFGHIJKLMNOPQRSTUVWXYZ0123456789-_.")) (by rfl) g_NAME_SIGNS ⟨_,rfl⟩) q0c))))) (q0b (q0j (i:=2) sc_read_text.nd rfl (by trivial) (pe_c C.end_of hr (q0a (pv 0) (q0a (pv 1) (q0a (q1c (v:=.str (Aa "abcdefghijklmnopqrstuvwxyzABCDEFGHIJKLMNOPQRSTUVWXYZ0123456789-_.")) (by rfl) g_NAME_SIGNS ⟨_,rfl⟩) (q0a (q0y (q3o K rfl) (by rfl) T.b_len Cc (q0a (pv 0) q0c)) q0c)))))) (q0d (q0l (q0w (q0a (q0w (q0a q0h (q0a (q1u (sl_k K rfl) (pv 0) (q1i (pv 1)) (q1i (pv 2))) q0c))) (q0a (pv 2) q0c))))))),?_⟩;have hlen:=q0o l;have hle:=z2l hd hne;have hp:0<t.length:=Bx.mpr hne;obtain⟨c0,h01,h02⟩:=q8f hd hp;refine⟨_,rfl,_,rfl,l,a,c0,_,rfl,h01,hns c0 (As h02),hl,?_⟩;refine⟨_,rfl,_,rfl,_,rfl,_,_,rfl,⟨small (by lia),rfl⟩,?_⟩;refine⟨l,a,l.length,t.length,_,by rw[hlen];rfl,hl,hle,by lia,fun j hj=>?_,?_,?_⟩
  ·obtain⟨c,h1,h2⟩:=q8f hd hj;exact⟨c,h1,hns c (As h2)⟩
  ·cases r with
   |nil =>
    have h1:=congrArg List.length hd;rw[Bk,By] at h1;exact .inr (.inl (by lia))
   |cons c r'=>exact .inr (.inr ⟨c,(q1e (drop_app hd)).1,hst c r' rfl⟩)
  refine⟨_,rfl,_,rfl,_,rfl,_,rfl,_,rfl,.inl ⟨_,rfl,small (by lia),?_⟩⟩;rw[q5u (by lia) (by lia),show a+t.length-a=t.length from by lia,hd,Ly];refine⟨by show 2<=sizeLine;decide,fun T1 hT1=>⟨_,rfl,by show 2<=sizeLine;decide,fun T2 hT2=>?_⟩⟩;exact k.go rfl hT1 hT2
def spInto:Sp:=fun vs H Q _=>∃(l:List Nat) (a c:Nat),vs=[.str (mk l),.int (a:Int)]/\l.length<=1000/\1<=a/\l[a-1]?=some c/\c≠47/\RT H Q .into (a+1)
abbrev q3f:Stmt:=top 30
theorem z0d:FnScope ["template", "at"] ["template", "at"] (defScope q3f):=by trivial
theorem z0e(D:Df K mg "read_into" q3f ["template", "at"])(T:Txt mg):Cal P w K mg base "read_into" 1 ["template", "at"] spInto:=by
 refine D.cal z0d (fun vs H Q E h=>?_) (fun f cdv A outer s H vs Q E hr h=>?_)
 ·obtain⟨l,a,c,rfl,_⟩:=h;rfl
 ·obtain⟨l,a,c,rfl,hl,ha,hc,hn,k⟩:=h;refine⟨_,(q0b (q0u (pt_j (@PW.pt _ _ _ (z4j (q0g (eq_k K rfl hr) (pv 1) q0f (nomark _)) (q9c (q0g (eq_k K rfl hr) (q0t (ix_k K rfl) (pv 0) (q0s z1x (pv 1) q0f) (fun _ _=>rfl)) q0h (nomark _)))))) (q0d q1l) q0i) (q0d (q0l (q0w (q0a (q0w (q0a q0h q0c)) (q0a (q0s q0n (pv 1) q0f) q0c)))))),?_⟩;have hlen:=q0o l;refine⟨fun b H'=>b=false/\H'=H,?_,?_⟩;rotate_left
  ·refine⟨_,rfl,.inl ⟨rfl,_,rfl,?_⟩⟩;refine iteB (fun h=>?_) (fun h=>?_)
   ·have:=of_decide_eq_true h;injection this with this;lia
   refine⟨_,rfl,_,rfl,_,_,rfl,rfl,.inr (.inr ⟨mk l,_,c,rfl,rfl,small (by lia),?_,.inl ⟨rfl,_,rfl,?_,rfl⟩⟩)⟩
   ·rw[show((a:Nat):Int)-1=((a-1:Nat):Int) from by lia];exact q1m (show(tl (mk l))[a-1]?=_ by rw[q0v];exact hc)
   ·show decide (V.str (mk [c])=V.str (Aa "/"))=false;rw[lit1 c 47 "/" (by decide +kernel),decide_eq_false hn]
  rintro b H' ⟨rfl,rfl⟩;refine iteF ⟨by show 1<=sizeLine;decide,fun T1 hT1=>⟨_,rfl,.inl ⟨_,_,rfl,rfl,by show 2<=sizeLine;decide,fun T2 hT2=>?_⟩⟩⟩;exact k.go (by show(a:Int)+1=((a+1:Nat):Int);lia) hT1 hT2
def casesKV:List (Key×V):=[(Sum.inr (Aa "u"),.str (Aa "great")),(Sum.inr (Aa "l"),.str (Aa "small"))]
structure CallsU (P:Program) (w:World) (K:Ae) (mg:Str->Option Value) (base:Heap):Prop where
 asked:Cal P w K mg base "asked" 1 ["template", "at", "signs"] spAsked
 read_noughts:Cal P w K mg base "read_noughts" 2 ["template", "at", "gap"] spNoughts
 read_more:Cal P w K mg base "read_more" 2 ["template", "at", "gap"] spMore
 cases_:∃d,mg "CASES" = some (.ref d)/\KDict P w K d casesKV
def Pc.gt:Pc->Option (Nat×List Nat)
 |.gap k=>some (k,[125])
 |.great k=>some (k,[117,125])
 |.small k=>some (k,[108,125])
 |.nou k w=>some (k,[122,48+w,125])
 |.more k m=>some (k,43::(dg m++[125]))
 |_=>none
def spGap:Sp:=fun vs H Q _=>∃(l r t:List Nat) (a g:Nat) (p:Pc),vs=[.str (mk l),.int (a:Int),.int (g:Int)]/\l.length<=1000/\p.ok/\p.gt=some (g,t)/\l.drop a=t++r/\RT H Q p (a+t.length)
abbrev q3v:Stmt:=top 28
theorem sc_read_gap:FnScope ["template", "at", "gap", "sign"] ["template", "at", "gap"] (defScope q3v):=by trivial
theorem z1h(D:Df K mg "read_gap" q3v ["template", "at", "gap"])(T:Txt mg)(C:CallsU P w K mg base):Cal P w K mg base "read_gap" 3 ["template", "at", "gap"] spGap:=by
 refine D.cal sc_read_gap (fun vs H Q E h=>?_) (fun f cdv A outer s H vs Q E hr h=>?_)
 ·obtain⟨l,r,t,a,g,p,rfl,_⟩:=h;rfl
 ·obtain⟨l,r,t,a,g,p,rfl,hl,hok,hgt,hd,k⟩:=h;obtain⟨dC,g_CASES,k_CASES⟩:=C.cases_;refine⟨_,(q0b (q0j (i:=3) sc_read_gap.nd rfl (by trivial) (pe_c C.asked hr (q0a (pv 0) (q0a (pv 1) (q0a q0h q0c))))) (q0b (q0u (q0g (eq_k K rfl hr) (pv 3) q0h (nomark _)) (q0d (q0l (q0w (q0a (q0w (q0a q0h (q0a (pv 2) q0c))) (q0a (q0s q0n (pv 1) q0f) q0c))))) q0i) (q0b (q0u (q0g (eq_k K rfl hr) (pv 3) q0h (nomark _)) (q0d (q0l (pe_c C.read_noughts hr (q0a (pv 0) (q0a (q0s q0n (pv 1) q0f) (q0a (pv 2) q0c)))))) q0i) (q0b (q0u (q0g (eq_k K rfl hr) (pv 3) q0h (nomark _)) (q0d (q0l (pe_c C.read_more hr (q0a (pv 0) (q0a (q0s q0n (pv 1) q0f) (q0a (pv 2) q0c)))))) q0i) (q0b (q0x (pe_c C.asked hr (q0a (pv 0) (q0a (q0s q0n (pv 1) q0f) (q0a q0h q0c))))) (q0d (q0l (q0w (q0a (q0w (q0a (x1l (by rfl) g_CASES k_CASES (pv 3) (fun _ _=>rfl)) (q0a (pv 2) q0c))) (q0a (q0s q0n (pv 1) q0f) q0c)))))))))),?_⟩;have no:∀(c d:Nat) (s:String),Aa s=mk [d]->c≠d->decide (V.str (mk [c])=V.str (Aa s))=false:=fun c d s h1 h2=>by rw[lit1 c d s h1,decide_eq_false h2]
  have yes:∀(c:Nat) (s:String),Aa s=mk [c]->decide (V.str (mk [c])=V.str (Aa s))=true:=fun c s h1=>by rw[lit1 c c s h1,decide_eq_true rfl]
  cases p with
  |tx l=>cases hgt
  |cnt v=>cases hgt
  |into=>cases hgt
  |gap kk =>
   cases hgt;obtain⟨hc,_⟩:=q1e (show l.drop a=125::r from hd);refine⟨_,rfl,_,rfl,l,a,125,_,rfl,hc,by decide +kernel,hl,?_⟩;refine⟨_,rfl,.inl ⟨rfl,_,rfl,?_⟩⟩;rw[yes 125 "}" (by decide +kernel)];refine iteT ⟨_,rfl,by show 2<=sizeLine;decide,fun T1 hT1=>⟨_,rfl,.inl ⟨_,_,rfl,rfl,by show 2<=sizeLine;decide,fun T2 hT2=>?_⟩⟩⟩;exact k.go (by show(a:Int)+1=((a+1:Nat):Int);lia) hT1 hT2
  |great kk =>
   cases hgt;obtain⟨hc,hd2⟩:=q1e (show l.drop a=117::(125::r) from hd);obtain⟨hc2,_⟩:=q1e hd2;refine⟨_,rfl,_,rfl,l,a,117,_,rfl,hc,by decide +kernel,hl,?_⟩;refine⟨_,rfl,.inl ⟨rfl,_,rfl,?_⟩⟩;rw[no 117 125 "}" (by decide +kernel) (by decide)];refine iteF ⟨_,rfl,.inl ⟨rfl,_,rfl,?_⟩⟩;rw[no 117 122 "z" (by decide +kernel) (by decide)];refine iteF ⟨_,rfl,.inl ⟨rfl,_,rfl,?_⟩⟩;rw[no 117 43 "+" (by decide +kernel) (by decide)];refine iteF ⟨_,rfl,_,rfl,.inl ⟨_,_,rfl,rfl,l,a+1,125,_,by rfl,hc2,by decide +kernel,hl,?_⟩⟩;refine⟨_,rfl,Sum.inr (Aa "u"),.str (Aa "great"),?_,by decide +kernel,_,rfl,by show 2<=sizeLine;decide,fun T1 hT1=>⟨_,rfl,.inl ⟨_,_,rfl,rfl,by show 2<=sizeLine;decide,fun T2 hT2=>?_⟩⟩⟩
   ·exact congrArg V.str (by decide +kernel:mk [117]=Aa "u")
   exact k.go (by show(a:Int)+2=((a+2:Nat):Int);lia) hT1 hT2
  |small kk =>
   cases hgt;obtain⟨hc,hd2⟩:=q1e (show l.drop a=108::(125::r) from hd);obtain⟨hc2,_⟩:=q1e hd2;refine⟨_,rfl,_,rfl,l,a,108,_,rfl,hc,by decide +kernel,hl,?_⟩;refine⟨_,rfl,.inl ⟨rfl,_,rfl,?_⟩⟩;rw[no 108 125 "}" (by decide +kernel) (by decide)];refine iteF ⟨_,rfl,.inl ⟨rfl,_,rfl,?_⟩⟩;rw[no 108 122 "z" (by decide +kernel) (by decide)];refine iteF ⟨_,rfl,.inl ⟨rfl,_,rfl,?_⟩⟩;rw[no 108 43 "+" (by decide +kernel) (by decide)];refine iteF ⟨_,rfl,_,rfl,.inl ⟨_,_,rfl,rfl,l,a+1,125,_,by rfl,hc2,by decide +kernel,hl,?_⟩⟩;refine⟨_,rfl,Sum.inr (Aa "l"),.str (Aa "small"),?_,by decide +kernel,_,rfl,by show 2<=sizeLine;decide,fun T1 hT1=>⟨_,rfl,.inl ⟨_,_,rfl,rfl,by show 2<=sizeLine;decide,fun T2 hT2=>?_⟩⟩⟩
   ·exact congrArg V.str (by decide +kernel:mk [108]=Aa "l")
   exact k.go (by show(a:Int)+2=((a+2:Nat):Int);lia) hT1 hT2
  |nou kk ww =>
   cases hgt;obtain⟨hc,hd2⟩:=q1e (show l.drop a=122::((48+ww)::125::r) from hd);refine⟨_,rfl,_,rfl,l,a,122,_,rfl,hc,by decide +kernel,hl,?_⟩;refine⟨_,rfl,.inl ⟨rfl,_,rfl,?_⟩⟩;rw[no 122 125 "}" (by decide +kernel) (by decide)];refine iteF ⟨_,rfl,.inl ⟨rfl,_,rfl,?_⟩⟩;rw[yes 122 "z" (by decide +kernel)];refine iteT ⟨_,rfl,_,rfl,.inl ⟨_,_,rfl,rfl,_,rfl,l,r,a+1,g,ww,by rfl,hl,hok.2.1,hok.2.2,hd2,?_⟩⟩;rw[show a+1+2=a+[122,48+ww,125].length from rfl];exact k
  |more kk m =>
   cases hgt;obtain⟨hc,hd2⟩:=q1e (show l.drop a=43::((dg m++[125])++r) from hd);refine⟨_,rfl,_,rfl,l,a,43,_,rfl,hc,by decide +kernel,hl,?_⟩;refine⟨_,rfl,.inl ⟨rfl,_,rfl,?_⟩⟩;rw[no 43 125 "}" (by decide +kernel) (by decide)];refine iteF ⟨_,rfl,.inl ⟨rfl,_,rfl,?_⟩⟩;rw[no 43 122 "z" (by decide +kernel) (by decide)];refine iteF ⟨_,rfl,.inl ⟨rfl,_,rfl,?_⟩⟩;rw[yes 43 "+" (by decide +kernel)];refine iteT ⟨_,rfl,_,rfl,.inl ⟨_,_,rfl,rfl,_,rfl,l,r,a+1,g,m,by rfl,hl,hok.2,by rw[hd2,Cf];rfl,?_⟩⟩;rw[show a+1+(dg m).length+1=a+(43::(dg m++[125])).length from by rw[Ar,Ac,Bh];lia];exact k
structure CallsV (P:Program) (w:World) (K:Ae) (mg:Str->Option Value) (base:Heap):Prop where
 asked:Cal P w K mg base "asked" 1 ["template", "at", "signs"] spAsked
 read_count:Cal P w K mg base "read_count" 2 ["template", "at"] spCount
 read_gap:Cal P w K mg base "read_gap" 3 ["template", "at", "gap"] spGap
def spMark:Sp:=fun vs H Q _=>∃(l r t:List Nat) (a:Nat) (p:Pc),vs=[.str (mk l),.int (a:Int)]/\l.length<=1000/\p.ok/\p.wr=123::t/\(∀x,p≠.tx x)/\l.drop a=t++r/\RT H Q p (a+t.length)
theorem in_n:∀v,v<10->1<=v->48+v∈tl (Aa "n" ++ Aa "123456789"):=by decide +kernel
theorem gt_of{p:Pc}{t:List Nat}(hok:p.ok)(hw:p.wr=123::t)(hx:∀x,p≠.tx x):(∃v,p=.cnt v/\t=110::cntW v)\/∃g u,p.gt=some (g,u)/\t=(48+g)::u/\1<=g/\g<=9:=by
 cases p with
 |tx l=>exact absurd rfl (hx l)
 |into=>injection hw with h _;exact absurd h (by decide)
 |cnt v=>injection hw with _ hw;exact .inl ⟨v,rfl,hw.symm⟩
 |gap k=>injection hw with _ hw;exact .inr ⟨k,_,rfl,hw.symm,hok.1,hok.2⟩
 |great k=>injection hw with _ hw;exact .inr ⟨k,_,rfl,hw.symm,hok.1,hok.2⟩
 |small k=>injection hw with _ hw;exact .inr ⟨k,_,rfl,hw.symm,hok.1,hok.2⟩
 |nou k v=>injection hw with _ hw;exact .inr ⟨k,_,rfl,hw.symm,hok.1.1,hok.1.2⟩
 |more k m=>injection hw with _ hw;exact .inr ⟨k,_,rfl,hw.symm,hok.1.1,hok.1.2⟩
abbrev q3g:Stmt:=top 29
theorem sc_read_mark:FnScope ["template", "at", "sign"] ["template", "at"] (defScope q3g):=by trivial
theorem z0f(D:Df K mg "read_mark" q3g ["template", "at"])(T:Txt mg)(C:CallsV P w K mg base):Cal P w K mg base "read_mark" 4 ["template", "at"] spMark:=by
 refine D.cal sc_read_mark (fun vs H Q E h=>?_) (fun f cdv A outer s H vs Q E hr h=>?_)
 ·obtain⟨l,r,t,a,p,rfl,_⟩:=h;rfl
 ·obtain⟨l,r,t,a,p,rfl,hl,hok,hw,hx,hd,k⟩:=h;obtain⟨_,g_FROM_ONE⟩:=T.FROM_ONE;refine⟨_,(q0b (q0j (i:=2) sc_read_mark.nd rfl (by trivial) (pe_c C.asked hr (q0a (pv 0) (q0a (pv 1) (q0a (q0s q0n q0h (q1c (v:=.str (Aa "123456789")) (by rfl) g_FROM_ONE ⟨_,rfl⟩)) q0c))))) (q0b (q0u (q0g (eq_k K rfl hr) (pv 2) q0h (nomark _)) (q0d (q0l (pe_c C.read_count hr (q0a (pv 0) (q0a (q0s q0n (pv 1) q0f) q0c))))) q0i) (q0d (q0l (pe_c C.read_gap hr (q0a (pv 0) (q0a (q0s q0n (pv 1) q0f) (q0a (q1j q3a (by rfl) T.b_int (by decide +kernel) (q0a (pv 2) q0c)) q0c)))))))),?_⟩;have e9:(Aa "n").length+(Aa "123456789").length<=1000:=by decide +kernel
  rcases gt_of hok hw hx with⟨v,rfl,rfl⟩|⟨g,u,hgt,rfl,hg1,hg9⟩
  ·obtain⟨hc,hd2⟩:=q1e (show l.drop a=110::(cntW v++r) from hd);refine⟨_,rfl,_,rfl,.inr (.inl ⟨_,_,rfl,rfl,TX.small (by lia),l,a,110,_,rfl,hc,by decide +kernel,hl,?_⟩)⟩;refine⟨_,rfl,.inl ⟨rfl,_,rfl,?_⟩⟩;rw[lit1 110 110 "n" (by decide +kernel),decide_eq_true rfl];refine iteT ⟨_,rfl,_,rfl,.inl ⟨_,_,rfl,rfl,l,r,a+1,v,by rfl,hl,hok.1,hok.2,hd2,?_⟩⟩;rw[show a+1+(cntW v).length=a+(110::cntW v).length from by rw[Ar];lia];exact k
  ·obtain⟨hc,hd2⟩:=q1e (show l.drop a=(48+g)::(u++r) from hd);refine⟨_,rfl,_,rfl,.inr (.inl ⟨_,_,rfl,rfl,TX.small (by lia),l,a,48+g,_,rfl,hc,in_n g (by lia) hg1,hl,?_⟩)⟩;refine⟨_,rfl,.inl ⟨rfl,_,rfl,?_⟩⟩;rw[lit1 (48+g) 110 "n" (by decide +kernel),decide_eq_false (by lia)];refine iteF ⟨_,rfl,_,rfl,.inl ⟨_,_,rfl,rfl,_,rfl,.inr ⟨_,_,rfl,z6g (by lia),by rw[q0o];show 1<=640;decide,l,r,u,a+1,g,p,by rfl,hl,hok,hgt,hd2,?_⟩⟩⟩;rw[show a+1+u.length=a+((48+g)::u).length from by rw[Ar];lia];exact k
structure CallsW (P:Program) (w:World) (K:Ae) (mg:Str->Option Value) (base:Heap):Prop where
 read_mark:Cal P w K mg base "read_mark" 4 ["template", "at"] spMark
 read_into:Cal P w K mg base "read_into" 1 ["template", "at"] spInto
 read_text:Cal P w K mg base "read_text" 2 ["template", "at"] spRText
def spPiece:Sp:=fun vs H Q _=>∃(l r:List Nat) (a:Nat) (p:Pc),vs=[.str (mk l),.int (a:Int)]/\l.length<=1000/\p.ok/\l.drop a=p.wr++r/\((∃x,p=.tx x)->∀c r',r=c::r'->¬c∈NS)/\(p=.into->1<=a/\∃c,l[a-1]?=some c/\c≠47)/\RT H Q p (a+p.wr.length)
theorem no123:(123:Nat)∉NS:=by decide +kernel
theorem no47:(47:Nat)∉NS:=by decide +kernel
theorem x1s{p:Pc}(h1:∀x,p≠.tx x)(h2:p≠.into):∃t,p.wr=123::t:=by
 cases p with
 |tx l=>exact absurd rfl (h1 l)
 |into=>exact absurd rfl h2
 |_=>exact⟨_,rfl⟩
abbrev q2s:Stmt:=top 32
theorem q8g:FnScope ["template", "at"] ["template", "at"] (defScope q2s):=by trivial
theorem q8h(D:Df K mg "read_piece" q2s ["template", "at"])(T:Txt mg)(C:CallsW P w K mg base):Cal P w K mg base "read_piece" 5 ["template", "at"] spPiece:=by
 refine D.cal q8g (fun vs H Q E h=>?_) (fun f cdv A outer s H vs Q E hr h=>?_)
 ·obtain⟨l,r,a,p,rfl,_⟩:=h;rfl
 ·obtain⟨l,r,a,p,rfl,hl,hok,hd,htx,hin,k⟩:=h;refine⟨_,(q0b (q0u (q0g (eq_k K rfl hr) (q0t (ix_k K rfl) (pv 0) (pv 1) (fun _ _=>rfl)) q0h (nomark _)) (q0d (q0l (pe_c C.read_mark hr (q0a (pv 0) (q0a (q0s q0n (pv 1) q0f) q0c))))) q0i) (q0b (q0u (q0g (eq_k K rfl hr) (q0t (ix_k K rfl) (pv 0) (pv 1) (fun _ _=>rfl)) q0h (nomark _)) (q0d (q0l (pe_c C.read_into hr (q0a (pv 0) (q0a (pv 1) q0c))))) q0i) (q0d (q0l (pe_c C.read_text hr (q0a (pv 0) (q0a (pv 1) q0c))))))),?_⟩;have hlen:=q0o l;have at_:∀c,l[a]?=some c->atI (tl (mk l)) ((a:Nat):Int)=some c:=fun c hc=>q1m (by rw[q0v];exact hc)
  by_cases h1:∃x,p=.tx x
  ·obtain⟨t,rfl⟩:=h1;obtain⟨c,t',rfl⟩:∃c t',t=c::t':=by cases t with|nil=>exact absurd rfl hok.1|cons c t'=>exact⟨c,t',rfl⟩
   have hcN:=hok.2 c Ai;obtain⟨hc,_⟩:=q1e (show l.drop a=c::(t'++r) from hd);refine⟨_,rfl,_,rfl,.inr (.inr ⟨mk l,_,c,rfl,rfl,TX.small (by lia),at_ c hc,.inl ⟨rfl,_,rfl,?_⟩⟩)⟩;show if decide (V.str (mk [c])=V.str (Aa "{"))=true then _ else _
   rw[lit1 c 123 "{" (by decide +kernel),decide_eq_false (fun z:c=123=>no123 (z▸hcN))];refine iteF ⟨_,rfl,_,rfl,.inr (.inr ⟨mk l,_,c,rfl,rfl,TX.small (by lia),at_ c hc,.inl ⟨rfl,_,rfl,?_⟩⟩)⟩;show if decide (V.str (mk [c])=V.str (Aa "/"))=true then _ else _
   rw[lit1 c 47 "/" (by decide +kernel),decide_eq_false (fun z:c=47=>no47 (z▸hcN))];refine iteF ⟨_,rfl,_,rfl,l,c::t',r,a,by rfl,hl,hd,hok.1,hok.2,htx ⟨_,rfl⟩,k⟩
  ·by_cases h2:p=.into
   ·subst h2;obtain⟨hc,_⟩:=q1e (show l.drop a=47::r from hd);obtain⟨ha,c,hc1,hc2⟩:=hin rfl;refine⟨_,rfl,_,rfl,.inr (.inr ⟨mk l,_,47,rfl,rfl,TX.small (by lia),at_ 47 hc,.inl ⟨rfl,_,rfl,?_⟩⟩)⟩;show if decide (V.str (mk [47])=V.str (Aa "{"))=true then _ else _
    rw[lit1 47 123 "{" (by decide +kernel),decide_eq_false (by decide)];refine iteF ⟨_,rfl,_,rfl,.inr (.inr ⟨mk l,_,47,rfl,rfl,TX.small (by lia),at_ 47 hc,.inl ⟨rfl,_,rfl,?_⟩⟩)⟩;show if decide (V.str (mk [47])=V.str (Aa "/"))=true then _ else _
    rw[lit1 47 47 "/" (by decide +kernel),decide_eq_true rfl];exact iteT ⟨_,rfl,_,rfl,l,a,c,by rfl,hl,ha,hc1,hc2,k⟩
   ·have h1':∀x,p≠.tx x:=fun x z=>h1 ⟨x,z⟩;obtain⟨t,ht⟩:=x1s h1' h2;rw[ht] at hd k;obtain⟨hc,hd2⟩:=q1e (show l.drop a=123::(t++r) from hd);refine⟨_,rfl,_,rfl,.inr (.inr ⟨mk l,_,123,rfl,rfl,TX.small (by lia),at_ 123 hc,.inl ⟨rfl,_,rfl,?_⟩⟩)⟩;show if decide (V.str (mk [123])=V.str (Aa "{"))=true then _ else _
    rw[lit1 123 123 "{" (by decide +kernel),decide_eq_true rfl];refine iteT ⟨_,rfl,_,rfl,.inl ⟨_,_,rfl,rfl,l,r,t,a+1,p,by rfl,hl,hok,ht,h1',hd2,?_⟩⟩;rw[show a+1+t.length=a+(123::t).length from by rw[Ar];lia];exact k
def flatP(ps:List Pc):List Nat:=(ps.map Pc.wr).flatten
theorem q0p(p:Pc)(ps:List Pc):flatP (p::ps)=p.wr++flatP ps:=by simp[flatP]
theorem q1r(a b:List Pc):flatP (a++b)=flatP a++flatP b:=by simp[flatP]
theorem z6h{p:Pc}(h:p.ok):p.wr≠[]:=by
 cases p with
 |tx l=>exact h.1
 |_=>simp[Pc.wr]
structure WP (ps:List Pc):Prop where
 ne:ps≠[]
 ok:∀p∈ps,p.ok
 tt:∀i x y,ps[i]?=some (.tx x)->ps[i+1]?≠some (.tx y)
 ii:∀i,ps[i]?=some .into->1<=i/\ps[i-1]?≠some .into
 la:∀q,ps.getLast?=some q->q≠.into
 sz:(flatP ps).length<=100
theorem x1t{p:Pc}(h:∀x,p≠.tx x):∃c t,p.wr=c::t/\¬c∈NS:=by
 cases p with
 |tx l=>exact absurd rfl (h l)
 |into=>exact⟨47,[],rfl,no47⟩
 |_=>exact⟨123,_,rfl,no123⟩
theorem x1u{p:Pc}(hok:p.ok)(h:p≠.into):∃t c,p.wr=t++[c]/\c≠47:=by
 cases p with
 |tx l =>
  refine⟨l.dropLast,l.getLast hok.1,(Cz hok.1).symm,fun z=>?_⟩;have:=hok.2 _ (List.getLast_mem hok.1);rw[z] at this;exact no47 this
 |into=>exact absurd rfl h
 |gap k=>exact⟨[123,48+k],125,rfl,by decide⟩
 |great k=>exact⟨[123,48+k,117],125,rfl,by decide⟩
 |small k=>exact⟨[123,48+k,108],125,rfl,by decide⟩
 |nou k w=>exact⟨[123,48+k,122,48+w],125,rfl,by decide⟩
 |more k m=>exact⟨123::(48+k)::43::dg m,125,rfl,by decide⟩
 |cnt v =>
  by_cases hv:v=1
  ·exact⟨[123,110],125,by show 123::110::cntW v=_;unfold cntW;rw[if_pos hv];rfl,by decide⟩
  ·exact⟨[123,110,48+v],125,by show 123::110::cntW v=_;unfold cntW;rw[if_neg hv];rfl,by decide⟩
abbrev PTu(H:Hp):List Addr->List Pc->Prop:=Eu fun T p=>H T=some (.tup p.vs)
structure HP (H:Hp) (L:Addr) (ps:List Pc):Prop where
 ex:∃Ts,H L=some (.lst (Ts.map V.ref))/\PTu H Ts ps
theorem PTu.keep{H H':Hp}(k:∀T xs,H T=some (.tup xs)->H' T=some (.tup xs)):∀{Ts:List Addr} {ps:List Pc},PTu H Ts ps->PTu H' Ts ps
 |_,_,.nil=>.nil
 |_,_,.cons h t=>.cons (k _ _ h) (PTu.keep k t)
theorem PTu.len{H:Hp}{Ts:List Addr}{ps:List Pc}(h:PTu H Ts ps):Ts.length=ps.length:=Ey h
theorem PTu.snoc{H:Hp}{T:Addr}{p:Pc}(hT:H T=some (.tup p.vs)):∀{Ts:List Addr} {ps:List Pc},PTu H Ts ps->PTu H (Ts++[T]) (ps++[p])
 |_,_,.nil=>.cons hT .nil
 |_,_,.cons h t=>.cons h (PTu.snoc hT t)
theorem PTu.get{H:Hp}:∀{Ts:List Addr} {ps:List Pc} {i:Nat} {T:Addr},PTu H Ts ps->Ts[i]?=some T->∃p,ps[i]?=some p/\H T=some (.tup p.vs)
 |_,_,0,_,.cons h t,e=>by simp at e;subst e;exact⟨_,rfl,h⟩
 |_,_,i+1,_,.cons h t,e=>by
  obtain⟨p,h1,h2⟩:=PTu.get t (by simpa using e);exact⟨p,by simpa using h1,h2⟩
theorem HP.same{H H':Hp}{L:Addr}{ps:List Pc}(h:HP H L ps)(s:Same H H'):HP H' L ps:=let ⟨Ts,h1,h2⟩:=h.ex;⟨Ts,s _ _ h1,h2.keep fun T xs e=>s _ _ e⟩
theorem HP.sq{K:Ae}{H:Hp}{L:Addr}{ps:List Pc}(h:HP H L ps):∃xs,SqL K H L xs:=let ⟨Ts,h1,_⟩:=h.ex;⟨_,SqL.of h1⟩
def Pc.ds:Pc->List PyData
 |.tx l=>[.str (Aa "text"),.str (mk l)]
 |.gap k=>[.str (Aa "gap"),.int (k:Int)]
 |.great k=>[.str (Aa "great"),.int (k:Int)]
 |.small k=>[.str (Aa "small"),.int (k:Int)]
 |.nou k w=>[.str (Aa "noughts"),.int (k:Int),.int (w:Int)]
 |.more k m=>[.str (Aa "more"),.int (k:Int),.int (m:Int)]
 |.cnt v=>[.str (Aa "count"),.int (v:Int)]
 |.into=>[.str (Aa "into")]
theorem Pc.dts{K:Ae}{H:Hp}(p:Pc):Dts K H p.vs p.ds:=by
 cases p<;>first|exact .cons (.str _) (.cons (.str _) .nil)|exact .cons (.str _) (.cons (.int _) .nil)|exact .cons (.str _) (.cons (.int _) (.cons (.int _) .nil))|exact .cons (.str _) .nil
theorem PTu.dts{K:Ae}{H:Hp}:∀{Ts:List Addr} {ps:List Pc},PTu H Ts ps->Dts K H (Ts.map V.ref) (ps.map fun p=>.tuple p.ds)
 |_,_,.nil=>.nil
 |_,_,.cons h t=>.cons (.tup (SqT.of h) (Pc.dts _)) (PTu.dts t)
theorem Pc.lay {p : Pc} (h : p.ok) : (PyData.tuple p.ds).canLay0 = true := by
  show Br p.ds = true;cases p with
  | tx l =>
    have h1 : Cd (mk l) = true := q5a fun c hc => z2e c (h.2 c hc);have h2 : Cd (Aa "text") = true := by decide +kernel
    show Br [.str (Aa "text"), .str (mk l)] = true;simp only [Br, Dg, h1, h2, Du]
  | gap k => have h2 : Cd (Aa "gap") = true := by decide +kernel
             simp only [Pc.ds, Br, Dg, h2, Du]
  | great k => have h2 : Cd (Aa "great") = true := by decide +kernel
               simp only [Pc.ds, Br, Dg, h2, Du]
  | small k => have h2 : Cd (Aa "small") = true := by decide +kernel
               simp only [Pc.ds, Br, Dg, h2, Du]
  | nou k w => have h2 : Cd (Aa "noughts") = true := by decide +kernel
               simp only [Pc.ds, Br, Dg, h2, Du]
  | more k m => have h2 : Cd (Aa "more") = true := by decide +kernel
                simp only [Pc.ds, Br, Dg, h2, Du]
  | cnt v => have h2 : Cd (Aa "count") = true := by decide +kernel
             simp only [Pc.ds, Br, Dg, h2, Du]
  | into => decide +kernel
theorem lays:∀{ps:List Pc},(∀p∈ps,p.ok)->(PyData.list (ps.map fun p=>.tuple p.ds)).canLay0=true:=by
 intro ps;show _->Br (ps.map fun p=>.tuple p.ds)=true;induction ps with
 |nil=>intro _;rfl
 |cons p r ih =>
  intro h;have h1:=Pc.lay (h p Ai);have h2:=ih fun q hq=>h q (Ah _ hq);show Br (.tuple p.ds::r.map fun p=>.tuple p.ds)=true;simp only[Br,h1,h2,Du]
theorem z2m{p:Pc}(h:p≠.into):De (.tuple p.ds) (.tuple [.str (Aa "into")])=false:=by
 cases p with
 |into=>exact absurd rfl h
 |_=>simp[Pc.ds,De,Ec]
theorem z8p{ps:List Pc}(h:ps≠[]):De (.list (ps.map fun p=>.tuple p.ds)) (.list [])=false:=by
 cases ps with
 |nil=>exact absurd rfl h
 |cons p r=>simp[De,Ec]
structure CallsX (P:Program) (w:World) (K:Ae) (mg:Str->Option Value) (base:Heap):Prop where
 read_piece:Cal P w K mg base "read_piece" 5 ["template", "at"] spPiece
def spPieces:Sp:=fun vs H Q _=>∃ps:List Pc,vs=[.str (mk (flatP ps))]/\WP ps/\∀L H',H L=none->Same H H'->HP H' L ps->Q (.ref L) H'
def pcMeas(n:Nat)(σ:St):Nat:=match σ[2]? with|some (some (V.int e))=>n-e.toNat|_=>0
abbrev q3h:Stmt:=top 33
theorem sc_pieces_of:FnScope ["template", "pieces", "at", "piece"] ["template"] (defScope q3h):=by trivial
theorem z0g(D:Df K mg "pieces_of" q3h ["template"])(T:Txt mg)(C:CallsX P w K mg base):Cal P w K mg base "pieces_of" 6 ["template"] spPieces:=by
 refine D.cal sc_pieces_of (fun vs H Q E h=>?_) (fun f cdv A outer s H vs Q E hr h=>?_)
 ·obtain⟨ps,rfl,_⟩:=h;rfl
 ·obtain⟨ps,rfl,wp,k⟩:=h;refine⟨_,(q0b (q0j (i:=1) sc_pieces_of.nd rfl (by trivial) (q1t q0c)) (q0b (q0j (i:=2) sc_pieces_of.nd rfl (by trivial) q0f) (q0b (q7g Bd (q0g z7n (pv 2) (q0y (q3o K rfl) (by rfl) T.b_len Cc (q0a (pv 0) q0c)) (nomark _)) (q0b (q5g (pe_c C.read_piece hr (q0a (pv 0) (q0a (pv 2) q0c))) (@q2z _ _ _ _ (2) _ K rfl rfl (q0q (q0k (i:=3) sc_pieces_of.nd rfl (by trivial)) (q0q (q0k (i:=2) sc_pieces_of.nd rfl (by trivial)) q2b)) (by rfl) (by rfl))) (q0d (q0x (@bm_k _ _ _ _ _ _ _ _ _ _ _ _ K rfl Bs Ca Cb q1g (pv 1) (q0a (pv 3) q0c) (by rfl) (by rfl) (by rfl) (by rfl) (by rfl)))))) (q0b (q0u (pt_j (@PW.pt _ _ _ (z4j (q0g (eq_k K rfl hr) (pv 1) (q1t q0c) (nomark _)) (q9c (q0g (eq_k K rfl hr) (q0t (ix_k K rfl) (pv 1) (z3i q6q q0f) (fun _ _=>rfl)) (q0w (q0a q0h q0c)) (nomark _)))))) (q0d q1l) q0i) (q0d (q0l (pv 1))))))),?_⟩;generalize hl:flatP ps=l;have hlen:=q0o l;have hsz:l.length<=100:=by rw[<- hl];exact wp.sz
  refine⟨by show 0<=sizeLine;decide,fun L hL=>?_⟩;have hplen:ps.length<=100:=by
   have:∀qs:List Pc,(∀p∈qs,p.ok)->qs.length<=(flatP qs).length:=by
    intro qs;induction qs with
    |nil=>intro _;exact Af _
    |cons q r ih =>
     intro hq;have h1:=ih fun p hp=>hq p (Ah _ hp);have h2:=Bx.mpr (z6h (hq q Ai));rw[q0p,Ac,Ar];lia
   have:=this ps wp.ok;rw[hl] at this;lia
  refine q7h (fun σ3 H3=>∃(i:Nat) (x3:Option V),σ3=[some (.str (mk l)),some (.ref L),some (.int (((flatP (ps.take i)).length:Nat):Int)),x3]/\Same H H3/\HP H3 L (ps.take i)/\i<=ps.length) (fun σ3 _=>pcMeas (l.length+1) σ3) ⟨0,none,rfl,(Same.refl H).new hL,⟨[],q0e,.nil⟩,Au _⟩ ?_ ?_
  ·rintro σ3 H3 ⟨i,x3,rfl,sm,hp,hi⟩;have esp:flatP (ps.take i)++flatP (ps.drop i)=l:=by rw[<- q1r,Fs,hl]
   have hspl:(flatP (ps.take i)).length+(flatP (ps.drop i)).length=l.length:=by rw[<- esp,Ac]
   refine⟨_,rfl,_,rfl,_,_,rfl,⟨TX.small (by lia),rfl⟩,_,_,rfl,rfl,_,rfl,?_⟩;refine ite2 (fun h=>?_) (fun h=>?_)
   ·have h1:=of_decide_eq_true h;have hi':i<ps.length:=by
     rcases Nj i ps.length with z|z
     ·exact z
     ·rw[Ll z] at hspl;simp[flatP] at hspl;simp[flatP] at h1;lia
    have hpi:ps[i]?=some ps[i]:=Bi hi';generalize ps[i]=p at hpi;have hok:=wp.ok p (As hpi);have edr:=q4e hpi;have hdr:l.drop (flatP (ps.take i)).length=p.wr++flatP (ps.drop (i+1)):=by rw[<- esp,Lz,edr,q0p]
    refine⟨_,rfl,_,rfl,l,flatP (ps.drop (i+1)),(flatP (ps.take i)).length,p,rfl,by lia,hok,hdr,?_,?_,fun T1 T2 H4 hT1 hT2 sm4 h41 h42=>?_⟩
    ·rintro⟨x,rfl⟩ c r' hr;cases hq:ps[i+1]? with
     |none =>
      rw[Ll (List.getElem?_eq_none_iff.mp hq)] at hr;cases hr
     |some q =>
      have hnx:∀y,q≠.tx y:=fun y z=>wp.tt i x y hpi (by rw[hq,z]);obtain⟨c',t',hw,hn⟩:=x1t hnx;rw[q4e hq,q0p,hw] at hr;cases hr;exact hn
    ·rintro rfl;obtain⟨h1i,hprev⟩:=wp.ii i hpi;obtain⟨q,hq⟩:∃q,ps[i-1]?=some q:=⟨_,Bi (by lia)⟩
     have hqi:q≠.into:=fun z=>hprev (by rw[hq,z]);obtain⟨t,c,hw,hc⟩:=x1u (wp.ok q (As hq)) hqi;have etk:ps.take i=ps.take (i-1)++[q]:=by
      have:=q0z hq
      rwa [show i-1+1=i from by lia] at this
     have efl:flatP (ps.take i)=(flatP (ps.take (i-1))++t)++[c]:=by rw[etk,q1r,show flatP [q]=q.wr from by simp[flatP],hw,Cf]
     refine⟨by rw[efl,Ac,Bh];lia,c,?_,hc⟩;rw[<- esp,efl,Ac,Bh,Jp,Cf,Cn (Af _),Iu];rfl
    ·refine⟨T2,_,rfl,SqT.of h42,rfl,_,_,rfl,_,_,rfl,rfl,?_⟩;have hp4:=hp.same sm4;obtain⟨Ts,a1,a2⟩:=hp4.ex;have hTl:=a2.len;rw[Bv] at hTl;refine⟨_,rfl,.inl ⟨rfl,hp4.sq⟩,_,rfl,L,_,_,rfl,rfl,a1,by rw[Ad];exact TX.small' (by lia),?_⟩;have hTL:T1≠L:=fun z=>by subst z;rw[a1] at h41;cases h41
     have ewr:flatP (ps.take (i+1))=flatP (ps.take i)++p.wr:=by rw[q0z hpi,q1r];simp[flatP]
     refine⟨⟨i+1,some (.ref T1),?_,(sm.trans sm4).put hL,⟨Ts++[T1],by rw[Ax];exact q0e,?_⟩,hi'⟩,?_⟩
     ·rw[ewr,Ac];rfl
     ·rw[q0z hpi];refine PTu.snoc (by rw[q0m hTL];exact h41) (a2.keep fun Tx xs e=>?_);rw[q0m (fun z=>by subst z;rw[a1] at e;cases e)];exact e
     ·show l.length+1-(((flatP (ps.take i)).length+p.wr.length:Nat):Int).toNat<l.length+1-(((flatP (ps.take i)).length:Nat):Int).toNat;have:=Bx.mpr (z6h hok);lia
   ·have h1:¬(((flatP (ps.take i)).length:Nat):Int)<(((mk l).length:Nat):Int):=fun z=>h (decide_eq_true z);have hi':i=ps.length:=by
     rcases Nj i ps.length with z|z
     ·have hpi:ps[i]?=some ps[i]:=Bi z;have:=Bx.mpr (z6h (wp.ok _ (As hpi)));rw[q4e hpi,q0p,Ac] at hspl;lia
     ·lia
    subst hi';rw[Cq] at hp;obtain⟨Ts,a1,a2⟩:=hp.ex;have hTl:=a2.len;obtain⟨qs,q,hqs⟩:∃qs q,ps=qs++[q]:=⟨ps.dropLast,ps.getLast wp.ne,(Cz wp.ne).symm⟩
    have hqn:q≠.into:=wp.la q (by rw[hqs];simp);refine⟨fun b H'=>b=false/\Same H3 H',?_,?_⟩
    ·rintro b H' ⟨rfl,sm'⟩;exact iteF ⟨_,rfl,k L H' hL (sm.trans sm') (hp.same sm')⟩
    refine⟨_,rfl,by show 0<=sizeLine;decide,fun E0 hE0=>?_⟩;have smE:Same H3 (upd H3 E0 (.lst [])):=(Same.refl H3).new hE0;have hpE:=hp.same smE;obtain⟨Us,b1,b2⟩:=hpE.ex;refine .inr ⟨_,_,.lst (SqL.of b1) b2.dts,.lst (SqL.of q0e) .nil,lays wp.ok,rfl,?_,_,rfl,?_⟩
    ·refine Ap (Ks _ _) ?_;decide +kernel
    rw[z8p wp.ne];refine iteF ?_;have hUl:=b2.len;have hUne:Us≠[]:=fun z=>by rw[z] at hUl;rw[hqs] at hUl;simp at hUl
    have hUs:=(Cz hUne).symm;have hlast:Us[ps.length-1]?=some (Us.getLast hUne):=by rw[<- hUl];simp[List.getLast_eq_getElem]
    obtain⟨q',hq1,hq2⟩:=b2.get hlast;have eq':q'=q:=by rw[hqs] at hq1;simp at hq1;exact hq1.symm
    subst eq';have hix:atI (Us.map V.ref) (-1)=some (.ref (Us.getLast hUne)):=by
     have:=z8c Us.dropLast (Us.getLast hUne)
     rwa [<- hUs] at this
    refine⟨_,rfl,_,rfl,.inl ⟨L,_,-1,_,rfl,rfl,SqL.of b1,hix,by show 1<=sizeLine;decide,fun T3 hT3=>?_⟩⟩;have sm3:Same (upd H3 E0 (.lst [])) (upd (upd H3 E0 (.lst [])) T3 (.tup [.str (Aa "into")])):=(Same.refl _).new hT3;refine .inr ⟨_,_,.tup (SqT.of (sm3 _ _ hq2)) (Pc.dts _),.tup (SqT.of q0e) (.cons (.str _) .nil),Pc.lay (wp.ok _ (by rw[hqs];simp)),by decide +kernel,?_,_,rfl,?_,smE.trans sm3⟩
    ·refine Ap (Ks _ _) ?_;decide +kernel
    ·exact z2m hqn
  ·intro σ H Q Q' hq hw;obtain⟨x,e1,y,e2,n',z,e3,e4,a',b',e5,e6,c',e7,hh⟩:=hw;exact⟨x,e1,y,e2,n',z,e3,e4,a',b',e5,e6,c',e7,hq _ _ hh⟩
theorem z8q{P:Program}{w:World}{K:Ae}{dC:Addr}{ep:Nat}{t1 t2 t3 t4:Tok}(lC:K.lookup dC=some ⟨.type "dict",none,.dict #[⟨Jf w.params (Aa "u"),.str (Aa "u") t1,.str (Aa "great") t2⟩,⟨Jf w.params (Aa "l"),.str (Aa "l") t3,.str (Aa "small") t4⟩] ep,#[]⟩):KDict P w K dC casesKV:=by
 refine⟨_,[(Sum.inr (Aa "u"),.str (Aa "great") t2),(Sum.inr (Aa "l"),.str (Aa "small") t4)],lC,.cons ⟨rfl,t2,rfl⟩ (.cons ⟨rfl,t4,rfl⟩ .nil),fun h e=>?_⟩;have k1:(mixKind P w).is (Sum.inr (Aa "u")) (.str (Aa "u") t1)=true:=q5e (Aa "u") t1;have k2:(mixKind P w).is (Sum.inr (Aa "l")) (.str (Aa "l") t3)=true:=q5e (Aa "l") t3;refine⟨_,_,ep,e,⟨rfl,rfl,rfl⟩,rfl,fun en hen=>?_,.cons k1 rfl (.cons k2 rfl .nil),?_⟩
 ·simp only[List.mem_toArray,Am,Bl,or_false] at hen;rcases hen with rfl|rfl
  ·exact⟨_,k1,rfl⟩
  ·exact⟨_,k2,rfl⟩
 ·exact(by decide +kernel:([Sum.inr (Aa "u"),Sum.inr (Aa "l")]:List Key).Nodup)
abbrev vG(gs:List Nat):List V:=gs.map fun c=>V.str (mk [c])
def gapNo:Pc->Option Nat
 |.gap k=>some k
 |.great k=>some k
 |.small k=>some k
 |.nou k _=>some k
 |.more k _=>some k
 |_=>none
def isMo:Pc->Bool
 |.more _ _=>true
 |_=>false
def pcWd:Pc->Str
 |.tx _=>Aa "text"
 |.gap _=>Aa "gap"
 |.great _=>Aa "great"
 |.small _=>Aa "small"
 |.nou _ _=>Aa "noughts"
 |.more _ _=>Aa "more"
 |.cnt _=>Aa "count"
 |.into=>Aa "into"
def pcI:Pc->Bool
 |.into=>true
 |_=>false
theorem pw0(p:Pc):atI p.vs 0=some (.str (pcWd p)):=by cases p<;>rfl
theorem pwM(p:Pc):decide (V.str (pcWd p)=V.str (Aa "more"))=isMo p:=by
 rw[L2.dec_str];cases p<;>(simp only[pcWd,isMo];decide +kernel)
theorem pwI(p:Pc):decide (V.str (pcWd p)=V.str (Aa "into"))=pcI p:=by
 rw[L2.dec_str];cases p<;>(simp only[pcWd,pcI];decide +kernel)
theorem z8r{p:Pc}{k:Nat}(h:gapNo p=some k):atI p.vs 1=some (.int (k:Int)):=by cases p<;>cases h<;>rfl
abbrev ofGap:List V:=[.str (Aa "gap"),.str (Aa "great"),.str (Aa "small"),.str (Aa "noughts"),.str (Aa "more")]
abbrev kinds3:List V:=[.str (Aa "slip"),.str (Aa "drawer"),.str (Aa "all")]
theorem inGap(p:Pc):inV (.str (pcWd p)) ofGap=(gapNo p).isSome:=by cases p<;>(simp only[pcWd,gapNo,Option.isSome];decide +kernel)
structure AskOk (kd:Str) (gs:List Nat) (p:Pc):Prop where
 gp:∀k,gapNo p=some k->1<=k/\k<=gs.length
 mo:∀k m,p=.more k m->gs[k-1]?=some 35
 io:p=.into->kd=Aa "slip"
def spAskGap:Sp:=fun vs H Q _=>∃T G p k gs kd,vs=[.ref T,.ref G]/\H T=some (.tup p.vs)/\gapNo p=some k/\H G=some (.lst (vG gs))/\gs.length<=3000/\AskOk kd gs p/\Q .non H
theorem vG_at{gs:List Nat}{k c:Nat}(hk:1<=k)(h:gs[k-1]?=some c):atI (vG gs) ((k:Int)-1)=some (.str (mk [c])):=by
 have e:((k:Int)-1)=((k-1:Nat):Int):=by lia
 rw[e];refine q1m ?_;rw[Bg,h];rfl
theorem lit35:decide (V.str (mk [35])=V.str (Aa "#"))=true:=by
 rw[lit1 35 35 "#" (by decide +kernel)];rfl
abbrev q4l:Stmt:=top 38
theorem sc_ask_gap:FnScope ["piece", "gap_signs", "sort", "gap"] ["piece", "gap_signs"] (defScope q4l):=by trivial
theorem z4a(D:Df K mg "ask_gap" q4l ["piece", "gap_signs"])(T:Txt mg):Cal P w K mg base "ask_gap" 1 ["piece", "gap_signs"] spAskGap:=by
 refine D.cal sc_ask_gap (fun vs H Q E h=>?_) (fun f cdv A outer s H vs Q E hr h=>?_)
 ·obtain⟨T1,G,p,k,gs,kd,rfl,_⟩:=h;rfl
 ·obtain⟨T1,G,p,n,gs,kd,rfl,hT,hg,hG,hgl,ao,k⟩:=h;refine⟨_,(q0b (q0j (i:=2) sc_ask_gap.nd rfl (by trivial) (q0t (ix_k K rfl) (pv 0) q0f (fun _ _=>rfl))) (q0b (q0j (i:=3) sc_ask_gap.nd rfl (by trivial) (q0t (ix_k K rfl) (pv 0) q0f (fun _ _=>rfl))) (q0b (q0u (q0g q5h (pv 3) (q0y (q3o K rfl) (by rfl) T.b_len Cc (q0a (pv 1) q0c)) (nomark _)) (q0d q1l) q0i) (q0d (q0u (pt_j (@PW.pt _ _ _ (q2w (q0g (eq_k K rfl hr) (pv 2) q0h (nomark _)) (q2k (q0g (ne_k K rfl hr) (q0t (ix_k K rfl) (pv 1) (q0s z1x (pv 3) q0f) (fun _ _=>rfl)) q0h (nomark _)))))) (q0d q1l) q0i))))),?_⟩;obtain⟨hn1,hn2⟩:=ao.gp n hg;refine⟨_,rfl,.inr (.inl ⟨T1,_,0,_,rfl,rfl,SqT.of hT,pw0 p,?_⟩)⟩;refine⟨_,rfl,.inr (.inl ⟨T1,_,1,_,rfl,rfl,SqT.of hT,z8r hg,?_⟩)⟩;refine⟨_,rfl,_,rfl,_,_,rfl,.inl ⟨_,SqL.of hG,rfl⟩,_,_,rfl,rfl,_,rfl,?_⟩;rw[Ad];refine ite2 (fun h=>absurd (of_decide_eq_true h) (by lia)) (fun _=>?_);refine⟨fun bb H'=>bb=false/\H'=H,?_,?_⟩
  ·rintro bb H' ⟨rfl,rfl⟩;exact iteF k
  refine⟨_,rfl,.inl ⟨rfl,_,rfl,?_⟩⟩;rw[pwM];refine iteB (fun h=>?_) (fun h=>⟨rfl,rfl⟩);obtain⟨kk,m,rfl⟩:∃kk m,p=.more kk m:=by cases p<;>first|exact⟨_,_,rfl⟩|cases h
  cases hg;refine⟨_,rfl,_,rfl,_,_,rfl,rfl,.inl ⟨G,_,_,_,rfl,rfl,SqL.of hG,vG_at hn1 (ao.mo _ _ rfl),.inl ⟨rfl,_,rfl,?_,rfl⟩⟩⟩;rw[lit35];rfl
structure CallsR (P:Program) (w:World) (K:Ae) (mg:Str->Option Value) (base:Heap):Prop where
 ask_gap:Cal P w K mg base "ask_gap" 1 ["piece", "gap_signs"] spAskGap
 of_a_gap:∃d,mg "OF_A_GAP" = some (.ref d)/\∀H,SqT K H d ofGap
def spAskPiece:Sp:=fun vs H Q _=>∃T G p gs kd,vs=[.ref T,.str kd,.ref G]/\H T=some (.tup p.vs)/\H G=some (.lst (vG gs))/\gs.length<=3000/\AskOk kd gs p/\Q .non H
abbrev q3i:Stmt:=top 39
theorem sc_ask_piece:FnScope ["piece", "kind", "gap_signs", "sort"] ["piece", "kind", "gap_signs"] (defScope q3i):=by trivial
theorem z0h(D:Df K mg "ask_piece" q3i ["piece", "kind", "gap_signs"])(T:Txt mg)(C:CallsR P w K mg base):Cal P w K mg base "ask_piece" 2 ["piece", "kind", "gap_signs"] spAskPiece:=by
 refine D.cal sc_ask_piece (fun vs H Q E h=>?_) (fun f cdv A outer s H vs Q E hr h=>?_)
 ·obtain⟨T1,G,p,gs,kd,rfl,_⟩:=h;rfl
 ·obtain⟨T1,G,p,gs,kd,rfl,hT,hG,hgl,ao,k⟩:=h;obtain⟨d_OF_A_GAP,g_OF_A_GAP,hd⟩:=C.of_a_gap;refine⟨_,(q0b (q0j (i:=3) sc_ask_piece.nd rfl (by trivial) (q0t (ix_k K rfl) (pv 0) q0f (fun _ _=>rfl))) (q1k (q0u (q0g (in_k K rfl) (pv 3) (q1c (v:=.ref d_OF_A_GAP) (by rfl) g_OF_A_GAP rfl) (by with_unfolding_all rfl)) (q0d (q0x (pe_c C.ask_gap hr (q0a (pv 0) (q0a (pv 2) q0c))))) q0i) (q0d (q0u (pt_j (@PW.pt _ _ _ (q2w (q0g (eq_k K rfl hr) (pv 3) q0h (nomark _)) (q2k (q0g (ne_k K rfl hr) (pv 1) q0h (nomark _)))))) (q0d q1l) q0i)))),?_⟩;refine⟨_,rfl,.inr (.inl ⟨T1,_,0,_,rfl,rfl,SqT.of hT,pw0 p,?_⟩)⟩;refine⟨fun σ' H'=>σ'=[some (.ref T1),some (.str kd),some (.ref G),some (.str (pcWd p))]/\H'=H,?_,?_⟩;rotate_left
  ·refine⟨_,rfl,.inr ⟨d_OF_A_GAP,_,rfl,.inr (hd H),rfl,by decide +kernel,_,rfl,?_⟩⟩;show if inV (.str (pcWd p)) ofGap=true then _ else _
   rw[inGap];refine ite2 (fun h=>?_) (fun h=>⟨rfl,rfl⟩);obtain⟨n,hn⟩:=Gz.mp h;exact⟨_,rfl,_,rfl,T1,G,p,n,gs,kd,rfl,hT,hn,hG,hgl,ao,rfl,rfl⟩
  rintro σ' H' ⟨rfl,rfl⟩;refine⟨fun bb H2=>bb=false/\H2=H',?_,?_⟩
  ·rintro bb H2 ⟨rfl,rfl⟩;exact iteF k
  refine⟨_,rfl,.inl ⟨rfl,_,rfl,?_⟩⟩;rw[pwI];refine iteB (fun h=>?_) (fun h=>⟨rfl,rfl⟩);have hi:p=.into:=by cases p<;>first|rfl|cases h
  refine⟨_,rfl,.inl ⟨rfl,_,rfl,?_,rfl⟩⟩;rw[ao.io hi,decide_eq_true rfl];rfl
structure RuleAt (K:Ae) (H:Hp) (R:Addr) (kd:Str) (l:List Nat) (qs:List Pc) (st:Int):Prop where
 at_:H R=some (.tup [.str kd,.str (mk l),.str (mk (flatP qs)),.int st])
 kok:inV (.str kd) kinds3=true
 good:Good l
 wp:WP qs
 st0:0<=st
 st1:st<=1000000000
 ask:∀q∈qs,AskOk kd (gsOf (parse [] l)) q
theorem RuleAt.same{K:Ae}{H H':Hp}{R:Addr}{kd:Str}{l:List Nat}{qs:List Pc}{st:Int}(h:RuleAt K H R kd l qs st)(s:Same H H'):RuleAt K H' R kd l qs st:=⟨s _ _ h.at_,h.kok,h.good,h.wp,h.st0,h.st1,h.ask⟩
structure CallsS (P:Program) (w:World) (K:Ae) (mg:Str->Option Value) (base:Heap):Prop where
 parts_of:Cal P w K mg base "parts_of" 2 ["pattern"] spPartsOf
 pieces_of:Cal P w K mg base "pieces_of" 6 ["template"] spPieces
 ask_piece:Cal P w K mg base "ask_piece" 2 ["piece", "kind", "gap_signs"] spAskPiece
 kinds:∃d,mg "KINDS" = some (.ref d)/\∀H,SqT K H d kinds3
def spAskRule(K:Ae):Sp:=fun vs H Q _=>∃R kd l qs st,vs=[.ref R]/\RuleAt K H R kd l qs st/\∀H',Same H H'->Q (.bl true) H'
theorem z0i{ps:List Pt}{i:Nat}{p:Pt}(h:ps[i]?=some p):gsOf (ps.take (i+1))=gsOf (ps.take i)++gsOf [p]:=by
 have e:ps.take (i+1)=ps.take i++[p]:=by rw[Et,h];rfl
 rw[e];generalize ps.take i=qs;induction qs with
 |nil=>rfl
 |cons q r ih=>cases q with
  |tx t=>exact ih
  |gp c=>show c::gsOf (r++[p])=c::(gsOf r++gsOf [p]);rw[ih]
theorem z2n(ps:List Pt):(gsOf ps).length<=ps.length:=by
 induction ps with
 |nil=>exact Af _
 |cons q r ih=>cases q with
  |tx t=>show(gsOf r).length<=r.length+1;lia
  |gp c=>show(gsOf r).length+1<=r.length+1;lia
abbrev q3w:Stmt:=top 40
theorem sc_ask_rule:FnScope ["rule", "kind", "pattern", "template", "start", "parts", "pieces", "gap_signs", "piece"] ["rule"] (defScope q3w):=by trivial
theorem z1i(D:Df K mg "ask_rule" q3w ["rule"])(T:Txt mg)(C:CallsS P w K mg base):Cal P w K mg base "ask_rule" 7 ["rule"] (spAskRule K):=by
 refine D.cal sc_ask_rule (fun vs H Q E h=>?_) (fun f cdv A outer s H vs Q E hr h=>?_)
 ·obtain⟨R,kd,l,qs,st,rfl,_⟩:=h;rfl
 ·obtain⟨R,kd,l,qs,st,rfl,ru,k⟩:=h;obtain⟨d_KINDS,g_KINDS,hd⟩:=C.kinds;obtain⟨_,g_MOST_START⟩:=T.MOST_START;refine⟨_,(q0b (q5g (pv 0) (@q2z _ _ _ _ (4) _ K rfl rfl (q0q (q0k (i:=1) sc_ask_rule.nd rfl (by trivial)) (q0q (q0k (i:=2) sc_ask_rule.nd rfl (by trivial)) (q0q (q0k (i:=3) sc_ask_rule.nd rfl (by trivial)) (q0q (q0k (i:=4) sc_ask_rule.nd rfl (by trivial)) q2b)))) (by rfl) (by rfl))) (q0b (q0j (i:=5) sc_ask_rule.nd rfl (by trivial) (pe_c C.parts_of hr (q0a (pv 2) q0c))) (q0b (q0j (i:=6) sc_ask_rule.nd rfl (by trivial) (pe_c C.pieces_of hr (q0a (pv 3) q0c))) (q0b (q0u (q0g (z5f K rfl) (pv 1) (q1c (v:=.ref d_KINDS) (by rfl) g_KINDS rfl) (by with_unfolding_all rfl)) (q0d q1l) q0i) (q0b (q7n (i:=7) ["sort", "what"] [] sc_ask_rule.nd rfl (by trivial) rfl (@q2y _ _ _ _ K rfl (pv 5)) (fun _ _ _ _ _=>(@q2z _ _ _ _ (2) _ K rfl rfl (q0q (q0k (i:=0) (show(["sort", "what"]:List Str).Nodup by decide +kernel) rfl (by trivial)) (q0q (q0k (i:=1) (show(["sort", "what"]:List Str).Nodup by decide +kernel) rfl (by trivial)) q2b)) (by rfl) (by rfl))) (fun _ _ _ _ _=>(q5m (q0g (eq_k K rfl hr) (pv 0) q0h (nomark _)))) (fun _ _ _ _ _=>(pv 1))) (q0b (q1h Bd rfl (@q2y _ _ _ _ K rfl (pv 6)) (q0k (i:=8) sc_ask_rule.nd rfl (by trivial)) (q0d (q0x (pe_c C.ask_piece hr (q0a (pv 8) (q0a (pv 1) (q0a (pv 7) q0c))))))) (q0b (q0u (pt_j (@PW.pt _ _ _ (z4j (q0g z7n (pv 4) q0f (nomark _)) (q9c (q0g q5h (pv 4) (q1c (v:=.int 1000000000) (by rfl) g_MOST_START ⟨_,rfl⟩) (nomark _)))))) (q0d q1l) q0i) (q0d (q0l q5f))))))))),?_⟩;refine⟨_,rfl,R,_,rfl,SqT.of ru.at_,rfl,_,_,rfl,_,_,rfl,_,_,rfl,_,_,rfl,rfl,?_⟩;refine⟨_,rfl,l,rfl,ru.good,fun L H1 hL sm1 hl1=>?_⟩;refine⟨_,rfl,qs,rfl,ru.wp,fun M H2 hM sm2 hp2=>?_⟩;refine⟨_,rfl,.inr ⟨d_KINDS,_,rfl,.inr (hd H2),rfl,by decide +kernel,_,rfl,?_⟩⟩;show if (!inV (.str kd) kinds3)=true then _ else _
  rw[ru.kok];refine iteF ?_;obtain⟨Ts,t1,t2⟩:=(hl1.same sm2).ex;have hTl:=t2.len;have hpl:=q5t l [];have hgl:=ru.good.len;refine⟨_,rfl,.inl ⟨L,rfl,⟨_,SqL.of t1⟩,fun D hD=>?_⟩⟩;refine q4b (xs:=Ts.map V.ref) (fun i ys H'=>ys=vG (gsOf ((parse [] l).take i))/\Same H2 H'/\H' D=some (.lst ys)/\i<=(parse [] l).length) ⟨rfl,(Same.refl H2).new hD,q0e,Au _⟩ (fun i ys H' ⟨_,sm,hHD,_⟩=>⟨hHD,SqL.of (sm _ _ t1)⟩) ?_ ?_
  ·rintro i ys H' x hx ⟨rfl,sm,hHD,hi⟩;obtain⟨T1,p,rfl,hp1,ht⟩:=t2.get hx;have hi':=(Aj.mp hp1).1;refine⟨T1,_,rfl,SqT.of (sm _ _ ht),rfl,_,_,rfl,_,_,rfl,rfl,z3r,?_⟩;refine⟨_,rfl,.inl ⟨rfl,_,rfl,?_⟩⟩;rw[wgg];have hg:=z2n ((parse [] l).take i);rw[Bv] at hg;cases p with
   |tx t =>
    refine iteF ⟨?_,sm,hHD,hi'⟩;rw[z0i hp1];show vG _=vG (_++[]);rw[By]
   |gp c =>
    refine iteT ⟨_,rfl,hHD,TX.small' (by rw[Ad];lia),?_,sm.put hD,q0e,hi'⟩;rw[z0i hp1];show _=(gsOf _++[c]).map _;rw[Ax];rfl
  rintro ys H3 ⟨rfl,sm3,hHD,_⟩;rw[Ad,hTl,Cq] at hHD;have hp3:=hp2.same sm3;obtain⟨Us,u1,u2⟩:=hp3.ex;have hgp:=z2n (parse [] l);refine⟨_,rfl,.inl ⟨M,rfl,⟨_,SqL.of u1⟩,?_⟩⟩;refine q1z (xs:=Us.map V.ref) (fun i σ' H'=>∃x8,σ'=[some (.ref R),some (.str kd),some (.str (mk l)),some (.str (mk (flatP qs))),some (.int st),some (.ref L),some (.ref M),some (.ref D),x8]/\H'=H3) ⟨none,rfl,rfl⟩ (fun i σ' H' _ ⟨_,_,e⟩=>by subst e;exact SqL.of u1) ?_ ?_
  ·rintro i x σ' H' hx ⟨x8,rfl,rfl⟩;obtain⟨T1,hT1,rfl⟩:∃T,Us[i]?=some T/\x=.ref T:=by
    rw[Bg] at hx;cases hz:Us[i]? with
    |none=>rw[hz] at hx;cases hx
    |some T=>rw[hz] at hx;cases hx;exact⟨T,rfl,rfl⟩
   obtain⟨p,hp1,ht⟩:=u2.get hT1;refine⟨_,rfl,_,rfl,_,rfl,T1,D,p,gsOf (parse [] l),kd,rfl,ht,hHD,by lia,ru.ask p (As hp1),⟨_,rfl,rfl⟩⟩
  ·rintro σ' H' ⟨x8,rfl,rfl⟩;refine⟨fun bb H4=>bb=false/\H4=H',?_,?_⟩
   ·rintro bb H4 ⟨rfl,rfl⟩;exact iteF (k _ ((sm1.trans sm2).trans sm3))
   have h0:=ru.st0;have h1:=ru.st1;refine⟨_,rfl,_,_,rfl,rfl,_,rfl,?_⟩;refine iteB (fun h=>absurd (of_decide_eq_true h) (by lia)) (fun _=>?_);refine⟨_,rfl,_,_,rfl,rfl,_,rfl,?_,rfl⟩;exact decide_eq_false (by lia)
theorem z8s(a b:List Nat):mk a++mk b=mk (a++b):=by apply ext;rw[q2c,q0v,q0v,q0v]
abbrev up1:=PyProof.Rows.up1
abbrev lo1:=PyProof.Rows.lo1
def gapG:Pc->List Nat->List Nat
 |.great _,t=>t.map up1
 |.small _,t=>t.map lo1
 |.nou _ w,t=>wn w t
 |.more _ m,t=>wn t.length (dg (Dh t+m))
 |_,t=>t
def pcText(ts:List (List Nat))(cn:Nat):Pc->List Nat
 |.tx t=>t
 |.gap k=>ts.getD (k-1) []
 |.great k=>(ts.getD (k-1) []).map up1
 |.small k=>(ts.getD (k-1) []).map lo1
 |.nou k w=>wn w (ts.getD (k-1) [])
 |.more k m=>wn (ts.getD (k-1) []).length (dg (Dh (ts.getD (k-1) [])+m))
 |.cnt w=>wn w (dg cn)
 |.into=>[]
structure GTx (ts:List (List Nat)) (p:Pc):Prop where
 gp:∀k,gapNo p=some k->1<=k/\k<=ts.length
 tx:∀t∈ts,t.length<=12/\∀c∈t,c<128
 mo:∀k m,p=.more k m->ts.getD (k-1) []≠[]/\∀c∈ts.getD (k-1) [],c∈FI
theorem x0b:∀c∈FI,48<=c/\c<=57:=by decide +kernel
theorem z6i:∀(t:List Nat) (a:Nat),(∀c∈t,c∈FI)->t.foldl (fun acc c=>acc*10+(c-48)) a<(a+1)*10^t.length
 |[],a,_=>by simp
 |c::r,a,h=>by
  have h1:=x0b c (h c Ai);have h2:=z6i r (a*10+(c-48)) fun x hx=>h x (Ah _ hx);rw[Dn,Ar,Ko];have h3:(a*10+(c-48)+1)*10^r.length<=((a+1)*10)*10^r.length:=Eo _ (by lia);have h4:((a+1)*10)*10^r.length=(a+1)*(10^r.length*10):=by rw[Nat.mul_assoc,Nb 10]
  lia
theorem dv_lt(t:List Nat)(h:∀c∈t,c∈FI):Dh t<10^t.length:=by
 have:=z6i t 0 h;simpa[Dh] using this
def spWN:Sp:=fun vs H Q _=>∃(t:List Nat) (w:Nat),vs=[.str (mk t),.int (w:Int)]/\w<=1000/\Q (.str (mk (wn w t))) H
abbrev q2e:Stmt:=top 48
theorem q6b:FnScope ["text", "width"] ["text", "width"] (defScope q2e):=by trivial
theorem q6c(D:Df K mg "with_noughts" q2e ["text", "width"])(T:Txt mg):Cal P w K mg base "with_noughts" 1 ["text", "width"] spWN:=by
 refine D.cal q6b (fun vs H Q E h=>?_) (fun f cdv A outer s H vs Q E hr h=>?_)
 ·obtain⟨t,n,rfl,_⟩:=h;rfl
 ·obtain⟨t,n,rfl,hn,k⟩:=h;refine⟨_,(q0d (q0l (@bm_k _ _ _ _ _ _ _ _ _ _ _ _ K rfl Bo PySem.F.slot_str_rjust PySem.F.type_str_rjust z8i (pv 0) (q0a (pv 1) (q0a q0h q0c)) (by rfl) (by rfl) (by rfl) (by rfl) (by rfl)))),?_⟩;refine⟨_,rfl,rfl,_,rfl,_,_,_,rfl,rfl,PyProof.Rows.padOk_of (by lia) (by lia),by decide +kernel,?_⟩;have e:(Aa "0").cps.getD 0 0=48:=by decide +kernel
  rw[e,rj];exact k
theorem wne{x y:String}(h:(Aa x==Aa y)=false):decide (V.str (Aa x)=V.str (Aa y))=false:=by rw[L2.dec_str];exact h
theorem upper14{n:List Nat}(h:∀c∈n,c<128):PySem.Txt.upper (mk n)=mk (n.map up1):=by
 rw[Kt (by show ∀c∈tl (mk n),c<128;rw[q0v];exact h)];apply ext;rw[q0v];show(((mk n).cps.map up1).toList)=_;rw[Of];all_goals (show(tl (mk n)).map up1=_;rw[q0v])
theorem lower14{n:List Nat}(h:∀c∈n,c<128):PySem.Txt.lower (mk n)=mk (n.map lo1):=by
 rw[PyProof.Rows.lower_ascii (by show ∀c∈tl (mk n),c<128;rw[q0v];exact h)];apply ext;rw[q0v];show(((mk n).cps.map lo1).toList)=_;rw[Of];all_goals (show(tl (mk n)).map lo1=_;rw[q0v])
theorem z8t{t:List Nat}(h0:t≠[])(h:∀c∈t,c∈FI)(hl:t.length<=12):Hh (mk t)=some ((Dh t:Nat):Int):=by
 have e:(mk t).cps.toList=t:=q0v t;have:=PySem.intText_digits (x:=mk t) (by rw[e];exact fun d hd=>x0b d (h d hd)) (by rw[e];exact h0) (by rw[q0o];lia);rw[e] at this;exact this
structure CallsWN (P:Program) (w:World) (K:Ae) (mg:Str->Option Value) (base:Heap):Prop where
 with_noughts:Cal P w K mg base "with_noughts" 1 ["text", "width"] spWN
def spGapText:Sp:=fun vs H Q _=>∃T p t,vs=[.ref T,.str (mk t)]/\H T=some (.tup p.vs)/\p.ok/\gapNo p≠none/\t.length<=12/\(∀c∈t,c<128)/\(∀k m,p=.more k m->t≠[]/\∀c∈t,c∈FI)/\Q (.str (mk (gapG p t))) H
abbrev q3x:Stmt:=top 49
theorem sc_gap_text:FnScope ["piece", "text", "sort"] ["piece", "text"] (defScope q3x):=by trivial
theorem z1j(D:Df K mg "gap_text" q3x ["piece", "text"])(T:Txt mg)(C:CallsWN P w K mg base):Cal P w K mg base "gap_text" 2 ["piece", "text"] spGapText:=by
 refine D.cal sc_gap_text (fun vs H Q E h=>?_) (fun f cdv A outer s H vs Q E hr h=>?_)
 ·obtain⟨T1,p,t,rfl,_⟩:=h;rfl
 ·obtain⟨T1,p,t,rfl,hT,ok,hg,hl,hc,hm,k⟩:=h;refine⟨_,(q0b (q0j (i:=2) sc_gap_text.nd rfl (by trivial) (q0t (ix_k K rfl) (pv 0) q0f (fun _ _=>rfl))) (q0b (q0u (q0g (eq_k K rfl hr) (pv 2) q0h (nomark _)) (q0d (q0l (@q5r _ _ _ _ _ _ _ _ _ K rfl Bo Fn Fo q4z (pv 1) (by rfl) (by rfl)))) q0i) (q0b (q0u (q0g (eq_k K rfl hr) (pv 2) q0h (nomark _)) (q0d (q0l (@q5r _ _ _ _ _ _ _ _ _ K rfl Bo Dr Ds q3m (pv 1) (by rfl) (by rfl)))) q0i) (q0b (q0u (q0g (eq_k K rfl hr) (pv 2) q0h (nomark _)) (q0d (q0l (pe_c C.with_noughts hr (q0a (pv 1) (q0a (q0t (ix_k K rfl) (pv 0) q0f (fun _ _=>rfl)) q0c))))) q0i) (q0b (q0u (q0g (eq_k K rfl hr) (pv 2) q0h (nomark _)) (q0d (q0l (pe_c C.with_noughts hr (q0a (q1j q5v (by rfl) T.b_str (by decide +kernel) (q0a (q0s q0n (q1j q3a (by rfl) T.b_int (by decide +kernel) (q0a (pv 1) q0c)) (q0t (ix_k K rfl) (pv 0) q0f (fun _ _=>rfl))) q0c)) (q0a (q0y (q3o K rfl) (by rfl) T.b_len Cc (q0a (pv 1) q0c)) q0c))))) q0i) (q0d (q0l (pv 1)))))))),?_⟩;have hs:(mk t).length<=sizeLine:=TX.small (by rw[q0o];lia);cases p with
  |tx l=>exact absurd rfl hg
  |cnt v=>exact absurd rfl hg
  |into=>exact absurd rfl hg
  |gap n =>
   refine⟨_,rfl,.inr (.inl ⟨T1,_,0,.str (Aa "gap"),rfl,rfl,SqT.of hT,rfl,?_⟩)⟩;refine⟨_,rfl,.inl ⟨rfl,_,rfl,?_⟩⟩;rw[wne (x := "gap") (y := "great") (by decide +kernel)];refine iteF ⟨_,rfl,.inl ⟨rfl,_,rfl,?_⟩⟩;rw[wne (x := "gap") (y := "small") (by decide +kernel)];refine iteF ⟨_,rfl,.inl ⟨rfl,_,rfl,?_⟩⟩;rw[wne (x := "gap") (y := "noughts") (by decide +kernel)];refine iteF ⟨_,rfl,.inl ⟨rfl,_,rfl,?_⟩⟩;rw[wne (x := "gap") (y := "more") (by decide +kernel)];exact iteF ⟨_,rfl,k⟩
  |great n =>
   refine⟨_,rfl,.inr (.inl ⟨T1,_,0,.str (Aa "great"),rfl,rfl,SqT.of hT,rfl,?_⟩)⟩;refine⟨_,rfl,.inl ⟨rfl,_,rfl,?_⟩⟩;rw[decide_eq_true rfl];refine iteT ⟨_,rfl,rfl,_,rfl,rfl,TX.small (by rw[q0o];lia),?_⟩;rw[upper14 hc];exact k
  |small n =>
   refine⟨_,rfl,.inr (.inl ⟨T1,_,0,.str (Aa "small"),rfl,rfl,SqT.of hT,rfl,?_⟩)⟩;refine⟨_,rfl,.inl ⟨rfl,_,rfl,?_⟩⟩;rw[wne (x := "small") (y := "great") (by decide +kernel)];refine iteF ⟨_,rfl,.inl ⟨rfl,_,rfl,?_⟩⟩;rw[decide_eq_true rfl];refine iteT ⟨_,rfl,rfl,_,rfl,rfl,TX.small (by rw[q0o];lia),?_⟩;rw[lower14 hc];exact k
  |nou n v =>
   have hv:v<=9:=ok.2.2;refine⟨_,rfl,.inr (.inl ⟨T1,_,0,.str (Aa "noughts"),rfl,rfl,SqT.of hT,rfl,?_⟩)⟩;refine⟨_,rfl,.inl ⟨rfl,_,rfl,?_⟩⟩;rw[wne (x := "noughts") (y := "great") (by decide +kernel)];refine iteF ⟨_,rfl,.inl ⟨rfl,_,rfl,?_⟩⟩;rw[wne (x := "noughts") (y := "small") (by decide +kernel)];refine iteF ⟨_,rfl,.inl ⟨rfl,_,rfl,?_⟩⟩;rw[decide_eq_true rfl];exact iteT ⟨_,rfl,_,rfl,.inr (.inl ⟨T1,_,2,.int (v:Int),rfl,rfl,SqT.of hT,rfl,t,v,rfl,by lia,k⟩)⟩
  |more n m =>
   have hm9:m<10^9:=ok.2;obtain⟨q1,q2⟩:=hm n m rfl;have hd:=dv_lt t q2;have hd2:10^t.length<=10^12:=Gf (by decide) hl;refine⟨_,rfl,.inr (.inl ⟨T1,_,0,.str (Aa "more"),rfl,rfl,SqT.of hT,rfl,?_⟩)⟩;refine⟨_,rfl,.inl ⟨rfl,_,rfl,?_⟩⟩;rw[wne (x := "more") (y := "great") (by decide +kernel)];refine iteF ⟨_,rfl,.inl ⟨rfl,_,rfl,?_⟩⟩;rw[wne (x := "more") (y := "small") (by decide +kernel)];refine iteF ⟨_,rfl,.inl ⟨rfl,_,rfl,?_⟩⟩;rw[wne (x := "more") (y := "noughts") (by decide +kernel)];refine iteF ⟨_,rfl,.inl ⟨rfl,_,rfl,?_⟩⟩;rw[decide_eq_true rfl];refine iteT ⟨_,rfl,.inr ⟨_,_,rfl,z8t q1 q2 hl,by rw[q0o];lia,?_⟩⟩;refine⟨_,rfl,.inr (.inl ⟨T1,_,2,.int (m:Int),rfl,rfl,SqT.of hT,rfl,.inl ⟨_,_,rfl,rfl,Dh t+m,rfl,by lia,?_⟩⟩)⟩;refine⟨_,rfl,_,_,rfl,⟨hs,rfl⟩,dg (Dh t+m),t.length,by rw[x1k,q0o];rfl,by lia,k⟩
structure CallsGT (P:Program) (w:World) (K:Ae) (mg:Str->Option Value) (base:Heap):Prop where
 gap_text:Cal P w K mg base "gap_text" 2 ["piece", "text"] spGapText
 with_noughts:Cal P w K mg base "with_noughts" 1 ["text", "width"] spWN
def spPieceText:Sp:=fun vs H Q _=>∃T G p ts,∃cn:Nat,vs=[.ref T,.ref G,.int (cn:Int)]/\H T=some (.tup p.vs)/\p.ok/\pcI p=false/\H G=some (.lst (vN ts))/\GTx ts p/\cn<=10^12/\Q (.str (mk (pcText ts cn p))) H
theorem x1v{ts:List (List Nat)}{cn k:Nat}{p:Pc}(h:gapNo p=some k):pcText ts cn p=gapG p (ts.getD (k-1) []):=by
 cases p<;>first|(cases h;rfl)|cases h
theorem gap_vs{p:Pc}{k:Nat}(h:gapNo p=some k):∃(w:String) (r:List V),p.vs=.str (Aa w)::.int (k:Int)::r/\(Aa w==Aa "text")=false/\(Aa w==Aa "count")=false:=by
 cases p with
 |tx l=>cases h
 |cnt v=>cases h
 |into=>cases h
 |gap n=>cases h;exact⟨"gap",[],rfl,by decide +kernel,by decide +kernel⟩
 |great n=>cases h;exact⟨"great",[],rfl,by decide +kernel,by decide +kernel⟩
 |small n=>cases h;exact⟨"small",[],rfl,by decide +kernel,by decide +kernel⟩
 |nou n v=>cases h;exact⟨"noughts",_,rfl,by decide +kernel,by decide +kernel⟩
 |more n v=>cases h;exact⟨"more",_,rfl,by decide +kernel,by decide +kernel⟩
abbrev q2t:Stmt:=top 50
theorem sc_piece_text:FnScope ["piece", "gap_texts", "count", "sort"] ["piece", "gap_texts", "count"] (defScope q2t):=by trivial
theorem q8i(D:Df K mg "piece_text" q2t ["piece", "gap_texts", "count"])(T:Txt mg)(C:CallsGT P w K mg base):Cal P w K mg base "piece_text" 3 ["piece", "gap_texts", "count"] spPieceText:=by
 refine D.cal sc_piece_text (fun vs H Q E h=>?_) (fun f cdv A outer s H vs Q E hr h=>?_)
 ·obtain⟨T1,G,p,ts,cn,rfl,_⟩:=h;rfl
 ·obtain⟨T1,G,p,ts,cn,rfl,hT,ok,hpi,hG,gt,hcn,k⟩:=h;refine⟨_,(q0b (q0j (i:=3) sc_piece_text.nd rfl (by trivial) (q0t (ix_k K rfl) (pv 0) q0f (fun _ _=>rfl))) (q0b (q0u (q0g (eq_k K rfl hr) (pv 3) q0h (nomark _)) (q0d (q0l (q0t (ix_k K rfl) (pv 0) q0f (fun _ _=>rfl)))) q0i) (q0b (q0u (q0g (eq_k K rfl hr) (pv 3) q0h (nomark _)) (q0d (q0l (pe_c C.with_noughts hr (q0a (q1j q5v (by rfl) T.b_str (by decide +kernel) (q0a (pv 2) q0c)) (q0a (q0t (ix_k K rfl) (pv 0) q0f (fun _ _=>rfl)) q0c))))) q0i) (q0d (q0l (pe_c C.gap_text hr (q0a (pv 0) (q0a (q0t (ix_k K rfl) (pv 1) (q0s z1x (q0t (ix_k K rfl) (pv 0) q0f (fun _ _=>rfl)) q0f) (fun _ _=>rfl)) q0c)))))))),?_⟩;cases hgn:gapNo p with
  |none =>
   cases p with
   |gap n=>cases hgn
   |great n=>cases hgn
   |small n=>cases hgn
   |nou n v=>cases hgn
   |more n v=>cases hgn
   |into=>cases hpi
   |tx t =>
    refine⟨_,rfl,.inr (.inl ⟨T1,_,0,.str (Aa "text"),rfl,rfl,SqT.of hT,rfl,?_⟩)⟩;refine⟨_,rfl,.inl ⟨rfl,_,rfl,?_⟩⟩;rw[decide_eq_true rfl];exact iteT ⟨_,rfl,.inr (.inl ⟨T1,_,1,_,rfl,rfl,SqT.of hT,rfl,k⟩)⟩
   |cnt v =>
    have hv:v<=9:=ok.2;refine⟨_,rfl,.inr (.inl ⟨T1,_,0,.str (Aa "count"),rfl,rfl,SqT.of hT,rfl,?_⟩)⟩;refine⟨_,rfl,.inl ⟨rfl,_,rfl,?_⟩⟩;rw[wne (x := "count") (y := "text") (by decide +kernel)];refine iteF ⟨_,rfl,.inl ⟨rfl,_,rfl,?_⟩⟩;rw[decide_eq_true rfl];exact iteT ⟨_,rfl,cn,rfl,by lia,_,rfl,.inr (.inl ⟨T1,_,1,.int (v:Int),rfl,rfl,SqT.of hT,rfl,dg cn,v,by rw[x1k];rfl,by lia,k⟩)⟩
  |some n =>
   obtain⟨h1,h2⟩:=gt.gp n hgn;obtain⟨w0,r0,ev,n1,n2⟩:=gap_vs hgn;have hT':=hT;rw[ev] at hT';refine⟨_,rfl,.inr (.inl ⟨T1,_,0,.str (Aa w0),rfl,rfl,SqT.of hT',q1m (j:=0) rfl,?_⟩)⟩;refine⟨_,rfl,.inl ⟨rfl,_,rfl,?_⟩⟩;rw[wne n1];refine iteF ⟨_,rfl,.inl ⟨rfl,_,rfl,?_⟩⟩;rw[wne n2];have hlt:n-1<ts.length:=by lia
   have eg:ts.getD (n-1) []=ts[n-1]:=by rw[Cv,Bi hlt];rfl
   have hat:atI (vN ts) ((n:Int)-1)=some (.str (mk (ts.getD (n-1) []))):=by
    have e:((n:Int)-1)=((n-1:Nat):Int):=by lia
    rw[e];refine q1m ?_;rw[Bg,Bi (by lia)];simp[Cv,Bi (show n-1<ts.length by lia)]
   have htx:=gt.tx (ts.getD (n-1) []) (by rw[eg];exact List.getElem_mem hlt);refine iteF ⟨_,rfl,_,rfl,_,rfl,.inr (.inl ⟨T1,_,1,.int (n:Int),rfl,rfl,SqT.of hT',q1m (j:=1) rfl,_,_,rfl,rfl,.inl ⟨G,_,_,_,rfl,rfl,SqL.of hG,hat,T1,p,_,rfl,hT,ok,by rw[hgn];simp,htx.1,htx.2,fun k' m z=>?_,?_⟩⟩)⟩
   ·have e2:k'=n:=by rw[z] at hgn;exact Bq hgn
    have:=gt.mo k' m z;rw[e2] at this;exact this
   ·rw[<- x1v hgn];exact k
structure CallsTl (P:Program) (w:World) (K:Ae) (mg:Str->Option Value) (base:Heap):Prop where
 ask_rule:Cal P w K mg base "ask_rule" 7 ["rule"] (spAskRule K)
 reading:Cal P w K mg base "reading" 6 ["pattern", "name"] spReading
 pieces_of:Cal P w K mg base "pieces_of" 6 ["template"] spPieces
 piece_text:Cal P w K mg base "piece_text" 3 ["piece", "gap_texts", "count"] spPieceText
def stepT(ts:List (List Nat))(cn:Nat)(acc:List (List Nat))(p:Pc):List (List Nat):=if pcI p then acc++[[]] else acc.dropLast++[acc.getLast?.getD []++pcText ts cn p]
def tellT(ts:List (List Nat))(cn:Nat)(qs:List Pc):List (List Nat):=qs.foldl (stepT ts cn) [[]]
theorem q2m(ts:List (List Nat))(cn:Nat)(qs:List Pc)(p:Pc):tellT ts cn (qs++[p])=stepT ts cn (tellT ts cn qs) p:=by simp[tellT]
theorem z4b(ts:List (List Nat))(cn:Nat)(acc:List (List Nat))(p:Pc):∃i l,stepT ts cn acc p=i++[l]:=by
 unfold stepT;split
 ·exact⟨_,_,rfl⟩
 ·exact⟨_,_,rfl⟩
theorem z4c(ts:List (List Nat))(cn:Nat)(qs:List Pc):∃i l,tellT ts cn qs=i++[l]:=by
 by_cases h:qs=[]
 ·subst h;exact⟨[],[],rfl⟩
 ·rw[<- Cz h,q2m];exact z4b _ _ _ _
theorem q6z(ts:List (List Nat))(cn:Nat)(i:List (List Nat)):stepT ts cn i .into=i++[[]]:=rfl
theorem q2f{ts:List (List Nat)}{cn:Nat}{i:List (List Nat)}{l:List Nat}{p:Pc}(h:pcI p=false):stepT ts cn (i++[l]) p=i++[l++pcText ts cn p]:=by
 unfold stepT;rw[if_neg (by rw[h];decide)];simp
theorem z6j(ts:List (List Nat))(cn:Nat)(acc:List (List Nat))(p:Pc):(stepT ts cn acc p).length<=acc.length+1:=by
 unfold stepT;split
 ·rw[Ac];exact Af _
 ·rw[Ac,List.length_dropLast];simp
theorem z0j(ts:List (List Nat))(cn:Nat):∀(qs:List Pc) (acc:List (List Nat)),(qs.foldl (stepT ts cn) acc).length<=acc.length+qs.length
 |[],acc=>Af _
 |q::r,acc=>by
  have h1:=z0j ts cn r (stepT ts cn acc q);have h2:=z6j ts cn acc q;rw[Dn,Ar];lia
theorem z6k(ts:List (List Nat))(cn:Nat)(qs:List Pc):(tellT ts cn qs).length<=qs.length+1:=by
 have:=z0j ts cn qs [[]];unfold tellT;simp only[Bh] at this;lia
def spTells(K:Ae):Sp:=fun vs H Q _=>∃R kd l qs st n,∃cn:Nat,vs=[.ref R,.str (mk n),.int (cn:Int)]/\RuleAt K H R kd l qs st/\n.length<=12/\(∀t∈rd n (parse [] l) 0,∀c∈t,c<128)/\cn<=10^12/\(fits n (parse [] l) 0=false->∀H',Same H H'->Q .non H') /\
 (fits n (parse [] l) 0=true->∀T H',H T=none->Same H H'->H' T=some (.tup (vN (tellT (rd n (parse [] l) 0) cn qs)))->Q (.ref T) H')
theorem x1w{n:List Nat}{b e c:Nat}(h:c∈cut n b e):c∈n:=Mk (Dz h)
theorem z2o{n:List Nat}:∀(ps:List Pt) (b:Nat),∀t∈rd n ps b,∀c∈t,c∈n
 |[],_,_,h=>by cases h
 |p::ps,b,t,h=>by
  rcases Aw.mp h with z|z
  ·split at z
   ·rw[Al.mp z];exact fun c hc=>x1w hc
   ·cases z
  ·exact z2o ps _ t z
theorem wr_le{qs:List Pc}{q:Pc}(h:q∈qs):q.wr.length<=(flatP qs).length:=by
 induction qs with
 |nil=>cases h
 |cons p r ih =>
  rw[q0p,Ac];rcases Am.mp h with rfl|h
  ·lia
  ·have:=ih h;lia
theorem z4d{p:Pc}(h:pcI p=false):p≠.into:=fun z=>by subst z;cases h
theorem z6l(w:Nat)(t:List Nat):(wn w t).length<=w+t.length:=by unfold wn;rw[Ac,Hz];lia
theorem x1x{ts:List (List Nat)}{cn:Nat}{p:Pc}(ho:p.ok)(hc:cn<=10^12)(h1:∀t∈ts,t.length<=12)(h2:p.wr.length<=100)(hg:gapNo p≠none->GTx ts p):(pcText ts cn p).length<=100:=by
 have hd:∀k,(ts.getD (k-1) []).length<=12:=by
  intro k;rw[Cv];cases hz:ts[k-1]? with
  |none=>simp
  |some t=>exact h1 t (As hz)
 cases p with
 |tx t=>exact h2
 |gap k=>have:=hd k;show(ts.getD (k-1) []).length<=100;lia
 |great k=>have:=hd k;show((ts.getD (k-1) []).map _).length<=100;rw[Ad];lia
 |small k=>have:=hd k;show((ts.getD (k-1) []).map _).length<=100;rw[Ad];lia
 |nou k w =>
  have:=hd k;have h3:=z6l w (ts.getD (k-1) []);have:w<=9:=ho.2.2;show(wn w (ts.getD (k-1) [])).length<=100;lia
 |more k m =>
  have h0:=hd k;have h3:=z6l (ts.getD (k-1) []).length (dg (Dh (ts.getD (k-1) [])+m));have hm:m<10^9:=ho.2;obtain⟨q1,q2⟩:=(hg (by simp[gapNo])).mo k m rfl;have h4:=dv_lt (ts.getD (k-1) []) q2;have h5:10^(ts.getD (k-1) []).length<=10^12:=Gf (by decide) h0;have h6:=q9v 13 (Dh (ts.getD (k-1) [])+m) (by lia);show(wn _ _).length<=100;lia
 |cnt w =>
  have:w<=9:=ho.2;have h3:=z6l w (dg cn);have h6:=q9v 13 cn (by lia);show(wn w (dg cn)).length<=100;lia
 |into=>exact Au _
theorem neg_at(i:List (List Nat))(l:List Nat):atI (vN (i++[l])) (-1)=some (.str (mk l)):=by
 have e:vN (i++[l])=vN i++[V.str (mk l)]:=by show(i++[l]).map _=_;rw[Ax];rfl
 rw[e];unfold atI ixN;rw[if_neg (by decide),if_pos (by rw[Ac,Bh];lia)];have h:((-1:Int)+((vN i++[V.str (mk l)]).length:Int)).toNat=(vN i).length:=by rw[Ac,Bh];lia
 show(vN i++[V.str (mk l)])[((-1:Int)+((vN i++[V.str (mk l)]).length:Int)).toNat]?=_;rw[h,Cn (Af _),Iu];rfl
theorem neg_ix(i:List (List Nat))(l:List Nat):ixN (vN (i++[l])).length (-1)=some i.length:=by
 unfold ixN;rw[if_neg (by decide),Ad,Ac,Bh,if_pos (by lia)];congr 1;lia
theorem z8u(i:List (List Nat))(l m:List Nat):(vN (i++[l])).set i.length (.str (mk m))=vN (i++[m]):=by
 show((i++[l]).map _).set _ _=(i++[m]).map _;rw[Ax,Ax,List.set_append_right _ _ (by rw[Ad];exact Af _),Ad,Iu];rfl
abbrev q8j:Stmt:=top 51
theorem sc_tells:FnScope ["rule", "name", "count", "gap_texts", "texts", "piece"] ["rule", "name", "count"] (defScope q8j):=by trivial
theorem z8v(D:Df K mg "tells" q8j ["rule", "name", "count"])(T:Txt mg)(C:CallsTl P w K mg base):Cal P w K mg base "tells" 8 ["rule", "name", "count"] (spTells K):=by
 refine D.cal sc_tells (fun vs H Q E h=>?_) (fun f cdv A outer s H vs Q E hr h=>?_)
 ·obtain⟨R,kd,l,qs,st,n,cn,rfl,_⟩:=h;rfl
 ·obtain⟨R,kd,l,qs,st,n,cn,rfl,ru,hnl,hnc,hcn,kN,kS⟩:=h;refine⟨_,(q0b (q0x (pe_c C.ask_rule hr (q0a (pv 0) q0c))) (q0b (q0j (i:=3) sc_tells.nd rfl (by trivial) (pe_c C.reading hr (q0a (q0t (ix_k K rfl) (pv 0) q0f (fun _ _=>rfl)) (q0a (pv 1) q0c)))) (q0b (q0u (z4i (pc_isN (pv 3))) (q0d (q0l z9k)) q0i) (q0b (q0j (i:=4) sc_tells.nd rfl (by trivial) (q1t (q0a q0h q0c))) (q0b (q1h Bd rfl (@q2y _ _ _ _ K rfl (pe_c C.pieces_of hr (q0a (q0t (ix_k K rfl) (pv 0) q0f (fun _ _=>rfl)) q0c))) (q0k (i:=5) sc_tells.nd rfl (by trivial)) (q0d (q0u (q0g (eq_k K rfl hr) (pv 5) (q0w (q0a q0h q0c)) (nomark _)) (q0d (q0x (@bm_k _ _ _ _ _ _ _ _ _ _ _ _ K rfl Bs Ca Cb q1g (pv 4) (q0a q0h q0c) (by rfl) (by rfl) (by rfl) (by rfl) (by rfl)))) (q0d (x0s (pv 4) (z3i q6q q0f) (get_k K rfl) (pe_c C.piece_text hr (q0a (pv 5) (q0a (pv 3) (q0a (pv 2) q0c)))) q3q q4x))))) (q0d (q0l (q1j (x1d K rfl) (by rfl) T.b_tuple (by decide +kernel) (q0a (pv 4) q0c))))))))),?_⟩;refine⟨_,rfl,R,kd,l,qs,st,rfl,ru,fun H1 sm1=>?_⟩;have ru1:=ru.same sm1;refine⟨_,rfl,.inr (.inl ⟨R,_,1,_,rfl,rfl,SqT.of ru1.at_,rfl,_,rfl,l,n,rfl,ru.good,by lia,fun hf H2 sm2=>?_,fun hfit G H2 hG sm2 hG2=>?_⟩)⟩
  ·exact⟨_,rfl,true,rfl,iteT (kN hf _ (sm1.trans sm2))⟩
  obtain⟨rc1,rc2,rc3,rc4⟩:=z9u n (parse [] l) 0 hfit;have k:=kS hfit;generalize hts:rd n (parse [] l) 0=ts at *;refine⟨_,rfl,false,rfl,iteF ?_⟩;refine⟨by show 1<=sizeLine;decide,fun L hL=>?_⟩;have e0:Aa "" = mk []:=by decide +kernel
  have s3:=(Same.refl H2).new (o:=.lst [.str (Aa "")]) hL;have ru3:=(ru1.same sm2).same s3;refine⟨_,rfl,.inr (.inl ⟨R,_,2,_,rfl,rfl,SqT.of ru3.at_,rfl,qs,rfl,ru.wp,fun M H4 hM sm4 hp4=>.inl ⟨M,rfl,hp4.sq,?_⟩⟩)⟩;obtain⟨Us,u1,u2⟩:=hp4.ex;have hUl:=u2.len;have hwl:=Ap (show qs.length<=(flatP qs).length from by
   have:∀qs:List Pc,(∀p∈qs,p.ok)->qs.length<=(flatP qs).length:=by
    intro qs;induction qs with
    |nil=>intro _;exact Af _
    |cons q r ih =>
     intro hq;have h1:=ih fun p hp=>hq p (Ah _ hp);have h2:=Bx.mpr (z6h (hq q Ai));rw[q0p,Ac,Ar];lia
   exact this qs ru.wp.ok) ru.wp.sz
  have sA:=(sm1.trans sm2)
  have hLM:M≠L:=fun z=>by rw[z,q0e] at hM;cases hM
  have hLG:G≠L:=fun z=>by rw[z] at hG2;rw[hG2] at hL;cases hL
  have hG4:H4 G=some (.lst (vN ts)):=sm4 _ _ (s3 _ _ hG2);refine q1z (xs:=Us.map V.ref) (fun i σ' H'=>∃x5,σ'=[some (.ref R),some (.str (mk n)),some (.int (cn:Int)),some (.ref G),some (.ref L),x5]/\Same H2 H'/\H' L=some (.lst (vN (tellT ts cn (qs.take i))))/\(∀T xs,H4 T=some (.tup xs)->H' T=some (.tup xs))/\H' M=some (.lst (Us.map V.ref))/\H' G=some (.lst (vN ts))/\(∀t∈tellT ts cn (qs.take i),t.length<=100*i)/\i<=qs.length)
   ⟨none,rfl,s3.trans sm4,by rw[Hi];show H4 L=some (.lst [.str (mk [])]);rw[<- e0];exact sm4 _ _ q0e,fun _ _ e=>e,u1,hG4,fun t ht=>(by rw[Hi] at ht;rw[Al.mp ht];exact Au _),Au _⟩ (fun i σ' H' _ ⟨_,_,_,_,_,e,_⟩=>SqL.of e) ?_ ?_
  ·rintro i x σ' H' hx ⟨x5,rfl,sm5,hL5,kt,hM5,hG5,hlen,hi⟩;obtain⟨T1,hT1,rfl⟩:∃T,Us[i]?=some T/\x=.ref T:=by
    rw[Bg] at hx;cases hz:Us[i]? with
    |none=>rw[hz] at hx;cases hx
    |some T=>rw[hz] at hx;cases hx;exact⟨T,rfl,rfl⟩
   obtain⟨p,hp1,ht⟩:=u2.get hT1;have hpm:=As hp1;have hi':=(Aj.mp hp1).1;have etk:qs.take (i+1)=qs.take i++[p]:=by rw[Et,hp1];rfl
   have htl:=z6k ts cn (qs.take i);rw[Bv] at htl;refine⟨_,rfl,by show 1<=sizeLine;decide,fun E0 hE0=>?_⟩;have sE:=(Same.refl H').new (o:=.tup [.str (Aa "into")]) hE0;have keepL:∀(ys:List V) (T2:Addr) (xs:List V),H4 T2=some (.tup xs)->upd (upd H' E0 (.tup [.str (Aa "into")])) L (.lst ys) T2=some (.tup xs):=by
    intro ys T2 xs e;have:=sE _ _ (kt _ _ e);rw[q0m (fun z=>by rw[z,sE _ _ hL5] at this;cases this)];exact this
   refine .inr ⟨_,_,.tup (SqT.of (sE _ _ (kt _ _ ht))) (Pc.dts _),.tup (SqT.of q0e) (.cons (.str _) .nil),Pc.lay (ru.wp.ok _ hpm),by decide +kernel,?_,_,rfl,?_⟩
   ·refine Ap (Ks _ _) ?_;decide +kernel
   by_cases hpi:pcI p=true
   ·have hpe:p=.into:=by cases p<;>first|rfl|cases hpi
    subst hpe;rw[show De (.tuple (Pc.ds .into)) (.tuple [.str (Aa "into")])=true from by decide +kernel];refine iteT ?_;refine⟨_,rfl,.inl ⟨rfl,⟨_,SqL.of (sE _ _ hL5)⟩⟩,L,_,_,rfl,rfl,sE _ _ hL5,by rw[Ad];exact TX.small' (by lia),?_⟩;have eL:vN (tellT ts cn (qs.take i))++[V.str (Aa "")]=vN (tellT ts cn (qs.take (i+1))):=by
     rw[etk,q2m,q6z,e0];show _=(_++[[]]).map _;rw[Ax];rfl
    refine⟨_,rfl,(sm5.new hE0).put hL,by rw[q0e,eL],keepL _,by rw[q0m hLM];exact sE _ _ hM5,by rw[q0m hLG];exact sE _ _ hG5,fun t htm=>?_,hi'⟩;rw[etk,q2m,q6z] at htm;rcases Aw.mp htm with z|z
    ·have:=hlen t z;lia
    ·rw[Al.mp z];exact Au _
   ·have hpi':pcI p=false:=by simpa using hpi
    rw[z2m (z4d hpi')];refine iteF ?_;have ao:=ru.ask p hpm;have gtx:GTx ts p:=⟨fun kk hkk=>⟨(ao.gp kk hkk).1,by rw[rc1];exact(ao.gp kk hkk).2⟩,fun t ht=>⟨Ap (rc4 t ht) hnl,hnc t ht⟩,fun kk m hz=>by
     have hg:=ao.mo kk m hz;obtain⟨o1,o2⟩:=ao.gp kk (by rw[hz];rfl);have hlt:kk-1<ts.length:=by rw[rc1];lia
     have e:ts.getD (kk-1) []=ts[kk-1]:=by rw[Cv,Bi hlt];rfl
     have:=rc2 (kk-1) 35 ts[kk-1] hg (Bi hlt);unfold gapTakes at this;rw[if_neg (by decide),if_pos rfl] at this;rw[e];exact allOf_iff.mp this⟩
    obtain⟨ini,la,hil⟩:=z4c ts cn (qs.take i);rw[hil] at hL5 hlen;refine⟨_,rfl,_,rfl,L,_,-1,_,rfl,rfl,SqL.of (sE _ _ hL5),neg_at ini la,?_⟩;refine⟨_,rfl,_,rfl,_,rfl,T1,G,p,ts,cn,rfl,sE _ _ (kt _ _ ht),ru.wp.ok _ hpm,hpi',sE _ _ hG5,gtx,hcn,?_⟩;have hpt:=x1x (cn:=cn) (ru.wp.ok _ hpm) hcn (fun t ht=>Ap (rc4 t ht) hnl) (Ap (wr_le hpm) ru.wp.sz) fun _=>gtx
    have hla:=hlen la (by simp);refine⟨_,_,rfl,rfl,TX.small (by rw[q0o,q0o];lia),L,_,_,_,rfl,rfl,sE _ _ hL5,neg_ix ini la,?_⟩;rw[z8s,z8u];refine⟨_,rfl,(sm5.new hE0).put hL,?_,keepL _,by rw[q0m hLM];exact sE _ _ hM5,by rw[q0m hLG];exact sE _ _ hG5,fun t htm=>?_,hi'⟩
    ·rw[q0e,etk,q2m,hil,q2f hpi']
    ·rw[etk,q2m,hil,q2f hpi'] at htm;rcases Aw.mp htm with z|z
     ·have:=hlen t (Bu _ z);lia
     ·rw[Al.mp z,Ac];lia
  ·rintro σ' H' ⟨x5,rfl,sm5,hL5,kt,hM5,hG5,hlen,hi⟩;rw[Ad,hUl,Cq] at hL5;refine⟨_,rfl,L,_,rfl,.inl ⟨SqL.of hL5,fun T5 hT5=>?_⟩⟩;exact k T5 _ (sA.free (sm5.free hT5)) ((sA.trans sm5).new hT5) q0e
structure RD where
 kd:Str
 l:List Nat
 qs:List Pc
 st:Nat
def pcB:Pc->Nat
 |.tx l=>l.length
 |.into=>0
 |_=>13
def wsz(qs:List Pc):Nat:=(qs.map pcB).sum
structure ROk (r:RD):Prop where
 st:r.st<=1000000000
 io:(r.qs.filter pcI).length<=10
 nm:∀q∈r.qs,isMo q=false
 pk:∀q∈r.qs,q.ok
 sz:wsz r.qs<=100
def tellO(r:RD)(n:List Nat)(cn:Nat):Option (List (List Nat)):=if fits n (parse [] r.l) 0 then some (tellT (rd n (parse [] r.l) 0) cn r.qs) else none
def TsOk(ts:List (List Nat)):Prop:=ts≠[]/\ts.length<=20/\∀t∈ts,t.length<=100/\∀c∈t,c∈NS
theorem x0c{w c:Nat}{t:List Nat}(h:c∈wn w t):c=48\/c∈t:=by
 unfold wn at h;rcases Aw.mp h with z|z
 ·exact .inl (List.eq_of_mem_replicate z)
 ·exact .inr z
theorem wn_le{w n:Nat}{t:List Nat}(h1:w<=n)(h2:t.length<=n):(wn w t).length<=n:=by
 unfold wn;rw[Ac,Hz];lia
theorem fi_ns:∀c∈FI,c∈NS:=by decide +kernel
theorem up_ns:∀c∈NS,up1 c∈NS:=by decide +kernel
theorem x1y:∀c∈NS,lo1 c∈NS:=by decide +kernel
theorem z6m{ts:List (List Nat)}{k:Nat}{Pp:List Nat->Prop}(h:∀t∈ts,Pp t)(h0:Pp []):Pp (ts.getD k []):=by
 rw[Cv];cases hz:ts[k]? with
 |none=>exact h0
 |some t=>exact h t (As hz)
theorem pct_ok{ts:List (List Nat)}{cn:Nat}{p:Pc}(ho:p.ok)(hc:cn<=10^12)(hm:isMo p=false)(hi:pcI p=false)(h:∀t∈ts,t.length<=12/\∀c∈t,c∈NS):(pcText ts cn p).length<=pcB p/\∀c∈pcText ts cn p,c∈NS:=by
 have g:∀k,(ts.getD k []).length<=12/\∀c∈ts.getD k [],c∈NS:=fun k=>z6m (Pp:=fun t=>t.length<=12/\∀c∈t,c∈NS) h ⟨Au _,fun _ h=>nomatch h⟩;cases p with
 |into=>cases hi
 |more k m=>cases hm
 |tx t=>exact⟨Af _,ho.2⟩
 |gap k=>exact⟨Ap (g (k-1)).1 (by show 12<=13;decide),(g (k-1)).2⟩
 |great k =>
  refine⟨?_,fun c hc=>?_⟩
  ·show((ts.getD (k-1) []).map up1).length<=13;have:=(g (k-1)).1;rw[Ad];lia
  ·obtain⟨x,hx,rfl⟩:=Bt.mp (show c∈(ts.getD (k-1) []).map up1 from hc);exact up_ns _ ((g (k-1)).2 x hx)
 |small k =>
  refine⟨?_,fun c hc=>?_⟩
  ·show((ts.getD (k-1) []).map lo1).length<=13;have:=(g (k-1)).1;rw[Ad];lia
  ·obtain⟨x,hx,rfl⟩:=Bt.mp (show c∈(ts.getD (k-1) []).map lo1 from hc);exact x1y _ ((g (k-1)).2 x hx)
 |nou k v =>
  have hv:v<=9:=ho.2.2;have:=(g (k-1)).1;refine⟨wn_le (n:=13) (by lia) (by lia),fun c hc=>?_⟩;rcases x0c (show c∈wn v (ts.getD (k-1) []) from hc) with rfl|z
  ·decide +kernel
  ·exact(g (k-1)).2 c z
 |cnt v =>
  have hv:v<=9:=ho.2;have:=q9v 12 cn (by lia);refine⟨wn_le (n:=13) (by lia) (by lia),fun c hc=>?_⟩;rcases x0c (show c∈wn v (dg cn) from hc) with rfl|z
  ·decide +kernel
  ·exact fi_ns _ (z5r cn c z)
theorem z1k{ts:List (List Nat)}{cn:Nat}(hc:cn<=10^12)(h:∀t∈ts,t.length<=12/\∀c∈t,c∈NS):∀{qs:List Pc} {acc:List (List Nat)} {n:Nat},(∀q∈qs,q.ok/\isMo q=false)->acc≠[]->(∀t∈acc,t.length<=n/\∀c∈t,c∈NS) ->
  qs.foldl (stepT ts cn) acc≠[]/\(qs.foldl (stepT ts cn) acc).length<=acc.length+(qs.filter pcI).length/\∀t∈qs.foldl (stepT ts cn) acc,t.length<=n+wsz qs/\∀c∈t,c∈NS
 |[],acc,n,_,h0,ha=>⟨h0,Af _,ha⟩
 |q::qs,acc,n,hq,h0,ha=>by
  obtain⟨o1,o2⟩:=hq q Ai;have hq':=fun p hp=>hq p (Ah _ hp)
  rw[Dn];have hw:wsz (q::qs)=pcB q+wsz qs:=rfl;cases hi:pcI q with
  |true =>
   have es:stepT ts cn acc q=acc++[[]]:=by unfold stepT;rw[if_pos hi]
   obtain⟨a,b,c⟩:=z1k hc h (qs:=qs) (acc:=acc++[[]]) (n:=n) hq' (by simp) (fun t ht=>by
    rcases Aw.mp ht with z|z
    ·exact ha t z
    ·rw[Al.mp z];exact⟨Au _,fun _ h=>nomatch h⟩)
   rw[es];refine⟨a,?_,fun t ht=>⟨by have:=(c t ht).1;lia,(c t ht).2⟩⟩;rw[Ac,Bh] at b;rw[Dv,if_pos hi,Ar];lia
  |false =>
   obtain⟨d,e⟩:=pct_ok (cn:=cn) o1 hc o2 hi h;obtain⟨ini,la,rfl⟩:∃i l,acc=i++[l]:=⟨acc.dropLast,acc.getLast h0,(Cz h0).symm⟩
   rw[q2f hi];obtain⟨a,b,c⟩:=z1k hc h (qs:=qs) (acc:=ini++[la++pcText ts cn q]) (n:=n+pcB q) hq' (by simp) (fun t ht=>by
    rcases Aw.mp ht with z|z
    ·have:=ha t (Bu _ z);exact⟨by lia,this.2⟩
    ·rw[Al.mp z];have:=ha la (by simp);exact⟨by rw[Ac];lia,fun x hx=>(Aw.mp hx).elim (this.2 x) (e x)⟩)
   refine⟨a,?_,fun t ht=>⟨by have:=(c t ht).1;lia,(c t ht).2⟩⟩;rw[Ac,Bh] at b ⊢;rw[Dv,hi];simpa using b
theorem x0d{n:List Nat}:∀(ps:List Pt) (b:Nat),∀t∈rd n ps b,t.length<=n.length
 |[],_,_,h=>by cases h
 |p::ps,b,t,h=>by
  unfold rd at h;rcases Aw.mp h with z|z
  ·split at z
   ·rw[Al.mp z];unfold cut;rw[Bv,Bk];lia
   ·cases z
  ·exact x0d ps _ t z
theorem q8k{r:RD}{n:List Nat}{cn:Nat}{ts:List (List Nat)}(ok:ROk r)(hn:n.length<=12/\∀c∈n,c∈NS)(hc:cn<=10^12)(h:tellO r n cn=some ts):TsOk ts:=by
 unfold tellO at h;split at h
 ·obtain⟨a,b,c⟩:=z1k hc (ts:=rd n (parse [] r.l) 0) (fun t ht=>⟨Ap (x0d _ _ t ht) hn.1,fun c hc=>hn.2 c (z2o _ _ t ht c hc)⟩) (qs:=r.qs) (acc:=[[]]) (n:=0) (fun q hq=>⟨ok.pk q hq,ok.nm q hq⟩) (by simp) (fun t ht=>by rw[Al.mp ht];exact⟨Af _,fun _ h=>nomatch h⟩);cases h;refine⟨a,Ap b (by have:=ok.io;show 1+_<=_;lia),fun t ht=>⟨by have:=(c t ht).1;have:=ok.sz;lia,(c t ht).2⟩⟩
 ·cases h
def isCn:Pc->Bool
 |.cnt _=>true
 |_=>false
def ptx:Pt->List Nat
 |.tx t=>t
 |.gp _=>[]
def pcx:Pc->List Nat
 |.tx t=>t
 |.nou _ _=>[48]
 |_=>[]
def txO(r:RD):List Nat:=((parse [] r.l).map ptx).flatten++(r.qs.map pcx).flatten
def nmd(t:List Nat):List Nat:=NS.filter fun c=>decide (lo1 c∈t.map lo1)
structure CRule (K:Ae) (H:Hp) (R:Addr) (r:RD):Prop where
 at_:RuleAt K H R r.kd r.l r.qs (r.st:Int)
 ok:ROk r
 nc:∀q∈r.qs,isCn q=false
 tx:(txO r).length<=1000
theorem CRule.same{H H':Hp}{R:Addr}{r:RD}(h:CRule K H R r)(s:Same H H'):CRule K H' R r:=⟨h.at_.same s,h.ok,h.nc,h.tx⟩
structure CallsAP (P:Program) (w:World) (K:Ae) (mg:Str->Option Value) (base:Heap):Prop where
 pieces_of:Cal P w K mg base "pieces_of" 6 ["template"] spPieces
 parts_of:Cal P w K mg base "parts_of" 2 ["pattern"] spPartsOf
def spAP(K:Ae):Sp:=fun vs H Q _=>∃R r,vs=[.ref R]/\CRule K H R r/\∀H',Same H H'->Q .non H'
theorem wd_pc(p:Pc):∃x r,p.vs=.str x::r/\(inV (.str x) [.str (Aa "more"),.str (Aa "count")]=(isMo p||isCn p)):=by
 cases p<;>refine⟨_,_,rfl,?_⟩<;>first|(show _=false;decide +kernel)|(show _=true;decide +kernel)
abbrev q2u:Stmt:=top 55
theorem sc_ask_pieces:FnScope ["rule", "piece"] ["rule"] (defScope q2u):=by trivial
theorem q8l(D:Df K mg "ask_pieces" q2u ["rule"])(T:Txt mg)(C:CallsAP P w K mg base):Cal P w K mg base "ask_pieces" 7 ["rule"] (spAP K):=by
 refine D.cal sc_ask_pieces (fun vs H Q E h=>?_) (fun f cdv A outer s H vs Q E hr h=>?_)
 ·obtain⟨R,r,rfl,_⟩:=h;rfl
 ·obtain⟨R,r,rfl,ru,k⟩:=h;refine⟨_,(q0d (q1h Bd rfl (@q2y _ _ _ _ K rfl (pe_c C.pieces_of hr (q0a (q0t (ix_k K rfl) (pv 0) q0f (fun _ _=>rfl)) q0c))) (q0k (i:=1) sc_ask_pieces.nd rfl (by trivial)) (q0d (q0u (q0g (in_k K rfl) (q0t (ix_k K rfl) (pv 1) q0f (fun _ _=>rfl)) (q0w (q0a q0h (q0a q0h q0c))) (by with_unfolding_all rfl)) (q0d q1l) q0i)))),?_⟩;refine⟨_,rfl,.inr (.inl ⟨R,_,2,_,rfl,rfl,SqT.of ru.at_.at_,q1m (j:=2) rfl,r.qs,rfl,ru.at_.wp,fun L H1 hL s1 hp=>?_⟩)⟩;obtain⟨Ts,t1,t2⟩:=hp.ex;refine .inl ⟨L,rfl,⟨_,SqL.of t1⟩,?_⟩;refine q1z (xs:=Ts.map V.ref) (fun i σ' H'=>∃x,σ'=[some (.ref R),x]/\Same H1 H') ⟨none,rfl,Same.refl _⟩ (fun i σ' H' _ x=>by obtain⟨_,_,s⟩:=x;exact SqL.of (s _ _ t1)) ?_ ?_
  ·rintro i x σ' H' hx ⟨y,rfl,s'⟩;rw[Bg] at hx;obtain⟨T1,hT1,rfl⟩:=Bm.mp hx;obtain⟨p,hp1,hp2⟩:=t2.get hT1;obtain⟨wd,rs,e1,e2⟩:=wd_pc p;have hpm:=As hp1;refine⟨_,rfl,.inr (.inl ⟨T1,_,0,.str wd,rfl,rfl,SqT.of (s' _ _ hp2),by rw[e1];exact q1m (j:=0) rfl,?_⟩)⟩;refine⟨by show 2<=sizeLine;decide,fun U hU=>?_⟩;refine .inr ⟨U,_,rfl,.inr (SqT.of q0e),rfl,by decide +kernel,_,rfl,?_⟩;show if inV (.str wd) [.str (Aa "more"),.str (Aa "count")]=true then _ else _
   rw[e2,ru.ok.nm p hpm,ru.nc p hpm];exact iteF ⟨_,rfl,s'.new hU⟩
  ·rintro σ' H' ⟨y,rfl,s'⟩;exact k _ (s1.trans s')
structure PX (vs:List V) (t:List Nat):Prop where
 ex:∃x r,vs=.str x::r/\((decide (V.str x=V.str (Aa "text"))=true/\decide (V.str x=V.str (Aa "noughts"))=false/\r=[.str (mk t)])\/(decide (V.str x=V.str (Aa "text"))=false/\decide (V.str x=V.str (Aa "noughts"))=true/\t=[48])\/(decide (V.str x=V.str (Aa "text"))=false/\decide (V.str x=V.str (Aa "noughts"))=false/\t=[]))
theorem px_pt(p:Pt):PX p.vs (ptx p):=by
 cases p with
 |tx t=>exact⟨Aa "text",_,rfl,.inl ⟨by decide +kernel,by decide +kernel,rfl⟩⟩
 |gp c=>exact⟨Aa "gap",_,rfl,.inr (.inr ⟨by decide +kernel,by decide +kernel,rfl⟩)⟩
theorem px_pc(p:Pc):PX p.vs (pcx p):=by
 cases p with
 |tx t=>exact⟨_,_,rfl,.inl ⟨by decide +kernel,by decide +kernel,rfl⟩⟩
 |nou k w=>exact⟨_,_,rfl,.inr (.inl ⟨by decide +kernel,by decide +kernel,rfl⟩)⟩
 |_=>exact⟨_,_,rfl,.inr (.inr ⟨by decide +kernel,by decide +kernel,rfl⟩)⟩
theorem z6n{xs:List (List Nat)}{i:Nat}:((xs.take i).flatten).length<=xs.flatten.length:=by
 have e:xs.flatten=(xs.take i).flatten++(xs.drop i).flatten:=by rw[<- Gp,Fs]
 rw[e,Ac];lia
theorem q2v(x y:List Nat):mk x++mk y=mk (x++y):=by
 apply ext;rw[q2c,q0v,q0v,q0v]
def spTextOf(K:Ae):Sp:=fun vs H Q _=>∃R r,vs=[.ref R]/\CRule K H R r/\∀H',Same H H'->Q (.str (mk (txO r))) H'
abbrev q4m:Stmt:=top 56
theorem sc_text_of:FnScope ["rule", "text", "part"] ["rule"] (defScope q4m):=by trivial
theorem z4e(D:Df K mg "text_of" q4m ["rule"])(T:Txt mg)(C:CallsAP P w K mg base):Cal P w K mg base "text_of" 7 ["rule"] (spTextOf K):=by
 refine D.cal sc_text_of (fun vs H Q E h=>?_) (fun f cdv A outer s H vs Q E hr h=>?_)
 ·obtain⟨R,r,rfl,_⟩:=h;rfl
 ·obtain⟨R,r,rfl,ru,k⟩:=h;refine⟨_,(q0b (q0j (i:=1) sc_text_of.nd rfl (by trivial) q0h) (q0b (q1h Bd rfl (@q2y _ _ _ _ K rfl (q0s q0n (pe_c C.parts_of hr (q0a (q0t (ix_k K rfl) (pv 0) q0f (fun _ _=>rfl)) q0c)) (pe_c C.pieces_of hr (q0a (q0t (ix_k K rfl) (pv 0) q0f (fun _ _=>rfl)) q0c)))) (q0k (i:=2) sc_text_of.nd rfl (by trivial)) (q1k (q0u (q0g (eq_k K rfl hr) (q0t (ix_k K rfl) (pv 2) q0f (fun _ _=>rfl)) q0h (nomark _)) (q0d (z1v (i:=1) sc_text_of.nd rfl (by trivial) (q0t (ix_k K rfl) (pv 2) q0f (fun _ _=>rfl)) q3q)) q0i) (q0d (q0u (q0g (eq_k K rfl hr) (q0t (ix_k K rfl) (pv 2) q0f (fun _ _=>rfl)) q0h (nomark _)) (q0d (z1v (i:=1) sc_text_of.nd rfl (by trivial) q0h q3q)) q0i)))) (q0d (q0l (pv 1))))),?_⟩;refine⟨_,rfl,.inr (.inl ⟨R,_,1,_,rfl,rfl,SqT.of ru.at_.at_,q1m (j:=1) rfl,r.l,rfl,ru.at_.good,fun L1 H1 hL1 s1 hp1=>?_⟩)⟩;have ru1:=ru.at_.same s1;refine⟨_,rfl,.inr (.inl ⟨R,_,2,_,rfl,rfl,SqT.of ru1.at_,q1m (j:=2) rfl,r.qs,rfl,ru1.wp,fun L2 H2 hL2 s2 hp2=>?_⟩)⟩;obtain⟨Ts,t1,t2⟩:=(hp1.same s2).ex;obtain⟨Us,u1,u2⟩:=hp2.ex;have hTl:=t2.len;have hUl:=u2.len;have hpl:=q5t r.l [];have hgl:=ru.at_.good.len;have hql:r.qs.length<=100:=by
   have:=ru.at_.wp.sz;have hq:∀qs:List Pc,(∀q∈qs,q.ok)->qs.length<=(flatP qs).length:=by
    intro qs;induction qs with
    |nil=>intro _;exact Au _
    |cons q r ih =>
     intro hq;have h1:=Bx.mpr (z6h (hq q Ai));have h2:=ih fun x hx=>hq x (Ah _ hx);rw[q0p,Ac,Ar];lia
   exact Ap (hq r.qs ru.at_.wp.ok) this
  refine .inr (.inr ⟨L1,L2,_,_,rfl,rfl,t1,u1,small (by rw[Ad,Ad];lia),fun L3 hL3=>?_⟩);have s3:=(Same.refl H2).new (o:=.lst (Ts.map V.ref++Us.map V.ref)) hL3;have h3:upd H2 L3 (.lst (Ts.map V.ref++Us.map V.ref)) L3=some (.lst ((Ts++Us).map V.ref)):=by rw[q0e,Ax]
  generalize upd H2 L3 (.lst (Ts.map V.ref++Us.map V.ref))=H3 at s3 h3;have sA:=(s1.trans s2).trans s3;have hall:∀(i:Nat) (U:Addr),(Ts++Us)[i]?=some U->∃vs t,H3 U=some (.tup vs)/\PX vs t/\(((parse [] r.l).map ptx)++(r.qs.map pcx))[i]?=some t:=by
   intro i U hU;by_cases hi:i<Ts.length
   ·rw[Co hi] at hU;obtain⟨_,p,ex,hp,hv⟩:=t2.get (show(Ts.map V.ref)[i]?=some (.ref U) by rw[Bg,hU];rfl);cases ex;exact⟨_,_,s3 _ _ hv,px_pt p,by rw[Co (by rw[Ad,<- hTl];exact hi),Bg,hp];rfl⟩
   ·rw[Cn (by lia)] at hU;obtain⟨p,hp,hv⟩:=u2.get hU;exact⟨_,_,s3 _ _ hv,px_pc p,by rw[Cn (by rw[Ad];lia),Ad,<- hTl,Bg,hp];rfl⟩
  have etx:txO r=(((parse [] r.l).map ptx)++(r.qs.map pcx)).flatten:=by unfold txO;rw[Gp]
  have hsz:=ru.tx;rw[etx] at k hsz;have hll:(((parse [] r.l).map ptx)++(r.qs.map pcx)).length=(Ts++Us).length:=by rw[Ac,Ac,Ad,Ad];lia
  generalize ((parse [] r.l).map ptx)++(r.qs.map pcx)=xs at k hall hll hsz;refine .inl ⟨L3,rfl,⟨_,SqL.of h3⟩,?_⟩;refine q1z (xs:=(Ts++Us).map V.ref) (fun i σ' H'=>(∃x,σ'=[some (.ref R),some (.str (mk ((xs.take i).flatten))),x])/\H'=H3) ⟨⟨none,rfl⟩,rfl⟩ (fun i σ' H' _ x=>by rw[x.2];exact SqL.of h3) ?_ ?_
  ·rintro i x σ' H' hx ⟨⟨y,rfl⟩,rfl⟩;rw[Bg] at hx;obtain⟨U,hU,rfl⟩:=Bm.mp hx;obtain⟨vs,t,hv,⟨wd,rs,rfl,hc⟩,ht⟩:=hall i U hU;have hfl:=z6n (xs:=xs) (i:=i);have hfl2:=z6n (xs:=xs) (i:=i+1);have e1:(xs.take (i+1)).flatten=(xs.take i).flatten++t:=by rw[Et,ht,Gp];simp
   rw[e1,Ac] at hfl2;have hat:atI (V.str wd::rs) 0=some (.str wd):=q1m (j:=0) rfl;refine⟨fun σ2 H2=>(∃z,σ2=[some (.ref R),some (.str (mk z)),some (.ref U)]/\(decide (V.str wd=V.str (Aa "noughts"))=false->z=(xs.take i).flatten++t)/\(decide (V.str wd=V.str (Aa "noughts"))=true->z=(xs.take i).flatten/\t=[48]))/\H2=H',?_,?_⟩
   ·rintro σ2 H2 ⟨⟨z,rfl,hz1,hz2⟩,rfl⟩;refine⟨_,rfl,.inr (.inl ⟨U,_,0,.str wd,rfl,rfl,SqT.of hv,hat,.inl ⟨rfl,_,rfl,?_⟩⟩)⟩;cases hb:decide (V.str wd=V.str (Aa "noughts")) with
    |true =>
     obtain⟨rfl,rfl⟩:=hz2 hb;have e48:Aa "0" = mk [48]:=by decide +kernel
     refine iteT ⟨_,rfl,_,_,rfl,rfl,by rw[e48,q0o,q0o];exact small (by show _+1<=_;lia),⟨some (.ref U),by rw[e48,q2v,e1];rfl⟩,rfl⟩
    |false =>
     rw[hz1 hb];exact iteF ⟨⟨_,by rw[e1]⟩,rfl⟩
   ·refine⟨_,rfl,.inr (.inl ⟨U,_,0,.str wd,rfl,rfl,SqT.of hv,hat,.inl ⟨rfl,_,rfl,?_⟩⟩)⟩;rcases hc with⟨c1,c2,rfl⟩|⟨c1,c2,rfl⟩|⟨c1,c2,rfl⟩
    ·rw[c1,c2];refine iteT ⟨_,rfl,_,rfl,.inr (.inl ⟨U,_,1,.str (mk t),rfl,rfl,SqT.of hv,q1m (j:=1) rfl,?_⟩)⟩;exact⟨_,_,rfl,rfl,by rw[q0o,q0o];exact small (by lia),⟨(xs.take i).flatten++t,by rw[q2v];rfl,fun _=>rfl,fun z=>(by cases z)⟩,rfl⟩
    ·rw[c1,c2];exact iteF ⟨⟨_,rfl,fun z=>(by cases z),fun _=>⟨rfl,rfl⟩⟩,rfl⟩
    ·rw[c1,c2];exact iteF ⟨⟨_,rfl,fun _=>(By _).symm,fun z=>(by cases z)⟩,rfl⟩
  ·rintro σ' H' ⟨⟨y,rfl⟩,rfl⟩;refine⟨_,rfl,?_⟩;have:=k _ sA;rw[Ad,<- hll,Cq];exact this
theorem q4t:∀c∈NS,c<128:=by decide +kernel
theorem q7a{r:RD}{R:Addr}{H:Hp}(h:CRule K H R r):∀c∈txO r,c∈NS:=by
 intro c hc;rcases Aw.mp hc with z|z
 ·obtain⟨t,ht,hct⟩:=Ef.mp z;obtain⟨p,hp,rfl⟩:=Bt.mp ht;cases p with
  |tx t=>exact(q4d r.l [] (fun _ h=>nomatch h) h.at_.good.sg _ hp).2 c hct
  |gp g=>cases hct
 ·obtain⟨t,ht,hct⟩:=Ef.mp z;obtain⟨p,hp,rfl⟩:=Bt.mp ht;cases p with
  |tx t=>exact(h.at_.wp.ok _ hp).2 c hct
  |nou k w=>rw[Al.mp hct];decide +kernel
  |_=>cases hct
theorem q6d{l:List Nat}(h:∀c∈l,c<128):Jm (mk l)=mk (l.map lo1):=by
 apply ext;rw[lower (by rw[q0v];exact h),q0v,q0v]
structure CallsSo (P:Program) (w:World) (K:Ae) (mg:Str->Option Value) (base:Heap):Prop where
 text_of:Cal P w K mg base "text_of" 7 ["rule"] (spTextOf K)
abbrev vC(l:List Nat):List V:=l.map fun c=>V.str (mk [c])
def spSignsOf(K:Ae):Sp:=fun vs H Q _=>∃R S r q,vs=[.ref R,.ref S]/\CRule K H R r/\CRule K H S q/\∀L H',H L=none->Same H H'->H' L=some (.lst (vC (nmd (txO r++txO q))))->Q (.ref L) H'
theorem q8m{l:List Nat}{f:Nat->Bool}{i c:Nat}(h:l[i]?=some c):vC ((l.take (i+1)).filter f)=if f c then vC ((l.take i).filter f)++[.str (mk [c])] else vC ((l.take i).filter f):=by
 rw[q0z h,Fh];show((_:List Nat)++_).map _=_;rw[Ax];cases e:f c<;>simp[Dv,e]
theorem ns_mk:Aa "abcdefghijklmnopqrstuvwxyzABCDEFGHIJKLMNOPQRSTUVWXYZ0123456789-_." = mk NS:=(z0x _).symm
theorem x0e:NS.length=65:=by decide +kernel
abbrev q3y:Stmt:=top 57
theorem sc_signs_of:FnScope ["one", "other", "text"] ["one", "other"] (defScope q3y):=by trivial
theorem z1l(D:Df K mg "signs_of" q3y ["one", "other"])(T:Txt mg)(C:CallsSo P w K mg base):Cal P w K mg base "signs_of" 8 ["one", "other"] (spSignsOf K):=by
 refine D.cal sc_signs_of (fun vs H Q E h=>?_) (fun f cdv A outer s H vs Q E hr h=>?_)
 ·obtain⟨R,S,r,q,rfl,_⟩:=h;rfl
 ·obtain⟨R,S,r,q,rfl,ru,sq,k⟩:=h;obtain⟨_,g_NAME_SIGNS⟩:=T.NAME_SIGNS;refine⟨_,(q0b (q0j (i:=2) sc_signs_of.nd rfl (by trivial) (@q5r _ _ _ _ _ _ _ _ _ K rfl Bo Dr Ds q3m (q0s q0n (pe_c C.text_of hr (q0a (pv 0) q0c)) (pe_c C.text_of hr (q0a (pv 1) q0c))) (by rfl) (by rfl))) (q0d (q0l (q4y ["sign"] [("text",2)] rfl (@q2y _ _ _ _ K rfl (q1c (v:=.str (Aa "abcdefghijklmnopqrstuvwxyzABCDEFGHIJKLMNOPQRSTUVWXYZ0123456789-_.")) (by rfl) g_NAME_SIGNS ⟨_,rfl⟩)) (fun _ _ _ _ _=>(q0k (i:=0) (show(["sign", "text"]:List Str).Nodup by decide +kernel) rfl (by trivial))) (fun _ _ _ _ _=>(q5m (q0g (in_k K rfl) (@q5r _ _ _ _ _ _ _ _ _ K rfl Bo Dr Ds q3m (pv 0) (by rfl) (by rfl)) (pv 1) (by with_unfolding_all rfl)))) (fun _ _ _ _ _=>(pv 0)))))),?_⟩;have l1:=ru.tx;have l2:=sq.tx;refine⟨_,rfl,R,r,rfl,ru,fun H1 s1=>⟨_,rfl,S,q,rfl,sq.same s1,fun H2 s2=>?_⟩⟩;refine .inr (.inl ⟨_,_,rfl,rfl,by rw[q0o,q0o];exact small (by lia),?_⟩);rw[q2v];have hlow:∀c∈txO r++txO q,c<128:=fun c hc=>q4t c ((Aw.mp hc).elim (q7a ru c) (q7a sq c))
  refine⟨rfl,_,rfl,rfl,by rw[q0o,Ac];exact small (by lia),?_⟩;rw[q6d hlow];have s12:=s1.trans s2;generalize txO r++txO q=t at k hlow;refine .inr (.inr ⟨_,rfl,fun D hD=>?_⟩);refine q7o (fun i ys H3=>ys=vC ((NS.take i).filter fun c=>decide (lo1 c∈t.map lo1))/\Same H2 H3/\H3 D=some (.lst ys)/\ys.length<=i) ⟨rfl,(Same.refl H2).new hD,q0e,Au _⟩ (fun i ys H3 h=>h.2.2.1) ?_ ?_
  ·rintro i ys H3 c hc ⟨rfl,s3,h3,hle⟩;have hci:NS[i]?=some c:=get hc;have hi:=(Aj.mp hci).1;have hcl:=q4t c (As hci);rw[x0e] at hi;refine⟨q1o,_,rfl,rfl,_,rfl,rfl,by show 3*1<=_;exact small (by lia),?_⟩;rw[show Jm ⟨#[c]⟩=⟨#[lo1 c]⟩ from q6d (l:=[c]) (fun x hx=>by rw[Al.mp hx];exact hcl)];refine⟨_,rfl,.inl ⟨_,_,rfl,rfl,_,rfl,?_⟩⟩;rw[q2x,q0v,q8m hci];cases hb:decide (lo1 c∈t.map lo1) with
   |true=>exact iteT ⟨_,rfl,h3,small' (by lia),rfl,s3.put hD,q0e,by rw[Ac];exact Hv hle⟩
   |false=>exact iteF ⟨rfl,s3,h3,Em hle⟩
  ·rintro ys H3 ⟨rfl,s3,h3,_⟩;have e3:NS.take (Aa "abcdefghijklmnopqrstuvwxyzABCDEFGHIJKLMNOPQRSTUVWXYZ0123456789-_.").length=NS:=by rw[ns_mk,q0o];exact Cj (Af _)
   rw[e3] at h3;exact k D _ (s12.free hD) (s12.trans s3) h3
def spBound:Sp:=fun vs H Q _=>∃m n:Nat,vs=[.int (m:Int),.int (n:Int)]/\n<=4/\m<=100/\(m+4)^n<=1000/\Q .non H
abbrev q3j:Stmt:=top 58
theorem sc_ask_bound:FnScope ["many", "most", "bound", "place"] ["many", "most"] (defScope q3j):=by trivial
theorem z0k(D:Df K mg "ask_bound" q3j ["many", "most"])(T:Txt mg):Cal P w K mg base "ask_bound" 1 ["many", "most"] spBound:=by
 refine D.cal sc_ask_bound (fun vs H Q E h=>?_) (fun f cdv A outer s H vs Q E hr h=>?_)
 ·obtain⟨m,n,rfl,_⟩:=h;rfl
 ·obtain⟨m,n,rfl,hn,hm,hb,k⟩:=h;obtain⟨_,g_MOST_NAMES_ASKED⟩:=T.MOST_NAMES_ASKED;refine⟨_,(q0b (q0j (i:=2) sc_ask_bound.nd rfl (by trivial) q0f) (q0b (q1h Bd rfl (q1v rfl T.b_range (q0a (pv 1) q0c)) (q0k (i:=3) sc_ask_bound.nd rfl (by trivial)) (q0d (q0j (i:=2) sc_ask_bound.nd rfl (by trivial) (q0s q5q (pv 2) (q0s q0n (pv 0) q0f))))) (q0d (q0u (q0g q5h (pv 2) (q1c (v:=.int 1000) (by rfl) g_MOST_NAMES_ASKED ⟨_,rfl⟩) (nomark _)) (q0d q1l) q0i)))),?_⟩;refine⟨_,rfl,(n:Int),rfl,by lia,by lia,q1w (n:=n) (fun i σ' H'=>(∃x,σ'=[some (.int (m:Int)),some (.int (n:Int)),some (.int (((m+4)^i:Nat):Int)),x])/\H'=H) ⟨⟨none,rfl⟩,rfl⟩ ?_ ?_⟩
  ·rintro i σ' H' hi ⟨⟨x,rfl⟩,rfl⟩;have hle:(m+4)^i<=1000:=Ap (Gf (by lia) (by lia)) hb;refine⟨_,rfl,_,rfl,.inl ⟨_,_,rfl,rfl,.inl ⟨_,_,rfl,rfl,.inl ⟨by lia,by lia⟩,?_⟩⟩⟩;have e:(((m+4)^i:Nat):Int)*((m:Int)+4)=(((m+4)^(i+1):Nat):Int):=by rw[Ko,Oz];rfl
   exact⟨⟨_,congrArg (fun z=>[some (V.int (m:Int)),some (V.int (n:Int)),some (V.int z),_]) e⟩,rfl⟩
  ·rintro σ' H' ⟨⟨x,rfl⟩,rfl⟩;refine⟨_,rfl,_,_,rfl,rfl,_,rfl,?_⟩;rw[decide_eq_false (by lia)];exact iteF k
def SO0:List Nat:=tl (Aa "0123456789")
def SO1:List Nat:=tl (Aa "abcdefghijklmnopqrstuvwxyz")
def SO2:List Nat:=tl (Aa "-_.")
def freeS(nm s:List Nat):List Nat:=s.filter fun c => !decide (c∈nm)
def useS(nm n s:List Nat):List Nat:=(freeS nm s).filter (fun c=>decide (c∈n.map lo1))++((freeS nm s).filter (fun c => !decide (c∈n.map lo1))).take 1
def both(c:Nat):List Nat:=if up1 c=c then[c] else[c,up1 c]
def otherS(nm n:List Nat):List Nat:=[SO0,SO1,SO2].flatMap fun s=>(useS nm n s).flatMap both
theorem so_ns:∀s∈[SO0,SO1,SO2],∀c∈s,c∈NS/\up1 c∈NS:=by decide +kernel
theorem so_len:∀s∈[SO0,SO1,SO2],s.length<=26:=by decide +kernel
theorem z2p{nm n s:List Nat}:∀c∈useS nm n s,c∈s:=fun c hc=>by
 rcases Aw.mp hc with z|z
 ·exact(Bp.mp (Bp.mp z).1).1
 ·exact(Bp.mp (Bp.mp (Dz z)).1).1
theorem z8w{nm n s:List Nat}(h:s.length<=26):(useS nm n s).length<=27:=by
 unfold useS;rw[Ac,Bv];have h1:=Cs (fun c=>decide (c∈n.map lo1)) (freeS nm s);have h2:(freeS nm s).length<=s.length:=Cs _ _;lia
theorem z6o{nm n:List Nat}:∀c∈otherS nm n,c∈NS:=fun c hc=>by
 obtain⟨s,hs,hc⟩:=Dw.mp hc;obtain⟨d,hd,hc⟩:=Dw.mp hc;have:=so_ns s hs d (z2p d hd);unfold both at hc;split at hc
 ·rw[Al.mp hc];exact this.1
 ·rcases Am.mp hc with rfl|hc
  ·exact this.1
  ·rw[Al.mp hc];exact this.2
theorem z1m{c:Nat}(h:c<128):Jn (⟨#[c]⟩:Str)=⟨#[up1 c]⟩:=by
 apply ext;have:=Kt (x:=⟨#[c]⟩) (fun x hx=>(show x=c by simpa using hx)▸h);rw[this];simp[tl]
theorem z8x{tk:List (List Nat)}{n:List Nat}:inV (.str (mk n)) (tk.map fun n=>V.str (mk n))=decide (n∈tk):=by
 unfold inV;rw[List.any_map];cases h:decide (n∈tk) with
 |true=>exact Ku.mpr ⟨n,of_decide_eq_true h,by show(mk n==mk n)=true;simp⟩
 |false =>
  refine List.any_eq_false.mpr fun x hx e=>of_decide_eq_false h ?_;have e2:(mk x==mk n)=true:=e;rw[<- SB.mk_inj (eq_of_beq e2)];exact hx
theorem inV_c(c:Nat)(nm:List Nat):inV (.str (mk [c])) (vC nm)=decide (c∈nm):=by
 have e:vC nm=(nm.map fun c=>[c]).map fun n=>V.str (mk n):=by rw[Cw];rfl
 rw[e,z8x];refine decide_eq_decide.mpr ⟨fun h=>?_,fun h=>Bt.mpr ⟨c,h,rfl⟩⟩;obtain⟨d,hd,z⟩:=Bt.mp h;cases z;exact hd
theorem x1z(nm:List Nat):(vC nm).all flatV=true:=Ht.mpr fun v hv=>by
 obtain⟨c,_,rfl⟩:=Bt.mp hv;rfl
theorem q6e{α β:Type}{l:List α}{f:α->List β}{i:Nat}{x:α}(h:l[i]?=some x):(l.take (i+1)).flatMap f=(l.take i).flatMap f++f x:=by
 rw[Et,h,Mr];simp
theorem z2q(a b:List Nat):vC (a++b)=vC a++vC b:=Ax
theorem cutC1(l:List Nat):cutV (vC l) none (some (1:Int))=vC (l.take 1):=by
 unfold cutV;have e0:HT.sIx (vC l).length 0 none=0:=rfl;have e1:HT.sIx (vC l).length (vC l).length (some (1:Int))=min 1 (vC l).length:=rfl;rw[e0,e1,Lx,Nat.sub_zero,<- List.take_take,Cq];exact List.map_take.symm
def spOtherS(K:Ae):Sp:=fun vs H Q _=>∃L nm n,vs=[.str (mk n),.ref L]/\H L=some (.lst (vC nm))/\n.length<=12/\(∀c∈n,c<128)/\∀M H',H M=none->Same H H'->H' M=some (.lst (vC (otherS nm n)))->Q (.ref M) H'
abbrev q2l:Stmt:=top 59
theorem sc_other_signs:FnScope ["name", "named", "signs", "sort", "free", "used", "fresh", "sign"] ["name", "named"] (defScope q2l):=by trivial
set_option maxHeartbeats 40000000 in
theorem q6o{d_SORTS:Addr}(D:Df K mg "other_signs" q2l ["name", "named"])(T:Txt mg)(g_SORTS:mg "SORTS" = some (.ref d_SORTS))(hS:∀H,SqT K H d_SORTS [.str (Aa "0123456789"),.str (Aa "abcdefghijklmnopqrstuvwxyz"),.str (Aa "-_.")]):Cal P w K mg base "other_signs" 1 ["name", "named"] (spOtherS K):=by
 refine D.cal sc_other_signs (fun vs H Q E h=>?_) (fun f cdv A outer s H vs Q E hr h=>?_)
 ·obtain⟨L,nm,n,rfl,_⟩:=h;rfl
 ·obtain⟨L,nm,n,rfl,hL,hnl,hlow,k⟩:=h;refine⟨_,(q0b (q0j (i:=2) sc_other_signs.nd rfl (by trivial) (q1t q0c)) (q0b (q1h Bd rfl (@q2y _ _ _ _ K rfl (q1c (v:=.ref d_SORTS) (by rfl) g_SORTS rfl)) (q0k (i:=3) sc_other_signs.nd rfl (by trivial)) (q0b (q7n (i:=4) ["sign"] [("named",1)] sc_other_signs.nd rfl (by trivial) rfl (@q2y _ _ _ _ K rfl (pv 3)) (fun _ _ _ _ _=>(q0k (i:=0) (show(["sign", "named"]:List Str).Nodup by decide +kernel) rfl (by trivial))) (fun _ _ _ _ _=>(q5m (q0g (z5f K rfl) (pv 0) (pv 1) (by with_unfolding_all rfl)))) (fun _ _ _ _ _=>(pv 0))) (q0b (q7n (i:=5) ["sign"] [("name",0)] sc_other_signs.nd rfl (by trivial) rfl (@q2y _ _ _ _ K rfl (pv 4)) (fun _ _ _ _ _=>(q0k (i:=0) (show(["sign", "name"]:List Str).Nodup by decide +kernel) rfl (by trivial))) (fun _ _ _ _ _=>(q5m (q0g (in_k K rfl) (pv 0) (@q5r _ _ _ _ _ _ _ _ _ K rfl Bo Dr Ds q3m (pv 1) (by rfl) (by rfl)) (by with_unfolding_all rfl)))) (fun _ _ _ _ _=>(pv 0))) (q0b (q7n (i:=6) ["sign"] [("name",0)] sc_other_signs.nd rfl (by trivial) rfl (@q2y _ _ _ _ K rfl (pv 4)) (fun _ _ _ _ _=>(q0k (i:=0) (show(["sign", "name"]:List Str).Nodup by decide +kernel) rfl (by trivial))) (fun _ _ _ _ _=>(q5m (q0g (z5f K rfl) (pv 0) (@q5r _ _ _ _ _ _ _ _ _ K rfl Bo Dr Ds q3m (pv 1) (by rfl) (by rfl)) (by with_unfolding_all rfl)))) (fun _ _ _ _ _=>(pv 0))) (q0d (q1h Bd rfl (@q2y _ _ _ _ K rfl (q0s q0n (pv 5) (q1u (sl_k K rfl) (pv 6) q7i (q1i q0f)))) (q0k (i:=7) sc_other_signs.nd rfl (by trivial)) (q0b (q0x (@bm_k _ _ _ _ _ _ _ _ _ _ _ _ K rfl Bs Ca Cb q1g (pv 2) (q0a (pv 7) q0c) (by rfl) (by rfl) (by rfl) (by rfl) (by rfl))) (q0d (q0u (q0g (ne_k K rfl hr) (@q5r _ _ _ _ _ _ _ _ _ K rfl Bo Fn Fo q4z (pv 7) (by rfl) (by rfl)) (pv 7) (nomark _)) (q0d (q0x (@bm_k _ _ _ _ _ _ _ _ _ _ _ _ K rfl Bs Ca Cb q1g (pv 2) (q0a (@q5r _ _ _ _ _ _ _ _ _ K rfl Bo Fn Fo q4z (pv 7) (by rfl) (by rfl)) q0c) (by rfl) (by rfl) (by rfl) (by rfl) (by rfl)))) q0i))))))))) (q0d (q0l (pv 2))))),?_⟩;refine⟨by show 0<=sizeLine;decide,fun M hM=>?_⟩;have s0:=(Same.refl H).new (o:=.lst []) hM;have h0:upd H M (.lst []) M=some (.lst (vC [])):=q0e;have hML:L≠M:=fun z=>by rw[z,hM] at hL;cases hL
  generalize upd H M (.lst [])=H0 at s0 h0;refine .inr (.inl ⟨d_SORTS,rfl,⟨_,hS _⟩,?_⟩);have esort:[V.str (Aa "0123456789"),.str (Aa "abcdefghijklmnopqrstuvwxyz"),.str (Aa "-_.")]=[SO0,SO1,SO2].map fun t=>V.str (mk t):=by
   show _=[V.str (mk (tl _)),V.str (mk (tl _)),V.str (mk (tl _))]
   rw[z0x,z0x,z0x]
  refine x0u (xs:=[V.str (Aa "0123456789"),.str (Aa "abcdefghijklmnopqrstuvwxyz"),.str (Aa "-_.")]) (fun i σ' H'=>∃x3 x4 x5 x6 x7,σ'=[some (.str (mk n)),some (.ref L),some (.ref M),x3,x4,x5,x6,x7]/\Same H H'/\H' M=some (.lst (vC (([SO0,SO1,SO2].take i).flatMap fun s=>(useS nm n s).flatMap both)))/\(([SO0,SO1,SO2].take i).flatMap fun s=>(useS nm n s).flatMap both).length<=54*i) ⟨none,none,none,none,none,rfl,s0,h0,Af _⟩ (fun i σ' H' _ x=>hS _) ?_ ?_
  ·rintro i x σ' H1 hx ⟨x3,x4,x5,x6,x7,rfl,s1,h1,hlen⟩;rw[esort,Bg] at hx;obtain⟨so,hso,rfl⟩:=Bm.mp hx;have hi3:i<3:=(Aj.mp hso).1;have hsm:=As hso;have hsl:=so_len so hsm;have hsn:=so_ns so hsm;have es:=q0o so;refine⟨_,rfl,.inr (.inr ⟨mk so,rfl,fun D1 hD1=>?_⟩)⟩;have hMD:∀{Da:Addr} {Ha:Hp},Ha M=some (.lst (vC (([SO0,SO1,SO2].take i).flatMap fun s=>(useS nm n s).flatMap both)))->Ha Da=none->M≠Da:=fun e z y=>by rw[<- y,e] at z;cases z
   refine q7o (fun j ys H'=>ys=vC ((so.take j).filter fun c => !decide (c∈nm))/\Same H1 H'/\H' D1=some (.lst ys)/\ys.length<=j) ⟨rfl,(Same.refl H1).new hD1,q0e,Au _⟩ (fun j ys H' h=>h.2.2.1) ?_ ?_
   ·rintro j ys H' c hc ⟨rfl,s',h',hle⟩;have hci:so[j]?=some c:=by have:=get hc;rw[q0v] at this;exact this
    have hj:=(Aj.mp hci).1;refine⟨q1o,_,rfl,_,rfl,.inr ⟨L,_,rfl,.inl (SqL.of (s' _ _ (s1 _ _ hL))),rfl,x1z nm,_,rfl,?_⟩⟩;show if (!inV (.str (mk [c])) (vC nm))=true then _ else _
    rw[inV_c,q8m hci];cases hb:decide (c∈nm) with
    |true=>exact iteF ⟨rfl,s',h',Em hle⟩
    |false=>exact iteT ⟨_,rfl,h',small' (by lia),rfl,s'.put hD1,q0e,by rw[Ac];exact Hv hle⟩
   rintro ys H2 ⟨rfl,s2,h2,hle2⟩;have e2:so.take (mk so).length=so:=by rw[es];exact Cj (Af _)
   rw[e2] at h2 hle2;have hfl:(freeS nm so).length<=26:=Ap (Cs _ _) hsl;have hfs:∀c∈freeS nm so,c∈so:=fun c hc=>(Bp.mp hc).1;replace h2:H2 D1=some (.lst (vC (freeS nm so))):=h2;have euse:useS nm n so=(freeS nm so).filter (fun c=>decide (c∈n.map lo1))++((freeS nm so).filter (fun c => !decide (c∈n.map lo1))).take 1:=rfl;have hul:=z8w (nm:=nm) (n:=n) hsl;have hus:=z2p (nm:=nm) (n:=n) (s:=so);rw[euse] at hul hus;generalize freeS nm so=fr at hfl hfs h2 euse hul hus;have h1D:M≠D1:=hMD h1 hD1;have h1':=s2 _ _ h1;refine⟨_,rfl,.inl ⟨D1,rfl,⟨_,SqL.of h2⟩,fun D2 hD2=>?_⟩⟩;refine q4b (xs:=vC fr) (fun j ys H'=>ys=vC ((fr.take j).filter fun c=>decide (c∈n.map lo1))/\Same H2 H'/\H' D2=some (.lst ys)/\ys.length<=j) ⟨rfl,(Same.refl H2).new hD2,q0e,Au _⟩ (fun j ys H' h=>⟨h.2.2.1,SqL.of (h.2.1 _ _ h2)⟩) ?_ ?_
   ·rintro j ys H' v hv ⟨rfl,s',h',hle⟩;rw[Bg] at hv;obtain⟨c,hci,rfl⟩:=Bm.mp hv;have hj:=(Aj.mp hci).1;refine⟨q1o,_,rfl,_,rfl,rfl,_,rfl,rfl,by rw[q0o];exact small (by lia),?_⟩;rw[q6d hlow];refine .inl ⟨_,_,rfl,rfl,_,rfl,?_⟩;rw[show mk [c]=(⟨#[c]⟩:Str) from rfl,q2x,q0v,q8m hci];cases hb:decide (c∈n.map lo1) with
    |true=>exact iteT ⟨_,rfl,h',small' (by lia),rfl,s'.put hD2,q0e,by rw[Ac];exact Hv hle⟩
    |false=>exact iteF ⟨rfl,s',h',Em hle⟩
   rintro ys H3 ⟨rfl,s3,h3,hle3⟩;rw[Ad,Cq] at h3;have h2':=s3 _ _ h2;refine⟨_,rfl,.inl ⟨D1,rfl,⟨_,SqL.of h2'⟩,fun D3 hD3=>?_⟩⟩;refine q4b (xs:=vC fr) (fun j ys H'=>ys=vC ((fr.take j).filter fun c => !decide (c∈n.map lo1))/\Same H3 H'/\H' D3=some (.lst ys)/\ys.length<=j) ⟨rfl,(Same.refl H3).new hD3,q0e,Au _⟩ (fun j ys H' h=>⟨h.2.2.1,SqL.of (h.2.1 _ _ h2')⟩) ?_ ?_
   ·rintro j ys H' v hv ⟨rfl,s',h',hle⟩;rw[Bg] at hv;obtain⟨c,hci,rfl⟩:=Bm.mp hv;have hj:=(Aj.mp hci).1;refine⟨q1o,_,rfl,_,rfl,rfl,_,rfl,rfl,by rw[q0o];exact small (by lia),?_⟩;rw[q6d hlow];refine .inl ⟨_,_,rfl,rfl,_,rfl,?_⟩;rw[show mk [c]=(⟨#[c]⟩:Str) from rfl,q2x,q0v,q8m hci];cases hb:decide (c∈n.map lo1) with
    |true=>exact iteF ⟨rfl,s',h',Em hle⟩
    |false=>exact iteT ⟨_,rfl,h',small' (by lia),rfl,s'.put hD3,q0e,by rw[Ac];exact Hv hle⟩
   rintro ys H4 ⟨rfl,s4,h4,hle4⟩;rw[Ad,Cq] at h4;refine⟨_,rfl,_,rfl,_,rfl,.inr (.inl ⟨D3,_,rfl,SqL.of h4,fun D4 hD4=>?_⟩)⟩;rw[cutC1];generalize hus1:fr.filter (fun c=>decide (c∈n.map lo1))=us at *;generalize hfr1:(fr.filter (fun c => !decide (c∈n.map lo1))).take 1=fs at *;have s5:=(Same.refl H4).new (o:=.lst (vC fs)) hD4;have hlu:(vC us).length+(vC fs).length<=100:=by
    rw[Ad,Ad];rw[Ac] at hul;lia
   refine .inr (.inr ⟨D2,D4,_,_,rfl,rfl,s5 _ _ (s4 _ _ h3),q0e,small (by lia),fun D5 hD5=>?_⟩);have s6:=s5.new (o:=.lst (vC us++vC fs)) hD5;have h6:upd (upd H4 D4 (.lst (vC fs))) D5 (.lst (vC us++vC fs)) D5=some (.lst (vC (us++fs))):=by rw[q0e,z2q]
   generalize upd (upd H4 D4 (.lst (vC fs))) D5 (.lst (vC us++vC fs))=H6 at s6 h6;have hM6:=s6 _ _ (s4 _ _ (s3 _ _ h1'));have sA:=((s1.trans s2).trans s3).trans (s4.trans s6);have hMH:H M=none:=hM;have h5M:D5≠M:=fun z=>by
    have:=(s5 _ _ (s4 _ _ (s3 _ _ h1')))
    rw[<- z,hD5] at this;cases this
   generalize hpre:(([SO0,SO1,SO2].take i).flatMap fun s=>(useS nm n s).flatMap both)=pre at *;have hall:∀c∈us++fs,c∈so:=hus;rw[<- euse] at hul;refine .inl ⟨D5,rfl,⟨_,SqL.of h6⟩,?_⟩;refine q1z (xs:=vC (us++fs)) (fun j σ' H'=>∃x7,σ'=[some (.str (mk n)),some (.ref L),some (.ref M),some (.str (mk so)),some (.ref D1),some (.ref D2),some (.ref D3),x7]/\Same H H'/\H' D5=some (.lst (vC (us++fs)))/\H' M=some (.lst (vC (pre++((us++fs).take j).flatMap both)))/\(((us++fs).take j).flatMap both).length<=2*j) ⟨_,rfl,sA,h6,by rw[Hi];show _=some (HO.lst (vC (pre++[])));rw[By];exact hM6,Au _⟩ (fun j σ' H' _ x=>by obtain⟨_,_,_,x,_⟩:=x;exact SqL.of x) ?_ ?_
   ·rintro j v σ' H7 hv ⟨x7',rfl,s7,h7,hM7,hl7⟩;rw[Bg] at hv;obtain⟨c,hci,rfl⟩:=Bm.mp hv;have hj:=(Aj.mp hci).1;have hcs:=hall c (As hci);have hcl:c<128:=q4t c (hsn c hcs).1;have hpl:(vC (pre++((us++fs).take j).flatMap both)).length<=500:=by
     rw[Ad,Ac];rw[Ac] at hj;rw[Ad,Ad] at hlu;lia
    refine⟨_,rfl,.inl ⟨rfl,_,SqL.of hM7⟩,_,rfl,M,_,_,rfl,rfl,hM7,small' (by lia),?_⟩;have hM8:upd H7 M (.lst (vC (pre++((us++fs).take j).flatMap both)++[.str (mk [c])])) M=some (.lst (vC (pre++((us++fs).take j).flatMap both)++[.str (mk [c])])):=q0e;have s8:=s7.put (o:=.lst (vC (pre++((us++fs).take j).flatMap both)++[.str (mk [c])])) hMH;have h8:upd H7 M (.lst (vC (pre++((us++fs).take j).flatMap both)++[.str (mk [c])])) D5=some (.lst (vC (us++fs))):=by rw[q0m h5M];exact h7
    generalize upd H7 M (.lst (vC (pre++((us++fs).take j).flatMap both)++[.str (mk [c])]))=H8 at hM8 s8 h8;have etk:=q6e (f:=both) hci;refine⟨_,rfl,rfl,_,rfl,rfl,by show 3*1<=_;exact small (by lia),?_⟩;rw[show Jn (mk [c])=⟨#[up1 c]⟩ from z1m hcl];refine⟨_,rfl,.inl ⟨rfl,_,rfl,?_⟩⟩;have ed:decide (V.str (⟨#[up1 c]⟩:Str)=V.str (mk [c]))=decide (up1 c=c):=decide_eq_decide.mpr ⟨fun z=>by injection z with z;injection z with z;injection z with z;injection z,fun z=>by rw[z]⟩;rw[ed];cases hb:decide (up1 c=c) with
    |true =>
     have eb:both c=[c]:=by unfold both;rw[if_pos (of_decide_eq_true hb)]
     refine iteF ⟨_,rfl,s8,h8,?_,by rw[etk,eb,Ac];show _+1<=_;lia⟩;rw[hM8,etk,eb,<- Cf,z2q (_++_) [c]];rfl
    |false =>
     have eb:both c=[c,up1 c]:=by unfold both;rw[if_neg (of_decide_eq_false hb)]
     refine iteT ⟨_,rfl,.inl ⟨rfl,_,SqL.of hM8⟩,_,rfl,rfl,_,rfl,rfl,by show 3*1<=_;exact small (by lia),?_⟩;rw[show Jn (mk [c])=⟨#[up1 c]⟩ from z1m hcl];refine⟨M,_,_,rfl,rfl,hM8,small' (by rw[Ac];show _+1<=_;lia),?_⟩;refine⟨_,rfl,s8.put hMH,by rw[q0m h5M];exact h8,?_,by rw[etk,eb,Ac];show _+2<=_;lia⟩;rw[q0e,etk,eb,<- Cf,z2q (_++_) [c,up1 c],Cf];rfl
   ·rintro σ' H7 ⟨x7',rfl,s7,h7,hM7,hl7⟩;rw[Ad,Cq] at hM7 hl7;have etk:=q6e (f:=fun s=>(useS nm n s).flatMap both) hso;rw[hpre] at etk;refine⟨_,_,_,_,_,rfl,s7,?_,?_⟩
    ·rw[hM7,etk,euse]
    ·rw[etk,euse,Ac];rw[<- euse] at hl7;rw[euse] at hl7 hul;lia
  ·rintro σ' H' ⟨x3,x4,x5,x6,x7,rfl,s1,h1,_⟩;exact⟨_,rfl,k M _ hM s1 h1⟩
end
end K
set_option maxHeartbeats 4000000
namespace K
open PySem L2 TX
section
variable{P:Program}{w:World}{K:Ae}{mg:Str->Option Value}{base:Heap}
def longer(nm:List Nat)(ns:List (List Nat)):List (List Nat):=ns.flatMap fun n=>(nm++otherS nm n).map fun c=>n++[c]
def lev(nm:List Nat):Nat->List (List Nat)
 |0=>[[]]
 |k+1=>longer nm (lev nm k)
theorem z6p:∀{a b:List Nat},a.Nodup->(∀c∈a,c∈b)->a.length<=b.length
 |[],_,_,_=>Au _
 |x::r,b,nd,h=>by
  obtain⟨n1,n2⟩:=Gr.mp nd;have hx:=h x Ai;have:=z6p (a:=r) (b:=b.erase x) n2 fun c hc=>(List.mem_erase_of_ne (fun z=>n1 (by rw[<- z];exact hc))).mpr (h c (Ah _ hc))
  rw[List.length_erase_of_mem hx] at this;have:=List.length_pos_of_mem hx;rw[Ar];lia
theorem so_nd:∀s∈[SO0,SO1,SO2],s.Nodup:=by decide +kernel
theorem z8y{nm n s:List Nat}(h:s.Nodup):(useS nm n s).length<=n.length+1:=by
 unfold useS;rw[Ac,Bv];have h1:((freeS nm s).filter fun c=>decide (c∈n.map lo1)).length<=(n.map lo1).length:=z6p ((h.filter _).filter _) fun c hc=>of_decide_eq_true (Bp.mp hc).2;rw[Ad] at h1;lia
theorem z8z(c:Nat):(both c).length<=2:=by unfold both;split<;>simp
theorem q7b{α β:Type}{l:List α}{f:α->List β}{m:Nat}(h:∀x∈l,(f x).length<=m):(l.flatMap f).length<=l.length*m:=by
 induction l with
 |nil=>exact Au _
 |cons a r ih =>
  have h1:=h a Ai;have h2:=ih fun x hx=>h x (Ah _ hx);rw[List.flatMap_cons,Ac,Ar,Nat.succ_mul];lia
theorem q7c(nm n:List Nat):(otherS nm n).length<=6*(n.length+1):=by
 have h1:∀s∈[SO0,SO1,SO2],((useS nm n s).flatMap both).length<=(n.length+1)*2:=fun s hs=>by
  have h2:=q7b (l:=useS nm n s) (f:=both) (m:=2) fun c _=>z8z c;have h3:=z8y (nm:=nm) (n:=n) (so_nd s hs);have h4:(useS nm n s).length*2<=(n.length+1)*2:=Eo _ h3;lia
 have:=q7b (l:=[SO0,SO1,SO2]) h1;unfold otherS;have e:[SO0,SO1,SO2].length=3:=rfl;rw[e] at this;lia
theorem q7d{nm:List Nat}(h:∀c∈nm,c∈NS):∀(k:Nat),∀n∈lev nm k,n.length=k/\∀c∈n,c∈NS
 |0,n,hn=>by
  rw[Al.mp hn];exact⟨rfl,(fun _ h=>nomatch h)⟩
 |k+1,n,hn=>by
  obtain⟨m,hm,hn⟩:=Dw.mp hn;obtain⟨c,hc,rfl⟩:=Bt.mp hn;obtain⟨h1,h2⟩:=q7d h k m hm;refine⟨by rw[Ac,h1];rfl,fun d hd=>?_⟩;rcases Aw.mp hd with hd|hd
  ·exact h2 d hd
  ·rw[Al.mp hd];exact(Aw.mp hc).elim (h c) (z6o c)
theorem x2a{nm:List Nat}{ns:List (List Nat)}{k:Nat}(h:∀n∈ns,n.length=k):(longer nm ns).length<=ns.length*(nm.length+6*(k+1)):=q7b fun n hn=>by
 rw[Ad,Ac];have:=q7c nm n;rw[h n hn] at this;lia
theorem x2b{nm:List Nat}(h:∀c∈nm,c∈NS)(hl:nm.length<=65){mo:Nat}(hm:mo<=4)(hb:(nm.length+4)^mo<=1000):∀k,k<=mo->(lev nm k).length<=50000:=by
 have st:∀k,(lev nm (k+1)).length<=(lev nm k).length*(nm.length+6*(k+1)):=fun k=>x2a fun n hn=>(q7d h k n hn).1;have z0:(lev nm 0).length=1:=rfl;have s0:=st 0;have s1:=st 1;have s2:=st 2;have s3:=st 3;generalize nm.length=m at *;generalize (lev nm 0).length=a0 at *;have big:∀x,x<=m->(x+4)^mo<=1000:=fun x hx=>Ap (Nat.pow_le_pow_left (by lia) _) hb;have step:∀{a b x c d:Nat},b<=a*x->a<=c->x<=d->b<=c*d:=fun h1 h2 h3=>Ap h1 (Nat.mul_le_mul h2 h3);intro k hk;have hmo:mo=0\/mo=1\/mo=2\/mo=3\/mo=4:=by lia
 have hk4:k=0\/k=1\/k=2\/k=3\/k=4:=by lia
 have t1:mo=1\/m<=27\/mo=0:=by
  rcases hmo with e|e|e|e|e
  ·exact .inr (.inr e)
  ·exact .inl e
  all_goals
   refine .inr (.inl (Dx fun z=>?_));have:=big 28 (by lia);rw[e] at this;exact absurd this (by decide)
 have t2:mo<=2\/m<=6:=by
  rcases hmo with e|e|e|e|e
  ·exact .inl (by lia)
  ·exact .inl (by lia)
  ·exact .inl (by lia)
  all_goals
   refine .inr (Dx fun z=>?_);have:=big 7 (by lia);rw[e] at this;exact absurd this (by decide)
 have t3:mo<=3\/m<=1:=by
  rcases hmo with e|e|e|e|e
  ·exact .inl (by lia)
  ·exact .inl (by lia)
  ·exact .inl (by lia)
  ·exact .inl (by lia)
  ·refine .inr (Dx fun z=>?_);have:=big 2 (by lia);rw[e] at this;exact absurd this (by decide)
 rcases hk4 with rfl|rfl|rfl|rfl|rfl
 ·show(lev nm 0).length<=_;exact(by decide:(1:Nat)<=50000)
 ·have:=step s0 (Di z0) (show m+6*(0+1)<=71 by lia);exact Ap this (by decide)
 ·have hm27:m<=27:=by lia
  have a1:=step s0 (Di z0) (show m+6*(0+1)<=33 by lia);have:=step s1 a1 (show m+6*(1+1)<=39 by lia);exact Ap this (by decide)
 ·have hm6:m<=6:=by lia
  have a1:=step s0 (Di z0) (show m+6*(0+1)<=12 by lia);have a2:=step s1 a1 (show m+6*(1+1)<=18 by lia);have:=step s2 a2 (show m+6*(2+1)<=24 by lia);exact Ap this (by decide)
 ·have hm1:m<=1:=by lia
  have a1:=step s0 (Di z0) (show m+6*(0+1)<=7 by lia);have a2:=step s1 a1 (show m+6*(1+1)<=13 by lia);have a3:=step s2 a2 (show m+6*(2+1)<=19 by lia);have:=step s3 a3 (show m+6*(3+1)<=25 by lia);exact Ap this (by decide)
structure CallsLg (P:Program) (w:World) (K:Ae) (mg:Str->Option Value) (base:Heap):Prop where
 other_signs:Cal P w K mg base "other_signs" 1 ["name", "named"] (spOtherS K)
def spLonger:Sp:=fun vs H Q _=>∃L M nm ns,vs=[.ref L,.ref M]/\H L=some (.lst (vN ns))/\H M=some (.lst (vC nm))/\(∀n∈ns,n.length<=11/\∀c∈n,c∈NS)/\nm.length<=65/\(longer nm ns).length<=100000/\∀N H',H N=none->Same H H'->H' N=some (.lst (vN (longer nm ns)))->Q (.ref N) H'
theorem z9a{α β:Type}{l:List α}{f:α->List β}{i:Nat}:((l.take i).flatMap f).length<=(l.flatMap f).length:=by
 have e:l.flatMap f=(l.take i).flatMap f++(l.drop i).flatMap f:=by rw[<- Mr,Fs]
 rw[e,Ac];lia
theorem x0f(a b:List (List Nat)):vN (a++b)=vN a++vN b:=Ax
abbrev q2g:Stmt:=top 60
theorem q6f:FnScope ["names", "named"] ["names", "named"] (defScope q2g):=by trivial
set_option maxHeartbeats 40000000 in
theorem z6q(D:Df K mg "longer_names" q2g ["names", "named"])(T:Txt mg)(C:CallsLg P w K mg base):Cal P w K mg base "longer_names" 2 ["names", "named"] spLonger:=by
 refine D.cal q6f (fun vs H Q E h=>?_) (fun f cdv A outer s H vs Q E hr h=>?_)
 ·obtain⟨L,M,nm,ns,rfl,_⟩:=h;rfl
 ·obtain⟨L,M,nm,ns,rfl,hL,hM,hns,hnm,hlen,k⟩:=h;refine⟨_,(q0d (q0l (z5v ["name", "sign"] [("named",1)] rfl (@q2y _ _ _ _ K rfl (pv 0)) (fun _ _ _ _ _=>(q0k (i:=0) (show(["name", "sign", "named"]:List Str).Nodup by decide +kernel) rfl (by trivial))) (fun _ _ _ _ _=>(@q2y _ _ _ _ K rfl (q0s q0n (pv 2) (pe_c C.other_signs hr (q0a (pv 0) (q0a (pv 2) q0c)))))) (fun _ _ _ _ _=>(q0k (i:=1) (show(["name", "sign", "named"]:List Str).Nodup by decide +kernel) rfl (by trivial))) (fun _ _ _ _ _=>(q0s q0n (pv 0) (pv 1)))))),?_⟩;refine⟨_,rfl,.inl ⟨L,rfl,⟨_,SqL.of hL⟩,fun D hD=>?_⟩⟩;refine z3y (xs:=vN ns) (fun i ys H'=>ys=vN (longer nm (ns.take i))/\Same H H'/\H' D=some (.lst ys)) ⟨rfl,(Same.refl H).new hD,q0e⟩ (fun i ys H' x=>⟨x.2.2,SqL.of (x.2.1 _ _ hL)⟩) ?_ ?_
  ·rintro i ys H1 v hv ⟨rfl,s1,h1⟩;rw[Bg] at hv;obtain⟨n,hn,rfl⟩:=Bm.mp hv;obtain⟨n1,n2⟩:=hns n (As hn);refine⟨q1o,_,rfl,_,rfl,_,rfl,M,nm,n,rfl,s1 _ _ hM,by lia,fun c hc=>q4t c (n2 c hc),fun O H2 hO s2 h2=>?_⟩;have hM2:=s2 _ _ (s1 _ _ hM);have hol:=q7c nm n;have hD2:=s2 _ _ h1;refine .inr (.inr ⟨M,O,_,_,rfl,rfl,hM2,h2,small (by rw[Ad,Ad];lia),fun G hG=>?_⟩);have s3:=(Same.refl H2).new (o:=.lst (vC nm++vC (otherS nm n))) hG;have h3:upd H2 G (.lst (vC nm++vC (otherS nm n))) G=some (.lst (vC (nm++otherS nm n))):=by rw[q0e,z2q]
   generalize upd H2 G (.lst (vC nm++vC (otherS nm n)))=H3 at s3 h3;have hGD:G≠D:=fun z=>by rw[<- z,hG] at hD2;cases hD2
   have s13:=(s1.trans s2).trans s3;have etk:=q6e (f:=fun n=>(nm++otherS nm n).map fun c=>n++[c]) hn;have hpre:=z9a (l:=ns) (f:=fun n=>(nm++otherS nm n).map fun c=>n++[c]) (i:=i+1);rw[etk,Ac,Ad] at hpre;have hpre:(longer nm (ns.take i)).length+(nm++otherS nm n).length<=100000:=Ap hpre hlen;have etk:longer nm (ns.take (i+1))=longer nm (ns.take i)++(nm++otherS nm n).map fun c=>n++[c]:=etk;rw[etk];generalize nm++otherS nm n=cs at h3 hpre;generalize longer nm (ns.take i)=pre at h1 hD2 hpre;refine .inl ⟨G,rfl,⟨_,SqL.of h3⟩,?_⟩;refine z8j (xs2:=vC cs) (fun j ys H'=>ys=vN (pre++(cs.take j).map fun c=>n++[c])/\Same H H'/\H' D=some (.lst ys)/\H' G=some (.lst (vC cs))) ⟨by rw[Hi];show _=vN (pre++[]);rw[By],s13,s3 _ _ hD2,h3⟩ (fun j ys H' x=>SqL.of x.2.2.2) ?_ ?_
   ·rintro j ys H4 x hx ⟨rfl,s4,h4,h4'⟩;rw[Bg] at hx;obtain⟨c,hc,rfl⟩:=Bm.mp hx;have hj:=(Aj.mp hc).1;refine⟨z3x,_,rfl,_,rfl,.inr (.inl ⟨_,_,rfl,rfl,by rw[q0o,q0o];exact small (by show _+1<=_;lia),?_⟩)⟩;rw[q2v];refine⟨h4,small' (by rw[Ad,Ac,Ad,Bv];lia),?_,s4.put hD,q0e,by rw[q0m hGD];exact h4'⟩;rw[q0z hc,Ax,<- Cf,x0f (_++_)];rfl
   ·rintro ys H4 ⟨rfl,s4,h4,h4'⟩;rw[Ad,Cq] at h4 ⊢;exact⟨rfl,s4,h4⟩
  ·rintro ys H1 ⟨rfl,s1,h1⟩;rw[Ad,Cq] at h1;exact k D _ hD s1 h1
end
end K
set_option maxHeartbeats 4000000
namespace K
open PySem L2 TX
section
variable{P:Program}{w:World}{K:Ae}{mg:Str->Option Value}{base:Heap}
def dO:Option (List (List Nat))->PyData
 |none=>.none
 |some ts=>.tuple ((ts.map mk).map PyData.str)
theorem z2r:∀a b:List (List Nat),Ec ((a.map mk).map PyData.str) ((b.map mk).map PyData.str)=decide (a=b)
 |[],[]=>by simp[Ec]
 |[],b::bs=>by simp[Ec]
 |a::as,[]=>by simp[Ec]
 |a::as,b::bs=>by
  have ih:=z2r as bs;rw[Ay,Ay,Ay,Ay];simp only[Ec,De,ih];rw[show(mk a==mk b)=decide (a=b) from Fe.mpr (by
   rw[beq_iff_eq,decide_eq_true_iff];exact⟨fun z=>by have:=congrArg tl z;rwa [q0v,q0v] at this,fun z=>by rw[z]⟩),<- Bool.decide_and]
  exact decide_eq_decide.mpr ⟨fun⟨x,y⟩=>by rw[x,y],fun z=>by injection z with z1 z2;exact⟨z1,z2⟩⟩
theorem x0g(a b:Option (List (List Nat))):De (dO a) (dO b)=decide (a=b):=by
 cases a with
 |none=>cases b with
  |none=>simp[dO,De]
  |some y=>simp[dO,De]
 |some x=>cases b with
  |none=>simp[dO,De]
  |some y =>
   simp only[dO,De,z2r];exact decide_eq_decide.mpr ⟨fun z=>by rw[z],fun z=>Bq z⟩
theorem z2s:∀{ls:List (List Nat)},(∀x∈ls,∀c∈x,c<128)->Ka ((ls.map mk).map PyData.str)=true
 |[],_=>rfl
 |a::r,h=>by
  rw[Ay,Ay];simp only[Ka,Md,q5a (h a Ai),z2s (ls:=r) fun x hx=>h x (Ah _ hx),Du]
theorem z2t{o:Option (List (List Nat))}(h:∀ts,o=some ts->∀t∈ts,∀c∈t,c<128):(dO o).canLay0=true:=by
 cases o with
 |none=>rfl
 |some ts =>
  simp only[dO,Md];exact z2s (h ts rfl)
theorem z2u:∀ls:List (List Nat),Fi ((ls.map mk).map PyData.str)<=1
 |[]=>by simp[Fi]
 |a::r=>by
  have:=z2u r;rw[Ay,Ay];simp only[Fi,Hg];lia
theorem x0h(o:Option (List (List Nat))):(dO o).depth<=100:=by
 cases o with
 |none=>simp[dO,Hg]
 |some ts =>
  have:=z2u ts;simp only[dO,Hg];lia
theorem z2v{H:Hp}:∀xs:List Str,Dts K H (xs.map V.str) (xs.map PyData.str)
 |[]=>.nil
 |x::xs=>.cons (.str x) (z2v xs)
structure VT (K:Ae) (H:Hp) (v:V) (o:Option (List (List Nat))):Prop where
 dt:Dt K H v (dO o)
 lo:∀ts,o=some ts->∀t∈ts,∀c∈t,c<128
theorem q8n{H H':Hp}{v:V}{o:Option (List (List Nat))}(e:(o=none/\v=.non)\/∃ts T,o=some ts/\v=.ref T/\H T=some (.tup (vN ts)))(l:∀ts,o=some ts->∀t∈ts,∀c∈t,c<128)(s:Same H H'):VT K H' v o:=by
 refine⟨?_,l⟩;rcases e with⟨rfl,rfl⟩|⟨ts,T,rfl,rfl,h⟩
 ·exact .non
 ·refine .tup (SqT.of (s _ _ h)) ?_;have e:vN ts=(ts.map mk).map V.str:=by rw[Cw];rfl
  rw[e];exact z2v _
theorem z9b{H:Hp}{Q:VK}{E:XK}{R:Addr}{r:RD}{n:List Nat}(ru:CRule K H R r)(hn:n.length<=12/\∀c∈n,c∈NS)(k:∀v H',Same H H'->((tellO r n 0=none/\v=.non)\/∃ts T,tellO r n 0=some ts/\v=.ref T/\H' T=some (.tup (vN ts)))->(∀ts,tellO r n 0=some ts->∀t∈ts,∀c∈t,c<128)->Q v H'):spTells K [.ref R,.str (mk n),.int 0] H Q E:=by
 have lo:∀ts,tellO r n 0=some ts->∀t∈ts,∀c∈t,c<128:=fun ts h t ht c hc=>q4t c (((q8k ru.ok hn (by decide) h).2.2 t ht).2 c hc);refine⟨R,r.kd,r.l,r.qs,_,n,0,rfl,ru.at_,hn.1,fun t ht c hc=>q4t c (hn.2 c (z2o _ _ t ht c hc)),by decide,fun hf H' s'=>?_,fun hf T H' hT s' h'=>?_⟩
 ·exact k _ _ s' (.inl ⟨by unfold tellO;rw[hf];rfl,rfl⟩) lo
 ·exact k _ _ s' (.inr ⟨_,T,by unfold tellO;rw[hf];rfl,rfl,h'⟩) lo
def spTl(K:Ae):Sp:=fun vs H Q _=>∃R r n,vs=[.ref R,.str (mk n),.int 0]/\CRule K H R r/\(n.length<=12/\∀c∈n,c∈NS)/\∀v H',Same H H'->((tellO r n 0=none/\v=.non)\/∃ts T,tellO r n 0=some ts/\v=.ref T/\H' T=some (.tup (vN ts)))->(∀ts,tellO r n 0=some ts->∀t∈ts,∀c∈t,c<128)->Q v H'
theorem z0l(M:Cal P w K mg base "tells" 8 ["rule", "name", "count"] (spTells K)):Cal P w K mg base "tells" 8 ["rule", "name", "count"] (spTl K):=by
 obtain⟨f,fd,F,r⟩:=M.ex;exact⟨f,fd,F.imp fun vs H Q E h=>by
  obtain⟨R,r,n,rfl,ru,hn,k⟩:=h;exact z9b ru hn k,r⟩
structure CallsCp (P:Program) (w:World) (K:Ae) (mg:Str->Option Value) (base:Heap):Prop where
 ask_rule:Cal P w K mg base "ask_rule" 7 ["rule"] (spAskRule K)
 ask_pieces:Cal P w K mg base "ask_pieces" 7 ["rule"] (spAP K)
 signs_of:Cal P w K mg base "signs_of" 8 ["one", "other"] (spSignsOf K)
 ask_bound:Cal P w K mg base "ask_bound" 1 ["many", "most"] spBound
 longer_names:Cal P w K mg base "longer_names" 2 ["names", "named"] spLonger
 tells:Cal P w K mg base "tells" 8 ["rule", "name", "count"] (spTl K)
def nmO(r q:RD):List Nat:=nmd (txO r++txO q)
def spCpd(K:Ae):Sp:=fun vs H Q _=>∃R S r q,∃mo:Nat,vs=[.ref R,.ref S,.int (mo:Int)]/\CRule K H R r/\CRule K H S q/\mo<=4/\((nmO r q).length+4)^mo<=1000 /\
 ((∀(k:Nat) (n:List Nat),k<mo->n∈lev (nmO r q) (k+1)->tellO r n 0=tellO q n 0)->∀T H',H T=none->Same H H'->H' T=some (.tup [.str (Aa "same")])->Q (.ref T) H') /\
 ∀(k i:Nat) (n:List Nat),k<mo->(lev (nmO r q) (k+1))[i]?=some n->tellO r n 0≠tellO q n 0->(∀(j:Nat) (m:List Nat),j<k->m∈lev (nmO r q) (j+1)->tellO r m 0=tellO q m 0)->(∀(j:Nat) (m:List Nat),j<i->(lev (nmO r q) (k+1))[j]?=some m->tellO r m 0=tellO q m 0)->∀T H',H T=none->Same H H'->H' T=some (.tup [.str (Aa "parted"),.str (mk n)])->Q (.ref T) H'
theorem z2w{t:List Nat}:∀c∈nmd t,c∈NS:=fun c hc=>(Bp.mp hc).1
theorem x2c{t:List Nat}:(nmd t).length<=65:=by
 have:=Cs (fun c=>decide (lo1 c∈t.map lo1)) NS;rw[x0e] at this;exact this
abbrev q3z:Stmt:=top 61
theorem sc_compared:FnScope ["one", "other", "most", "named", "names", "length", "name"] ["one", "other", "most"] (defScope q3z):=by trivial
set_option maxHeartbeats 40000000 in
theorem z1n(D:Df K mg "compared" q3z ["one", "other", "most"])(T:Txt mg)(C:CallsCp P w K mg base):Cal P w K mg base "compared" 9 ["one", "other", "most"] (spCpd K):=by
 refine D.cal sc_compared (fun vs H Q E h=>?_) (fun f cdv A outer s H vs Q E hr h=>?_)
 ·obtain⟨R,S,r,q,mo,rfl,_⟩:=h;rfl
 ·obtain⟨R,S,r,q,mo,rfl,ru,sq,hmo,hbd,kS,kP⟩:=h;refine⟨_,(q0b (q0x (pe_c C.ask_rule hr (q0a (pv 0) q0c))) (q0b (q0x (pe_c C.ask_rule hr (q0a (pv 1) q0c))) (q0b (q0x (pe_c C.ask_pieces hr (q0a (pv 0) q0c))) (q0b (q0x (pe_c C.ask_pieces hr (q0a (pv 1) q0c))) (q0b (q0j (i:=3) sc_compared.nd rfl (by trivial) (pe_c C.signs_of hr (q0a (pv 0) (q0a (pv 1) q0c)))) (q0b (q0x (pe_c C.ask_bound hr (q0a (q0y (q3o K rfl) (by rfl) T.b_len Cc (q0a (pv 3) q0c)) (q0a (pv 2) q0c)))) (q0b (q0j (i:=4) sc_compared.nd rfl (by trivial) (q1t (q0a q0h q0c))) (q0b (q1h Bd rfl (q1v rfl T.b_range (q0a (pv 2) q0c)) (q0k (i:=5) sc_compared.nd rfl (by trivial)) (q0b (q0j (i:=4) sc_compared.nd rfl (by trivial) (pe_c C.longer_names hr (q0a (pv 4) (q0a (pv 3) q0c)))) (q0d (q1h Bd rfl (@q2y _ _ _ _ K rfl (pv 4)) (q0k (i:=6) sc_compared.nd rfl (by trivial)) (q0d (q0u (q0g (ne_k K rfl hr) (pe_c C.tells hr (q0a (pv 0) (q0a (pv 6) (q0a q0f q0c)))) (pe_c C.tells hr (q0a (pv 1) (q0a (pv 6) (q0a q0f q0c)))) (nomark _)) (q0d (q0l (q0w (q0a q0h (q0a (pv 6) q0c))))) q0i)))))) (q0d (q0l (q0w (q0a q0h q0c)))))))))))),?_⟩;refine⟨_,rfl,R,_,_,_,_,rfl,ru.at_,fun H1 s1=>?_⟩;refine⟨_,rfl,S,_,_,_,_,rfl,sq.at_.same s1,fun H2 s2=>?_⟩;have s12:=s1.trans s2;refine⟨_,rfl,R,r,rfl,ru.same s12,fun H3 s3=>?_⟩;have s13:=s12.trans s3;refine⟨_,rfl,S,q,rfl,sq.same s13,fun H4 s4=>?_⟩;have s14:=s13.trans s4;refine⟨_,rfl,_,rfl,R,S,r,q,rfl,ru.same s14,sq.same s14,fun L H5 hL s5 h5=>?_⟩;have s15:=s14.trans s5;have hns:∀c∈nmO r q,c∈NS:=z2w;have hnf:(nmO r q).length<=65:=x2c;have h5:H5 L=some (.lst (vC (nmO r q))):=h5;generalize nmO r q=nm at *;refine⟨_,rfl,_,_,rfl,.inl ⟨_,SqL.of h5,rfl⟩,_,rfl,nm.length,mo,by rw[Ad];rfl,hmo,by lia,hbd,?_⟩;refine⟨by show 1<=sizeLine;decide,fun N hN=>?_⟩;have s6:=(Same.refl H5).new (o:=.lst [.str (Aa "")]) hN;have h6:upd H5 N (.lst [.str (Aa "")]) N=some (.lst (vN (lev nm 0))):=q0e;have h6L:=s6 _ _ h5;generalize upd H5 N (.lst [.str (Aa "")])=H6 at s6 h6 h6L;have s16:=s15.trans s6;have few:=x2b hns hnf hmo hbd;refine⟨_,rfl,(mo:Int),rfl,by lia,by lia,q1w (n:=mo) (fun i σ' H'=>∃N x5 x6,σ'=[some (.ref R),some (.ref S),some (.int (mo:Int)),some (.ref L),some (.ref N),x5,x6]/\Same H H'/\H' L=some (.lst (vC nm))/\H' N=some (.lst (vN (lev nm i)))/\∀j m,j<i->m∈lev nm (j+1)->tellO r m 0=tellO q m 0) ⟨N,none,none,rfl,s16,h6L,h6,fun j m hj=>absurd hj (by lia)⟩ ?_ ?_⟩
  ·rintro i σ' H7 hi ⟨N,x5,x6,rfl,s7,h7L,h7N,heq⟩;have lo:=q7d hns i;refine⟨_,rfl,_,rfl,N,L,nm,lev nm i,rfl,h7N,h7L,fun n hn=>⟨by have:=(lo n hn).1;lia,(lo n hn).2⟩,hnf,Ap (few (i+1) (by lia)) (by decide),fun N2 H8 hN2 s8 h8=>?_⟩;have h8:H8 N2=some (.lst (vN (lev nm (i+1)))):=h8;have s78:=s7.trans s8;have lo1':=q7d hns (i+1);refine⟨_,rfl,.inl ⟨N2,rfl,⟨_,SqL.of h8⟩,?_⟩⟩;refine q1z (xs:=vN (lev nm (i+1))) (fun j σ' H'=>∃x5 x6,σ'=[some (.ref R),some (.ref S),some (.int (mo:Int)),some (.ref L),some (.ref N2),x5,x6]/\Same H8 H'/\∀j' m,j'<j->(lev nm (i+1))[j']?=some m->tellO r m 0=tellO q m 0) ⟨_,_,rfl,Same.refl _,fun j' m hj=>absurd hj (by lia)⟩ (fun j σ' H' _ x=>by obtain⟨_,_,_,s',_⟩:=x;exact SqL.of (s' _ _ h8)) ?_ ?_
   ·rintro j v σ' H9 hv ⟨y5,y6,rfl,s9,hej⟩;rw[Bg] at hv;obtain⟨n,hn,rfl⟩:=Bm.mp hv;obtain⟨n1,n2⟩:=lo1' n (As hn);have s89:=s78.trans s9;refine⟨_,rfl,_,rfl,R,r,n,rfl,ru.same s89,⟨by lia,n2⟩,fun v1 HA sA e1 l1=>?_⟩;refine⟨_,rfl,_,rfl,S,q,n,rfl,sq.same (s89.trans sA),⟨by lia,n2⟩,fun v2 HB sB e2 l2=>?_⟩;have V1:=q8n (K:=K) e1 l1 sB;have V2:=q8n (K:=K) e2 l2 (Same.refl HB);refine .inr ⟨_,_,V1.dt,V2.dt,z2t l1,z2t l2,Ap (Pa _ _) (x0h _),_,rfl,?_⟩;rw[x0g];have sAB:=s9.trans (sA.trans sB);refine ite2 (fun h=>?_) (fun h=>?_)
    ·have hne:tellO r n 0≠tellO q n 0:=fun z=>by rw[decide_eq_true z] at h;cases h
     refine⟨_,rfl,by show 2<=sizeLine;decide,fun T1 hT1=>?_⟩;exact kP i j n hi hn hne heq hej T1 _ ((s78.trans sAB).free hT1) ((s78.trans sAB).new hT1) q0e
    ·have heqn:tellO r n 0=tellO q n 0:=Dx fun z=>h (by rw[decide_eq_false z];rfl);refine⟨_,_,rfl,sAB,fun j' m hj' hm=>?_⟩;rcases Ew.mp hj' with hj'|rfl
     ·exact hej j' m hj' hm
     ·rw[hn] at hm;cases hm;exact heqn
   ·rintro σ' H9 ⟨y5,y6,rfl,s9,hej⟩;rw[Ad] at hej;refine⟨N2,_,_,rfl,s78.trans s9,s9 _ _ (s8 _ _ h7L),s9 _ _ h8,fun j m hj hm=>?_⟩;rcases Ew.mp hj with hj|rfl
    ·exact heq j m hj hm
    ·obtain⟨t,ht,e⟩:=Ic.mp hm |>.imp fun t e=>(⟨(Aj.mp e).1,e⟩:t<(lev nm (j+1)).length/\_)
     exact hej t m ht e
  ·rintro σ' H7 ⟨N,x5,x6,rfl,s7,h7L,h7N,heq⟩;refine⟨by show 1<=sizeLine;decide,fun T1 hT1=>?_⟩;exact kS (fun k n hk hn=>heq k n hk hn) T1 _ (s7.free hT1) (s7.new hT1) q0e
end
end K
set_option maxHeartbeats 4000000
set_option maxHeartbeats 4000000
namespace K
open PySem L2 TX
section
variable{P:Program}{w:World}{K:Ae}{mg:Str->Option Value}{base:Heap}
def addN(ks:List Nat)(c:Nat):List Nat:=if c∈ks then ks else ks++[c]
abbrev kvN(ks:List Nat):List (Key×V):=ks.map fun c=>((Sum.inr (mk [c]):Key),V.bl true)
theorem x2d{a b:Nat}(h:(Sum.inr (mk [a]):Key)=Sum.inr (mk [b])):a=b:=by
 injection h with h;have:=congrArg tl h;rw[q0v,q0v] at this;injection this
theorem q8o(ks:List Nat)(c:Nat):putK (kvN ks) (Sum.inr (mk [c])) (.bl true)=kvN (addN ks c):=by
 unfold putK addN;by_cases h:c∈ks
 ·have hany:((kvN ks).any fun kv=>decide (kv.1=Sum.inr (mk [c])))=true:=Ku.mpr ⟨(Sum.inr (mk [c]),V.bl true),Bt.mpr ⟨c,h,rfl⟩,decide_eq_true rfl⟩;rw[if_pos h,if_pos hany,Cw];refine Ed fun a ha=>?_;show(if (Sum.inr (mk [a]):Key)=Sum.inr (mk [c]) then((Sum.inr (mk [a]):Key),V.bl true) else _)=_;split<;>rfl
 ·rw[if_neg h,if_neg (fun z=>?_)]
  ·show _=(ks++[c]).map _;rw[Ax];rfl
  ·obtain⟨kv,h1,h2⟩:=Ku.mp z;obtain⟨a,ha,rfl⟩:=Bt.mp h1;have:=x2d (of_decide_eq_true h2);exact h (this▸ha)
theorem q8p{ks:List Nat}{c:Nat}:c∈addN ks c:=by
 unfold addN;split
 ·assumption
 ·simp
theorem q2j{ks:List Nat}{c x:Nat}(h:x∈ks):x∈addN ks c:=by
 unfold addN;split
 ·exact h
 ·exact Bu _ h
theorem q8q{ks:List Nat}{c:Nat}:(addN ks c).length<=ks.length+1:=by
 unfold addN;split
 ·lia
 ·rw[Ac];exact Af _
def insS(b:Bool)(c:Nat):Bool:=(b||decide (c=123)) && !decide (c=125)
def insB(w:List Nat):Bool:=w.foldl insS false
theorem z6r(w:List Nat)(c:Nat):insB (w++[c])=insS (insB w) c:=by unfold insB;rw[Fp];rfl
theorem q6g:∀(t:List Nat),(∀c∈t,c≠123)->t.foldl insS false=false
 |[],_=>rfl
 |c::r,h=>by
  rw[Dn];have e:insS false c=false:=by unfold insS;rw[decide_eq_false (h c Ai)];rfl
  rw[e];exact q6g r fun x hx=>h x (Ah _ hx)
theorem x0i:∀(t:List Nat),(∀c∈t,c≠125)->t.foldl insS true=true
 |[],_=>rfl
 |c::r,h=>by
  rw[Dn];have e:insS true c=true:=by unfold insS;rw[decide_eq_false (h c Ai)];rfl
  rw[e];exact x0i r fun x hx=>h x (Ah _ hx)
theorem no3:∀c∈NS,c≠123/\c≠125/\c≠47:=by decide +kernel
theorem gs3:∀c∈GS,c≠123/\¬c∈NS:=by decide +kernel
theorem z6s{p:Pc}(ok:p.ok):p.wr.foldl insS false=false:=by
 have mark:∀body:List Nat,(∀c∈body,c≠125)->(123::(body++[125])).foldl insS false=false:=fun body h=>by
  rw[Dn,Fp,show insS false 123=true from rfl,x0i body h];rfl
 cases p with
 |tx t=>exact q6g t fun c hc=>(no3 c (ok.2 c hc)).1
 |into=>rfl
 |gap k=>exact mark [48+k] fun c hc=>by rw[Al.mp hc];have:=ok.2;lia
 |great k =>
  exact mark [48+k,117] fun c hc=>by
   rcases Am.mp hc with rfl|hc
   ·have:=ok.2;lia
   ·rw[Al.mp hc];decide
 |small k =>
  exact mark [48+k,108] fun c hc=>by
   rcases Am.mp hc with rfl|hc
   ·have:=ok.2;lia
   ·rw[Al.mp hc];decide
 |nou k w =>
  exact mark [48+k,122,48+w] fun c hc=>by
   have h1:=ok.1.2;have h2:=ok.2.2;simp only[Am,Bl,or_false] at hc;rcases hc with rfl|rfl|rfl<;>lia
 |more k m =>
  exact mark ((48+k)::43::dg m) fun c hc=>by
   have h1:=ok.1.2;rcases Am.mp hc with rfl|hc
   ·lia
   ·rcases Am.mp hc with rfl|hc
    ·decide
    ·exact(no3 c (fi_ns c (z5r m c hc))).2.1
 |cnt v =>
  have h1:=ok.2;by_cases hv:v=1
  ·subst hv;exact mark [110] fun c hc=>by rw[Al.mp hc];decide
  ·have e:cntW v=[48+v,125]:=by unfold cntW;rw[if_neg hv]
   show(123::110::cntW v).foldl insS false=false;rw[e];exact mark [110,48+v] fun c hc=>by
    rcases Am.mp hc with rfl|hc
    ·decide
    ·rw[Al.mp hc];lia
theorem z2x:∀{qs:List Pc},(∀q∈qs,q.ok)->(flatP qs).foldl insS false=false
 |[],_=>rfl
 |q::r,h=>by
  rw[q0p,Fp,z6s (h q Ai)];exact z2x fun p hp=>h p (Ah _ hp)
theorem seen{l:List Nat}{qs:List Pc}(gd:Good l)(ok:∀q∈qs,q.ok):(∀c∈l,c∈NS->∃j,(l++flatP qs)[j]?=some c/\insB ((l++flatP qs).take (j+1))=false)/\∀t,Pc.tx t∈qs->∀c∈t,∃j,(l++flatP qs)[j]?=some c/\insB ((l++flatP qs).take (j+1))=false:=by
 have lno:∀c∈l,c≠123:=fun c hc=>(gd.sg c hc).elim (fun z=>(gs3 c z).1) (fun z=>(no3 c z).1);refine⟨fun c hc _=>?_,fun t ht c hc=>?_⟩
 ·obtain⟨j,hj⟩:=Ic.mp hc;have hj':=(Aj.mp hj).1;refine⟨j,by rw[Co hj'];exact hj,?_⟩;unfold insB;rw[Iw (by lia)];exact q6g _ fun x hx=>lno x (Dz hx)
 ·obtain⟨a,b,rfl⟩:=Nk ht;obtain⟨j,hj⟩:=Ic.mp hc;have hj':=(Aj.mp hj).1;have e:l++flatP (a++Pc.tx t::b)=(l++flatP a)++(t++flatP b):=by rw[q1r,q0p];show l++(flatP a++(t++flatP b))=_;rw[Cf]
  have hb:(l++flatP a).foldl insS false=false:=by rw[Fp,q6g l lno];exact z2x fun q hq=>ok q (Bu _ hq)
  refine⟨(l++flatP a).length+j,?_,?_⟩
  ·rw[e,Cn (by lia),show(l++flatP a).length+j-(l++flatP a).length=j by lia,Co hj'];exact hj
  ·rw[e];have e2:((l++flatP a)++(t++flatP b)).take ((l++flatP a).length+j+1)=(l++flatP a)++t.take (j+1):=by
    rw[Nat.add_assoc,List.take_length_add_append,Iw (by lia)]
   unfold insB;rw[e2,Fp,hb];exact q6g _ fun x hx=>(no3 x ((ok _ ht).2 x (Dz hx))).1
theorem z6t{s:Nat}:∀l:List Nat,PC.sc s l≠[]
 |[]=>by simp[PC.sc]
 |c::l=>by
  unfold PC.sc;split
  ·simp
  ·split<;>simp
theorem x0j{s:Nat}:∀(a r:List Nat),PC.sc s (a++s::r)=PC.sc s a++PC.sc s r
 |[],r=>by
  show PC.sc s (s::r)=[[]]++PC.sc s r;rw[PC.sc,if_pos rfl];rfl
 |c::a,r=>by
  have ih:=x0j (s:=s) a r;have hne:=z6t (s:=s) a;rw[Oc,PC.sc,ih];show _=PC.sc s (c::a)++_;rw[show PC.sc s (c::a)=if c=s then[]::PC.sc s a else match PC.sc s a with | []=>[[c]]|p::q=>(c::p)::q from by rw[PC.sc]<;>rfl];split
  ·rfl
  ·cases h:PC.sc s a with
   |nil=>exact absurd h hne
   |cons p q=>rfl
theorem z6u{s:Nat}:∀{l x:List Nat},x∈PC.sc s l->x.length<=l.length
 |[],x,h=>by
  have:x=[]:=by simpa[PC.sc] using h
  rw[this];exact Af _
 |c::l,x,h=>by
  have ih:=fun{y} (hy:y∈PC.sc s l)=>z6u hy;unfold PC.sc at h;split at h
  ·rcases Am.mp h with rfl|h
   ·exact Au _
   ·exact Em (ih h)
  ·split at h
   ·rename_i e;exact absurd e (z6t l)
   ·rename_i y ys e;rw[e] at ih;rcases Am.mp h with rfl|h
    ·have:=ih (y:=y) Ai;rw[Ar,Ar];lia
    ·exact Em (ih (Ah _ h))
theorem x2e{s x y:Nat}{r:List Nat}(hx:x≠s)(hy:y≠s):∃t q,PC.sc s (x::y::r)=(x::y::t)::q:=by
 cases h:PC.sc s r with
 |nil=>exact absurd h (z6t r)
 |cons p q =>
  refine⟨p,q,?_⟩;rw[PC.sc,if_neg hx,PC.sc,if_neg hy,h]
theorem z9c:∀x∈NS,∀c∈NS,lo1 x=lo1 c->x=up1 c\/x=lo1 c:=by decide +kernel
theorem ns_nd:NS.Nodup:=by decide +kernel
theorem x2f{l:List Nat}(gd:Good l){c:Nat}(h:c∈((parse [] l).map ptx).flatten):c∈l/\c∈NS:=by
 obtain⟨t,ht,hct⟩:=Ef.mp h;obtain⟨p,hp,rfl⟩:=Bt.mp ht;have sub:∀(l cur:List Nat) (p:Pt),p∈parse cur l->∀c∈ptx p,c∈cur\/c∈l:=by
  intro l;induction l with
  |nil =>
   intro cur p hp c hc;unfold parse tp at hp;split at hp
   ·cases hp
   ·rw[Al.mp hp] at hc;exact .inl hc
  |cons d r ih =>
   intro cur p hp c hc;unfold parse at hp;split at hp
   ·rcases Aw.mp hp with z|z
    ·unfold tp at z;split at z
     ·cases z
     ·rw[Al.mp z] at hc;exact .inl hc
    ·rcases Am.mp z with rfl|z
     ·cases hc
     ·exact(ih [] p z c hc).elim (fun y=>nomatch y) fun y=>.inr (Ah _ y)
   ·rcases ih _ p hp c hc with y|y
    ·rcases Aw.mp y with y|y
     ·exact .inl y
     ·rw[Al.mp y];exact .inr Ai
    ·exact .inr (Ah _ y)
 refine⟨(sub l [] p hp c hct).elim (fun y=>nomatch y) id,?_⟩;cases p with
 |tx t=>exact(q4d l [] (fun _ h=>nomatch h) gd.sg _ hp).2 c hct
 |gp g=>cases hct
def KnR(ks:List Nat)(r:RD):Prop:=∀c∈txO r,up1 c∈ks/\lo1 c∈ks
theorem kn_nmO{ks:List Nat}{r q:RD}{R S:Addr}{H:Hp}(cr:CRule K H R r)(cq:CRule K H S q)(h1:KnR ks r)(h2:KnR ks q):(nmO r q).length<=ks.length:=by
 refine z6p (show(nmO r q).Nodup from List.Pairwise.filter _ ns_nd) fun x hx=>?_;obtain⟨hxn,hx⟩:=Bp.mp hx;obtain⟨c,hc,e⟩:=Bt.mp (of_decide_eq_true hx);have hcn:c∈NS:=(Aw.mp hc).elim (q7a cr c) (q7a cq c);have hk:up1 c∈ks/\lo1 c∈ks:=(Aw.mp hc).elim (h1 c) (h2 c);rcases z9c x hxn c hcn e.symm with rfl|rfl
 ·exact hk.1
 ·exact hk.2
structure RLs (K:Ae) (H:Hp) (L:Addr) (rs:List (Addr×RD)):Prop where
 at_:H L=some (.lst (rs.map fun x=>V.ref x.1))
 ok:∀x∈rs,CRule K H x.1 x.2
theorem RLs.same{H H':Hp}{L:Addr}{rs:List (Addr×RD)}(h:RLs K H L rs)(s:Same H H'):RLs K H' L rs:=⟨s _ _ h.at_,fun x hx=>(h.ok x hx).same s⟩
structure CallsSg (P:Program) (w:World) (K:Ae) (mg:Str->Option Value) (base:Heap):Prop where
 name_signs:Cal P w K mg base "_law_name_signs" 1 [] (spConst NSs)
def spSigns(K:Ae):Sp:=fun vs H Q _=>∃L rs,vs=[.ref L]/\RLs K H L rs/\rs.length<=10/\∀(m:Nat) H',m<=30000->(∀x∈rs,∀y∈rs,(nmO x.2 y.2).length<=m)->Same H H'->Q (.int (m:Int)) H'
theorem z9d(x:List Nat):Lb (mk x) (some 1) (some 2)=mk ((x.drop 1).take 1):=by
 cases x with
 |nil=>decide +kernel
 |cons a r=>exact q5u (i:=1) (j:=2) (by lia) (by rw[Ar];lia)
theorem cutN1(l:List (List Nat))(h:l≠[]):cutV (vN l) (some (1:Int)) none=vN l.tail:=by
 unfold cutV;have hp:=Bx.mpr h;have el:(vN l).length=l.length:=Ad _;have e0:HT.sIx (vN l).length 0 (some (1:Int))=1:=by
  show min 1 (vN l).length=1;lia
 have e1:HT.sIx (vN l).length (vN l).length none=(vN l).length:=rfl;rw[e0,e1,Cj (by rw[Bk];lia),List.drop_one];exact List.map_tail.symm
theorem z_in{qs:List Pc}{k v:Nat}(ok:∀q∈qs,q.ok)(h:Pc.nou k v∈qs):122∈(((PC.sc 123 (flatP qs)).tail).map fun x=>(x.drop 1).take 1).flatten:=by
 obtain⟨a,b,rfl⟩:=Nk h;have hk:=(ok _ h).1.2;have e:flatP (a++Pc.nou k v::b)=flatP a++123::((48+k)::122::((48+v)::125::flatP b)):=by rw[q1r,q0p];rfl
 rw[e,x0j];obtain⟨t,q,e2⟩:=x2e (s:=123) (x:=48+k) (y:=122) (r:=(48+v)::125::flatP b) (by lia) (by decide);rw[e2];cases hs:PC.sc 123 (flatP a) with
 |nil=>exact absurd hs (z6t _)
 |cons p ps =>
  refine Ef.mpr ⟨[122],Bt.mpr ⟨(48+k)::122::t,?_,rfl⟩,Al.mpr rfl⟩;show _∈ps++_;exact Av _ Ai
theorem upp1{c:Nat}(h:c<128):Jn (mk [c])=mk [up1 c]:=z1m h
theorem low1{c:Nat}(h:c<128):Jm (mk [c])=mk [lo1 c]:=q6d (l:=[c]) fun x hx=>by rw[Al.mp hx];exact h
theorem dec1(c d:Nat):decide (V.str (⟨#[c]⟩:Str)=V.str (mk [d]))=decide (c=d):=decide_eq_decide.mpr ⟨fun z=>by injection z with z;injection z with z;injection z with z;injection z,fun z=>by rw[z]⟩
abbrev q8r:Stmt:=top 67
theorem sc_signs:FnScope ["_law_rules", "_law_known", "_law_kind", "_law_pattern", "_law_template", "_law_start", "_law_inside", "_law_sign"] ["_law_rules"] (defScope q8r):=by trivial
set_option maxHeartbeats 40000000 in
theorem z9e(D:Df K mg "_law_signs" q8r ["_law_rules"])(T:Txt mg)(C:CallsSg P w K mg base):Cal P w K mg base "_law_signs" 2 ["_law_rules"] (spSigns K):=by
 refine D.cal sc_signs (fun vs H Q E h=>?_) (fun f cdv A outer s H vs Q E hr h=>?_)
 ·obtain⟨L,rs,rfl,_⟩:=h;rfl
 ·obtain⟨L,rs,rfl,rl,h10,k⟩:=h;refine⟨_,(q0b (q0j (i:=1) sc_signs.nd rfl (by trivial) z2h) (q0b (q1h Bd rfl (@q2y _ _ _ _ K rfl (pv 0)) (@q2z _ _ _ _ (4) _ K rfl rfl (q0q (q0k (i:=2) sc_signs.nd rfl (by trivial)) (q0q (q0k (i:=3) sc_signs.nd rfl (by trivial)) (q0q (q0k (i:=4) sc_signs.nd rfl (by trivial)) (q0q (q0k (i:=5) sc_signs.nd rfl (by trivial)) q2b)))) (by rfl) (by rfl)) (q0b (q0j (i:=6) sc_signs.nd rfl (by trivial) q5f) (q0b (q1h Bd rfl (@q2y _ _ _ _ K rfl (q0s q0n (pv 3) (pv 4))) (q0k (i:=7) sc_signs.nd rfl (by trivial)) (q0b (q0j (i:=6) sc_signs.nd rfl (by trivial) (pe_j (z9l (pe_j (pe_or (pv 6) (z4k (q4g (eq_k K rfl hr) (pv 7) q0h (nomark _))))) (z4k (q4g (ne_k K rfl hr) (pv 7) q0h (nomark _)))))) (q0d (q0u (pt_j (@PW.pt _ _ _ (q2w (pt_not (@tru_k _ _ _ K rfl (pv 6) (fun _=>rfl))) (q2k (q0g (in_k K rfl) (pv 7) (pe_c0 C.name_signs hr) (by with_unfolding_all rfl)))))) (q0b (q7q (z0r hr) (pv 1) (@q5r _ _ _ _ _ _ _ _ _ K rfl Bo Fn Fo q4z (pv 7) (by rfl) (by rfl)) q5f rfl) (q0d (q7q (z0r hr) (pv 1) (@q5r _ _ _ _ _ _ _ _ _ K rfl Bo Dr Ds q3m (pv 7) (by rfl) (by rfl)) q5f rfl))) q0i)))) (q0d (q0u (q0g (in_k K rfl) q0h (@bm_k _ _ _ _ _ _ _ _ _ _ _ _ K rfl Bo Ma Mb (z9r K rfl) q0h (q0a (q4y ["_law_one"] [] rfl (@q2y _ _ _ _ K rfl (q1u (sl_k K rfl) (@bm_k _ _ _ _ _ _ _ _ _ _ _ _ K rfl Bo PySem.F.slot_str_split PySem.F.type_str_split z7t (pv 4) (q0a q0h q0c) (by rfl) (by rfl) (by rfl) (by rfl) (by rfl)) (q1i q0f) q7i)) (fun _ _ _ _ _=>(q0k (i:=0) (show(["_law_one"]:List Str).Nodup by decide +kernel) rfl (by trivial))) (fun _ _ _ _ _=>z0s) (fun _ _ _ _ _=>(q1u (sl_k K rfl) (pv 0) (q1i q0f) (q1i q0f)))) q0c) (by rfl) (by rfl) (by rfl) (by rfl) (by rfl)) (by with_unfolding_all rfl)) (q0d (q7q (z0r hr) (pv 1) q0h q5f rfl)) q0i))))) (q0d (q0l (q0y z5w (by rfl) T.b_len Cc (q0a (pv 1) q0c)))))),?_⟩;intro d hd;have s0:=(Same.refl H).new (o:=.dK []) hd;refine⟨_,rfl,.inl ⟨L,rfl,⟨_,SqL.of (s0 _ _ rl.at_)⟩,?_⟩⟩;refine q1z (xs:=rs.map fun x=>V.ref x.1) (fun i σ' H'=>∃ks x2 x3 x4 x5 x6 x7,σ'=[some (.ref L),some (.ref d),x2,x3,x4,x5,x6,x7]/\Same H H'/\H' d=some (.dK (kvN ks))/\ks.length<=3000*i/\∀x∈rs.take i,KnR ks x.2) ⟨[],none,none,none,none,none,none,rfl,s0,q0e,Af _,(fun _ h=>nomatch h)⟩ (fun i σ' H' _ x=>by obtain⟨_,_,_,_,_,_,_,_,s',_⟩:=x;exact SqL.of (s' _ _ rl.at_)) ?_ ?_
  ·rintro i v σ' H1 hv ⟨ks,x2,x3,x4,x5,x6,x7,rfl,s1,h1,hlen,hkn⟩;rw[Bg] at hv;obtain⟨⟨R,r⟩,hx,rfl⟩:=Bm.mp hv;have hi:=(Aj.mp hx).1;have cr:CRule K H R r:=rl.ok _ (As hx);have cr1:=cr.same s1;have gd:=cr.at_.good;have gl:r.l.length<=1000:=gd.len;have wsz':(flatP r.qs).length<=100:=cr.at_.wp.sz;refine⟨R,_,rfl,SqT.of cr1.at_.at_,rfl,_,_,rfl,_,_,rfl,_,_,rfl,_,_,rfl,rfl,?_⟩;refine⟨_,rfl,_,rfl,.inr (.inl ⟨_,_,rfl,rfl,by rw[q0o,q0o];exact small (by lia),?_⟩)⟩;rw[q2v];generalize hw:r.l++flatP r.qs=w at *;have hwl:w.length<=1100:=by rw[<- hw,Ac];lia
   refine .inr (.inr ⟨mk w,rfl,?_⟩);refine x0y (z:=mk w) (fun j σ' H'=>∃ks' y7,σ'=[some (.ref L),some (.ref d),some (.str r.kd),some (.str (mk r.l)),some (.str (mk (flatP r.qs))),some (.int (r.st:Int)),some (.bl (insB (w.take j))),y7]/\Same H H'/\H' d=some (.dK (kvN ks'))/\ks'.length<=3000*i+2*j/\(∀x∈ks,x∈ks')/\∀j',j'<j->∀c,w[j']?=some c->c∈NS->insB (w.take (j'+1))=false->up1 c∈ks'/\lo1 c∈ks') ⟨ks,_,rfl,s1,h1,by lia,fun _ h=>h,fun j' hj=>absurd hj (by lia)⟩ ?_ ?_
   ·rintro j c σ' H2 hc ⟨ks',y7,rfl,s2,h2,hl2,hsub,hseen⟩;have hcw:w[j]?=some c:=by have:=get hc;rw[q0v] at this;exact this
    have hj:=(Aj.mp hcw).1;have etk:w.take (j+1)=w.take j++[c]:=q0z hcw;have e123:Aa "{" = mk [123]:=by decide +kernel
    have e125:Aa "}" = mk [125]:=by decide +kernel
    refine⟨fun v H'=>v=.bl (insB (w.take (j+1)))/\H'=H2,?_,?_⟩;rotate_left
    ·refine⟨fun v H'=>v=.bl (insB (w.take j)||decide (c=123))/\H'=H2,?_,?_⟩;rotate_left
     ·refine⟨_,rfl,_,rfl,?_⟩;cases hb:insB (w.take j) with
      |true=>exact iteT ⟨rfl,rfl⟩
      |false =>
       refine iteF ⟨_,rfl,.inl ⟨rfl,?_⟩⟩;rw[e123,dec1];exact⟨rfl,rfl⟩
     rintro v H' ⟨rfl,rfl⟩;refine⟨_,rfl,?_⟩;rw[etk,z6r];unfold insS;cases hb:(insB (w.take j)||decide (c=123)) with
     |false=>exact iteF ⟨rfl,rfl⟩
     |true =>
      refine iteT ⟨_,rfl,.inl ⟨rfl,?_⟩⟩;rw[e125,dec1];exact⟨rfl,rfl⟩
    rintro v H' ⟨rfl,rfl⟩;refine⟨fun bb H3=>bb=(!insB (w.take (j+1))&&decide (c∈NS))/\Same H' H3,?_,?_⟩;rotate_left
    ·refine⟨_,rfl,_,rfl,?_⟩;show if (!insB (w.take (j+1)))=true then _ else _
     cases hb:insB (w.take (j+1)) with
     |true=>exact iteF ⟨rfl,Same.refl _⟩
     |false =>
      refine iteT ⟨_,rfl,rfl,.inl ⟨_,_,rfl,rfl,_,rfl,?_,Same.refl _⟩⟩;rw[q2x];rfl
    rintro bb H3 ⟨rfl,s3⟩;have s23:=s2.trans s3;have h23:=s3 _ _ h2;cases hb:(!insB (w.take (j+1))&&decide (c∈NS)) with
    |false =>
     refine iteF ⟨ks',_,rfl,s23,h23,by lia,hsub,fun j' hj' c' hc' hn hi'=>?_⟩;rcases Ew.mp hj' with hj'|rfl
     ·exact hseen j' hj' c' hc' hn hi'
     ·rw[hcw] at hc';cases hc';rw[hi',decide_eq_true hn] at hb;cases hb
    |true =>
     obtain⟨_,hcn⟩:=Iv.mp hb;have hcl:=q4t c (of_decide_eq_true hcn);refine iteT ⟨_,rfl,_,rfl,rfl,_,rfl,rfl,by show 3*1<=_;exact small (by lia),?_⟩;rw[show Jn (⟨#[c]⟩:Str)=mk [up1 c] from upp1 hcl];have hlk:(kvN ks').length<sizeLine:=by rw[Ad];exact small' (by lia)
     refine⟨d,_,rfl,DPut.k (k:=Sum.inr (mk [up1 c])) h23 hlk,?_⟩;rw[q8o];have l3:=q8q (ks:=ks') (c:=up1 c);have hd4:upd H3 d (.dK (kvN (addN ks' (up1 c)))) d=some (.dK (kvN (addN ks' (up1 c)))):=q0e;have s4:=s23.put (o:=.dK (kvN (addN ks' (up1 c)))) hd;generalize upd H3 d (.dK (kvN (addN ks' (up1 c))))=H4 at hd4 s4;refine⟨_,rfl,_,rfl,rfl,_,rfl,rfl,by show 3*1<=_;exact small (by lia),?_⟩;rw[show Jm (⟨#[c]⟩:Str)=mk [lo1 c] from low1 hcl];have hlk2:(kvN (addN ks' (up1 c))).length<sizeLine:=by rw[Ad];exact small' (by lia)
     refine⟨d,_,rfl,DPut.k (k:=Sum.inr (mk [lo1 c])) hd4 hlk2,?_⟩;rw[q8o];have l4:=q8q (ks:=addN ks' (up1 c)) (c:=lo1 c);refine⟨addN (addN ks' (up1 c)) (lo1 c),_,rfl,s4.put hd,q0e,by lia,fun x hx=>q2j (q2j (hsub x hx)),fun j' hj' c' hc' hn hi'=>?_⟩;rcases Ew.mp hj' with hj'|rfl
     ·obtain⟨y1,y2⟩:=hseen j' hj' c' hc' hn hi';exact⟨q2j (q2j y1),q2j (q2j y2)⟩
     ·rw[hcw] at hc';cases hc';exact⟨q2j q8p,q8p⟩
   ·rintro σ' H2 ⟨ks',y7,rfl,s2,h2,hl2,hsub,hseen⟩;rw[q0o] at hl2 hseen;have e123:Aa "{" = ⟨#[123]⟩:=by decide +kernel
    have efl:=q0o (flatP r.qs);have hsl:=PC.sc_len (s:=123) (flatP r.qs);have hsp:(PySem.Txt.split (mk (flatP r.qs)) (Aa "{")).length<=1000:=by rw[e123,<- Ad (f:=tl),PC.split_sc 123,q0v];lia
    have e1:(Aa "{").length=1:=by decide +kernel
    refine⟨rfl,_,rfl,rfl,_,_,rfl,rfl,by rw[e1];rfl,small (by lia),small (by lia),?_,fun S1 hS1=>?_⟩
    ·rw[PyProof.Rows.len_partsBetween];have:=Ib (mk (flatP r.qs)) (Aa "{") 0 (mk (flatP r.qs)).length ((mk (flatP r.qs)).length+1);exact small (by lia)
    rw[e123,PC.split_mk 123,q0v];have hscn:=z6t (s:=123) (flatP r.qs);have hscm:∀x∈PC.sc 123 (flatP r.qs),x.length<=100:=fun x hx=>Ap (z6u hx) wsz';have hz:=fun{k v:Nat}=>z_in (k:=k) (v:=v) cr.at_.wp.ok;generalize PC.sc 123 (flatP r.qs)=sg at hscn hscm hz hsl;have t1:=(Same.refl H2).new (o:=.lst (vN sg)) hS1;have g1:upd H2 S1 (.lst (vN sg)) S1=some (.lst (vN sg)):=q0e;generalize upd H2 S1 (.lst (vN sg))=H3 at t1 g1;refine⟨_,rfl,.inr (.inl ⟨S1,_,rfl,SqL.of g1,fun S2 hS2=>?_⟩)⟩;rw[cutN1 sg hscn];have htl:∀x∈sg.tail,x.length<=100:=fun x hx=>hscm x (List.mem_of_mem_tail hx);have htlen:sg.tail.length<=101:=by rw[List.length_tail];lia
    generalize sg.tail=tg at htl hz htlen;have t2:=t1.new (o:=.lst (vN tg)) hS2;have g2:upd H3 S2 (.lst (vN tg)) S2=some (.lst (vN tg)):=q0e;generalize upd H3 S2 (.lst (vN tg))=H4 at t2 g2;refine .inl ⟨S2,rfl,⟨_,SqL.of g2⟩,fun D1 hD1=>?_⟩;refine z3s (xs:=vN tg) (fun j ys H'=>ys=vN ((tg.take j).map fun x=>(x.drop 1).take 1)/\Same H4 H'/\H' D1=some (.lst ys)) ⟨rfl,(Same.refl H4).new hD1,q0e⟩ (fun j ys H' x=>⟨x.2.2,SqL.of (x.2.1 _ _ g2)⟩) ?_ ?_
    ·rintro j ys H' v hv ⟨rfl,s',h'⟩;rw[Bg] at hv;obtain⟨x,hx,rfl⟩:=Bm.mp hv;have hj:=(Aj.mp hx).1;have hxl:=htl x (As hx);refine⟨_,rfl,_,rfl,_,rfl,.inl ⟨_,rfl,small (by rw[q0o];lia),?_⟩⟩;rw[z9d];refine⟨h',small' (by rw[Ad,Ad,Bv];lia),?_,s'.put hD1,q0e⟩;rw[q0z hx,Ax,x0f];rfl
    rintro ys H5 ⟨rfl,s5,h5⟩;rw[Ad,Cq] at h5;have hml:(((tg.map fun x=>(x.drop 1).take 1).map mk).map (·.length)).sum<=tg.length:=by
     clear h5 hz htlen htl g2 t2;induction tg with
     |nil=>exact Af _
     |cons a r ih =>
      rw[Ay,Ay,Ay,Mm,q0o,Ar,Bv];lia
    have evs:vN (tg.map fun x=>(x.drop 1).take 1)=((tg.map fun x=>(x.drop 1).take 1).map mk).map V.str:=by rw[Cw (f:=mk)];rfl
    refine⟨_,D1,(tg.map fun x=>(x.drop 1).take 1).map mk,rfl,rfl,.inl (SqL.of (by rw[<- evs];exact h5)),?_,?_⟩
    ·have e0:(Aa "").length=0:=by decide +kernel
     rw[e0,Ad,Ad];lia
    have ez:Aa "z" = ⟨#[122]⟩:=by decide +kernel
    refine .inl ⟨_,_,rfl,rfl,_,rfl,?_⟩;rw[ez,q2x,z5h,Cw,show(tl∘mk)=id from funext fun x=>q0v x,List.map_id];have s25:=s2.trans (t2.trans s5);have h25:=s5 _ _ (t2 _ _ h2);have hkr:∀{ks2:List Nat},(∀x∈ks',x∈ks2)->(decide (122∈(tg.map fun x=>(x.drop 1).take 1).flatten)=true->48∈ks2)->∀x∈rs.take (i+1),KnR ks2 x.2:=by
     intro ks2 h12 h48 x hx';rw[Et,hx] at hx';rcases Aw.mp hx' with z|z
     ·exact fun c hc=>⟨h12 _ (hsub _ ((hkn x z c hc).1)),h12 _ (hsub _ ((hkn x z c hc).2))⟩
     ·rw[Al.mp z];intro c hc;obtain⟨sn1,sn2⟩:=seen (qs:=r.qs) gd cr.at_.wp.ok;rw[hw] at sn1 sn2;have fin:(∃j,w[j]?=some c/\insB (w.take (j+1))=false)->c∈NS->up1 c∈ks2/\lo1 c∈ks2:=fun⟨j,hj1,hj2⟩ hn=>by
       obtain⟨y1,y2⟩:=hseen j (Aj.mp hj1).1 c hj1 hn hj2;exact⟨h12 _ y1,h12 _ y2⟩
      rcases Aw.mp hc with hc|hc
      ·obtain⟨c1,c2⟩:=x2f gd hc;exact fin (sn1 c c1 c2) c2
      ·obtain⟨t,ht,hct⟩:=Ef.mp hc;obtain⟨p,hp,rfl⟩:=Bt.mp ht;cases p with
       |tx t=>exact fin (sn2 t hp c hct) ((cr.at_.wp.ok _ hp).2 c hct)
       |nou k v =>
        rw[Al.mp hct];have:=h48 (decide_eq_true (hz hp));exact⟨this,this⟩
       |_=>cases hct
    cases hb:decide (122∈(tg.map fun x=>(x.drop 1).take 1).flatten) with
    |false=>exact iteF ⟨ks',_,_,_,_,_,_,rfl,s25,h25,by lia,hkr (fun _ h=>h) fun z=>(by rw[hb] at z;cases z)⟩
    |true =>
     have e48:Aa "0" = mk [48]:=by decide +kernel
     have hlk:(kvN ks').length<sizeLine:=by rw[Ad];exact small' (by lia)
     refine iteT ⟨_,rfl,d,_,rfl,DPut.k (k:=Sum.inr (Aa "0")) h25 hlk,?_⟩;rw[e48,q8o];have l4:=q8q (ks:=ks') (c:=48);exact⟨addN ks' 48,_,_,_,_,_,_,rfl,s25.put hd,q0e,by lia,hkr (fun _ h=>q2j h) fun _=>q8p⟩
  ·rintro σ' H1 ⟨ks,x2,x3,x4,x5,x6,x7,rfl,s1,h1,hlen,hkn⟩;rw[Ad,Cq] at hkn;rw[Ad] at hlen;refine⟨_,rfl,d,_,rfl,h1,?_⟩;rw[Ad];exact k ks.length _ (by lia) (fun x hx y hy=>kn_nmO (rl.ok x hx) (rl.ok y hy) (hkn x hx) (hkn y hy)) s1
end
end K
set_option maxHeartbeats 4000000
namespace K
open PySem L2 TX
section
variable{P:Program}{w:World}{K:Ae}{mg:Str->Option Value}{base:Heap}
structure CallsSh (P:Program) (w:World) (K:Ae) (mg:Str->Option Value) (base:Heap):Prop where
 signs:Cal P w K mg base "_law_signs" 2 ["_law_rules"] (spSigns K)
def spShapes(K:Ae):Sp:=fun vs H Q _=>∃L rs,∃n:Nat,vs=[.ref L,.int (n:Int)]/\RLs K H L rs/\rs.length<=10/\n<=4/\∀(v:Nat) H',(∀x∈rs,∀y∈rs,((nmO x.2 y.2).length+4)^n<=v)->Same H H'->Q (.int (v:Int)) H'
abbrev q6h:Stmt:=top 68
theorem sc_shapes:FnScope ["_law_rules", "_law_most_here", "_law_found", "_law_k"] ["_law_rules", "_law_most_here"] (defScope q6h):=by trivial
theorem z6v(D:Df K mg "_law_shapes" q6h ["_law_rules", "_law_most_here"])(T:Txt mg)(C:CallsSh P w K mg base):Cal P w K mg base "_law_shapes" 3 ["_law_rules", "_law_most_here"] (spShapes K):=by
 refine D.cal sc_shapes (fun vs H Q E h=>?_) (fun f cdv A outer s H vs Q E hr h=>?_)
 ·obtain⟨L,rs,n,rfl,_⟩:=h;rfl
 ·obtain⟨L,rs,n,rfl,rl,h10,hn,k⟩:=h;refine⟨_,(q0b (q0j (i:=2) sc_shapes.nd rfl (by trivial) q0f) (q0b (q1h Bd rfl (q1v rfl T.b_range (q0a (pv 1) q0c)) (q0k (i:=3) sc_shapes.nd rfl (by trivial)) (q0d (q0j (i:=2) sc_shapes.nd rfl (by trivial) (q0s q5q (pv 2) (q0s q0n (pe_c C.signs hr (q0a (pv 0) q0c)) q0f))))) (q0d (q0l (pv 2))))),?_⟩;refine⟨_,rfl,(n:Int),rfl,by lia,by lia,q1w (n:=n) (fun i σ' H'=>(∃(v:Nat) (x:Option V),σ'=[some (.ref L),some (.int (n:Int)),some (.int (v:Int)),x]/\∀x∈rs,∀y∈rs,((nmO x.2 y.2).length+4)^i<=v)/\Same H H') ⟨⟨1,none,rfl,fun _ _ _ _=>Af _⟩,Same.refl _⟩ ?_ ?_⟩
  ·rintro i σ' H1 hi ⟨⟨v,x,rfl,hv⟩,s1⟩;refine⟨_,rfl,_,rfl,L,rs,rfl,rl.same s1,h10,fun m H2 hm hmm s2=>.inl ⟨_,_,rfl,rfl,.inl ⟨_,_,rfl,rfl,.inr ⟨by lia,by lia⟩,?_⟩⟩⟩;have e:((v:Nat):Int)*((m:Int)+4)=((v*(m+4):Nat):Int):=by rw[Oz];rfl
   refine⟨⟨v*(m+4),_,congrArg (fun z=>[some (V.ref L),some (V.int (n:Int)),some (V.int z),_]) e,fun x hx y hy=>?_⟩,s1.trans s2⟩;rw[Ko];exact Nat.mul_le_mul (hv x hx y hy) (by have:=hmm x hx y hy;lia)
  ·rintro σ' H1 ⟨⟨v,x,rfl,hv⟩,s1⟩;exact⟨_,rfl,k v _ hv s1⟩
theorem CRule.tk{H H':Hp}{R:Addr}{r:RD}(h:CRule K H R r)(k:∀xs,H R=some (.tup xs)->H' R=some (.tup xs)):CRule K H' R r:=⟨⟨k _ h.at_.at_,h.at_.kok,h.at_.good,h.at_.wp,h.at_.st0,h.at_.st1,h.at_.ask⟩,h.ok,h.nc,h.tx⟩
theorem q4n{a b:Addr}{H H':Hp}(F:FeedAt H a b)(fd:Fd a b H H'):∀{R:Addr} {xs:List V},H R=some (.tup xs)->H' R=some (.tup xs):=fun{R xs} e=>fd.at e fun z=>by
 obtain⟨_,_,e2⟩:=F.fa;rw[<- z,e] at e2;cases e2
theorem RLs.fd{a b L:Addr}{H H':Hp}{rs:List (Addr×RD)}(h:RLs K H L rs)(F:FeedAt H a b)(fd:Fd a b H H')(hL:L≠a):RLs K H' L rs:=⟨fd.at h.at_ hL,fun x hx=>(h.ok x hx).tk fun xs e=>q4n F fd e⟩
structure CallsMo (P:Program) (w:World) (K:Ae) (mg:Str->Option Value) (base:Heap):Prop where
 draw:Cal P w K mg base "_law_draw" 1 ["_law_feed", "_law_many"] spDraw
 shapes:Cal P w K mg base "_law_shapes" 3 ["_law_rules", "_law_most_here"] (spShapes K)
def spMost(K:Ae):Sp:=fun vs H Q _=>∃a b L rs,vs=[.ref a,.ref L]/\FeedAt H a b/\RLs K H L rs/\rs.length<=10/\L≠a/\∀(n:Nat) H',n<=4->(n=0\/∀x∈rs,∀y∈rs,((nmO x.2 y.2).length+4)^n<=64)->Fd a b H H'->Q (.int (n:Int)) H'
def msM(σ:St):Nat:=match σ[2]? with|some (some (V.int n))=>n.toNat|_=>0
abbrev z1o:Stmt:=top 69
theorem sc_most:FnScope ["_law_feed", "_law_rules", "_law_most_here"] ["_law_feed", "_law_rules"] (defScope z1o):=by trivial
theorem x2g(D:Df K mg "_law_most" z1o ["_law_feed", "_law_rules"])(T:Txt mg)(C:CallsMo P w K mg base):Cal P w K mg base "_law_most" 4 ["_law_feed", "_law_rules"] (spMost K):=by
 refine D.cal sc_most (fun vs H Q E h=>?_) (fun f cdv A outer s H vs Q E hr h=>?_)
 ·obtain⟨a,b,L,rs,rfl,_⟩:=h;rfl
 ·obtain⟨a,b,L,rs,rfl,F,rl,h10,hLa,k⟩:=h;refine⟨_,(q0b (q0j (i:=2) sc_most.nd rfl (by trivial) (q0s q0n q0f (pe_c C.draw hr (q0a (pv 0) (q0a q0f q0c))))) (q0b (q7g Bd (pt_j (@PW.pt _ _ _ (q2w (q0g q5h (pv 2) q0f (nomark _)) (q2k (q0g q5h (pe_c C.shapes hr (q0a (pv 1) (q0a (pv 2) q0c))) q0f (nomark _)))))) (q0d (q0j (i:=2) sc_most.nd rfl (by trivial) (q0s z1x (pv 2) q0f)))) (q0d (q0l (pv 2))))),?_⟩;refine⟨_,rfl,a,b,_,rfl,F,by decide,by decide,fun r H1 r0 r1 fd1=>.inl ⟨_,_,rfl,rfl,?_⟩⟩;obtain⟨n0,en⟩:∃n:Nat,1+r=(n:Int):=⟨(1+r).toNat,by lia⟩
  rw[en];have rl1:=rl.fd F fd1 hLa;refine q7h (fun σ3 H3=>∃n:Nat,σ3=[some (.ref a),some (.ref L),some (.int (n:Int))]/\n<=4/\Same H1 H3) (fun σ3 _=>msM σ3) ⟨n0,rfl,by lia,Same.refl _⟩ ?_ ?_
  ·rintro σ3 H3 ⟨n,rfl,hn,s3⟩;refine⟨fun bb H'=>Same H1 H'/\(bb=true->0<n)/\(bb=false->n=0\/∀x∈rs,∀y∈rs,((nmO x.2 y.2).length+4)^n<=64),?_,?_⟩;rotate_left
   ·refine⟨_,rfl,_,_,rfl,rfl,_,rfl,iteB (fun h=>?_) (fun h=>⟨s3,fun z=>(by cases z),fun _=>.inl (by have:=of_decide_eq_false h;lia)⟩)⟩;have hp:=of_decide_eq_true h;refine⟨_,rfl,_,rfl,L,rs,n,rfl,rl1.same s3,h10,hn,fun v H4 hv s4=>⟨_,_,rfl,rfl,_,rfl,s3.trans s4,fun _=>by lia,fun z=>.inr fun x hx y hy=>?_⟩⟩;have:=of_decide_eq_false z;have:=hv x hx y hy;lia
   rintro bb H4 ⟨s4,hT,hF⟩;refine ite2 (fun h=>?_) (fun h=>?_)
   ·have hp:=hT h;refine⟨_,rfl,_,_,rfl,rfl,?_⟩;have e:((n:Nat):Int)-1=((n-1:Nat):Int):=by lia
    refine⟨⟨n-1,congrArg (fun z=>[some (V.ref a),some (V.ref L),some (V.int z)]) e,by lia,s4⟩,?_⟩;show((n:Int)-1).toNat<((n:Nat):Int).toNat;lia
   ·exact⟨_,rfl,k n _ hn (hF (by simpa using h)) (fd1.same s4)⟩
  ·intro σ3 H3 Q1 Q2 hq h;obtain⟨J,h1,h2⟩:=h;exact⟨J,fun b H' x=>hq _ _ (h1 b H' x),h2⟩
def norm:List Pc->List Pc
 |[]=>[]
 |.tx x::r=>match norm r with
  |.tx y::s=>.tx (x++y)::s
  |s=>.tx x::s
 |q::r=>q::norm r
def isTx:Pc->Bool
 |.tx _=>true
 |_=>false
theorem q4o(x:List Nat)(r:List Pc):(∃y s,norm r=.tx y::s/\norm (.tx x::r)=.tx (x++y)::s)\/((∀y s,norm r≠.tx y::s)/\norm (.tx x::r)=.tx x::norm r):=by
 cases h:norm r with
 |nil=>exact .inr ⟨fun _ _ z=>(by cases z),by rw[norm,h]⟩
 |cons q s =>
  cases q with
  |tx y=>exact .inl ⟨y,s,rfl,by rw[norm,h]⟩
  |_=>exact .inr ⟨fun _ _ z=>(by cases z),by rw[norm,h]⟩
theorem q4p{q:Pc}(h:isTx q=false)(r:List Pc):norm (q::r)=q::norm r:=by
 cases q with
 |tx _=>cases h
 |_=>rfl
theorem q6i:∀ts:List Pc,flatP (norm ts)=flatP ts
 |[]=>rfl
 |q::r=>by
  have ih:=q6i r;cases hq:isTx q with
  |false=>rw[q4p hq,q0p,q0p,ih]
  |true =>
   cases q with
   |tx x =>
    rcases q4o x r with⟨y,s,e1,e2⟩|⟨_,e2⟩
    ·rw[e1,q0p] at ih;rw[e2,q0p,q0p,<- ih];show(x++y)++flatP s=x++(y++flatP s)
     rw[Cf]
    ·rw[e2,q0p,q0p,ih]
   |_=>cases hq
theorem q8s:∀{ts:List Pc},(∀q∈ts,q.ok)->∀q∈norm ts,q.ok/\(isTx q=true\/q∈ts)
 |[],_,q,h=>by cases h
 |p::r,h,q,hq=>by
  have ih:=q8s (ts:=r) fun x hx=>h x (Ah _ hx);have up:∀z,z∈norm r->z.ok/\(isTx z=true\/z∈p::r):=fun z hz=>⟨(ih z hz).1,(ih z hz).2.imp id (Ah _)⟩
  cases hp:isTx p with
  |false =>
   rw[q4p hp] at hq;rcases Am.mp hq with z|z
   ·rw[z];exact⟨h p Ai,.inr Ai⟩
   ·exact up q z
  |true =>
   cases p with
   |tx x =>
    have hx:=h (.tx x) Ai;rcases q4o x r with⟨y,s,e1,e2⟩|⟨_,e2⟩
    ·rw[e2] at hq;rcases Am.mp hq with z|z
     ·have hy:=(ih (.tx y) (by rw[e1];exact Ai)).1;rw[z];exact⟨⟨fun w=>hx.1 (Hs.mp w).1,fun c hc=>(Aw.mp hc).elim (hx.2 c) (hy.2 c)⟩,.inl rfl⟩
     ·exact up q (by rw[e1];exact Ah _ z)
    ·rw[e2] at hq;rcases Am.mp hq with z|z
     ·rw[z];exact⟨hx,.inl rfl⟩
     ·exact up q z
   |_=>cases hp
theorem z6w:∀(ts:List Pc) (i:Nat) (x y:List Nat),(norm ts)[i]?=some (.tx x)->(norm ts)[i+1]?≠some (.tx y)
 |[],i,x,y,h=>by cases h
 |p::r,i,x,y,h=>by
  have ih:=z6w r;cases hp:isTx p with
  |false =>
   rw[q4p hp] at h ⊢;cases i with
   |zero=>cases h;cases hp
   |succ i=>exact ih i x y h
  |true =>
   cases p with
   |tx a =>
    rcases q4o a r with⟨b,s,e1,e2⟩|⟨e1,e2⟩
    ·rw[e2] at h ⊢;rw[e1] at ih;cases i with
     |zero=>exact ih 0 b y rfl
     |succ i=>exact ih (i+1) x y h
    ·rw[e2] at h ⊢;cases i with
     |zero =>
      intro z;cases hn:norm r with
      |nil=>rw[hn] at z;cases z
      |cons q s =>
       rw[hn] at z;have z:q=.tx y:=Bq z;exact e1 y s (by rw[hn,z])
     |succ i=>exact ih i x y h
   |_=>cases hp
def inOk:Bool->List Pc->Prop
 |b,[]=>b=false
 |b,q::r=>if pcI q=true then b=false/\inOk true r else inOk false r
theorem q1d{b:Bool}{q:Pc}{r:List Pc}(h:pcI q=false):inOk b (q::r)↔inOk false r:=by
 show(if pcI q=true then _ else _)↔_;rw[h,if_neg (by decide)]
theorem q1s{b:Bool}{q:Pc}{r:List Pc}(h:pcI q=true):inOk b (q::r)↔b=false/\inOk true r:=by
 show(if pcI q=true then _ else _)↔_;rw[if_pos h]
theorem q8t:∀{ts:List Pc} {b:Bool},inOk b ts->inOk b (norm ts)
 |[],_,h=>h
 |p::r,b,h=>by
  cases hp:isTx p with
  |false =>
   rw[q4p hp];cases hi:pcI p with
   |true =>
    have:=(q1s hi).mp h;exact(q1s hi).mpr ⟨this.1,q8t this.2⟩
   |false=>exact(q1d hi).mpr (q8t ((q1d hi).mp h))
  |true =>
   cases p with
   |tx x =>
    have h:=q8t ((q1d (q:=.tx x) rfl).mp h);rcases q4o x r with⟨y,s,e1,e2⟩|⟨_,e2⟩
    ·rw[e1] at h;rw[e2];exact(q1d (q:=.tx (x++y)) rfl).mpr ((q1d (q:=.tx y) rfl).mp h)
    ·rw[e2];exact(q1d (q:=.tx x) rfl).mpr h
   |_=>cases hp
theorem z1p:∀{ts:List Pc} {b:Bool},inOk b ts->∀i,ts[i]?=some .into->(b=true->1<=i)/\(1<=i->ts[i-1]?≠some .into)
 |[],_,_,i,h=>by cases h
 |p::r,b,h,i,hi=>by
  cases hp:pcI p with
  |true =>
   obtain⟨h1,h2⟩:=(q1s hp).mp h;cases i with
   |zero=>exact⟨fun z=>(by rw[h1] at z;cases z),fun z=>absurd z (by lia)⟩
   |succ i =>
    have:=z1p h2 i hi;refine⟨fun _=>by lia,fun _ z=>?_⟩;cases i with
    |zero=>have:=this.1 rfl;lia
    |succ i=>exact this.2 (by lia) z
  |false =>
   have h2:=(q1d hp).mp h;cases i with
   |zero=>cases hi;cases hp
   |succ i =>
    have:=z1p h2 i hi;refine⟨fun _=>by lia,fun _ z=>?_⟩;cases i with
    |zero=>cases z;cases hp
    |succ i=>exact this.2 (by lia) z
theorem z6x:∀{ts:List Pc} {b:Bool},inOk b ts->∀q,ts.getLast?=some q->q≠.into
 |[],_,_,q,h=>by cases h
 |[p],b,h,q,hq=>by
  rw[List.getLast?_singleton] at hq;cases hq;intro z;rw[z] at h;have:=((q1s (q:=.into) rfl).mp h).2;cases this
 |p::r::s,b,h,q,hq=>by
  have h2:∃b',inOk b' (r::s):=by
   cases hp:pcI p with
   |true=>exact⟨true,((q1s hp).mp h).2⟩
   |false=>exact⟨false,(q1d hp).mp h⟩
  obtain⟨b',h2⟩:=h2;exact z6x h2 q (by rw[List.getLast?_cons_cons] at hq;exact hq)
theorem q8u:∀{ts:List Pc} {b:Bool} {q:Pc},pcI q=false->inOk b ts->inOk b (ts++[q])
 |[],b,q,hq,h=>(q1d hq).mpr rfl
 |p::r,b,q,hq,h=>by
  show inOk b (p::(r++[q]));cases hp:pcI p with
  |true =>
   have:=(q1s hp).mp h;exact(q1s hp).mpr ⟨this.1,q8u hq this.2⟩
  |false=>exact(q1d hp).mpr (q8u hq ((q1d hp).mp h))
theorem q6j:∀{ts:List Pc} {b:Bool} {q:Pc},pcI q=false->inOk b ts->inOk b (ts++[.into,q])
 |[],b,q,hq,h=>(q1s (q:=.into) rfl).mpr ⟨h,(q1d hq).mpr rfl⟩
 |p::r,b,q,hq,h=>by
  show inOk b (p::(r++[.into,q]));cases hp:pcI p with
  |true =>
   have:=(q1s hp).mp h;exact(q1s hp).mpr ⟨this.1,q6j hq this.2⟩
  |false=>exact(q1d hp).mpr (q6j hq ((q1d hp).mp h))
theorem q8v{f:Pc->Pc}(hf:∀q,pcI (f q)=pcI q):∀{ts:List Pc} {b:Bool},inOk b ts->inOk b (ts.map f)
 |[],_,h=>h
 |p::r,b,h=>by
  rw[Ay];cases hp:pcI p with
  |true =>
   have:=(q1s hp).mp h;exact(q1s ((hf p).trans hp)).mpr ⟨this.1,q8v hf this.2⟩
  |false=>exact(q1d ((hf p).trans hp)).mpr (q8v hf ((q1d hp).mp h))
theorem z2y:∀{a r:List Pc} {b:Bool},(∀q∈a,pcI q=false)->inOk b (a++.into::r)->inOk b (a++r)
 |[],r,b,_,h=>by
  obtain⟨h1,h2⟩:=(q1s (q:=.into) rfl).mp h;cases r with
  |nil=>cases h2
  |cons p s =>
   cases hp:pcI p with
   |true=>have:=((q1s hp).mp h2).1;cases this
   |false=>exact(q1d hp).mpr ((q1d hp).mp h2)
 |p::a,r,b,ha,h=>by
  have hp:=ha p Ai;exact(q1d hp).mpr (z2y (fun q hq=>ha q (Ah _ hq)) ((q1d hp).mp h))
theorem z2z:∀ts:List Pc,wsz (norm ts)=wsz ts/\((norm ts).filter pcI).length=(ts.filter pcI).length
 |[]=>⟨rfl,rfl⟩
 |p::r=>by
  obtain⟨i1,i2⟩:=z2z r;cases hp:isTx p with
  |false =>
   rw[q4p hp];refine⟨by show pcB p+wsz (norm r)=pcB p+wsz r;rw[i1],?_⟩;rw[Dv,Dv];split
   ·rw[Ar,Ar,i2]
   ·exact i2
  |true =>
   cases p with
   |tx x =>
    rcases q4o x r with⟨y,s,e1,e2⟩|⟨_,e2⟩
    ·rw[e1] at i1 i2;rw[e2];have i1:y.length+wsz s=wsz r:=i1;refine⟨?_,i2⟩;show(x++y).length+wsz s=x.length+wsz r;rw[Ac];lia
    ·rw[e2];exact⟨by show x.length+wsz (norm r)=x.length+wsz r;rw[i1],i2⟩
   |_=>cases hp
theorem x2h{ts:List Pc}(hi:inOk true ts)(ho:∀q∈ts,q.ok)(hl:(flatP ts).length<=100):WP (norm ts):=by
 have hn:=q8t hi;refine⟨fun z=>?_,fun q hq=>(q8s ho q hq).1,z6w ts,fun i h=>?_,z6x hn,by rw[q6i];exact hl⟩
 ·rw[z] at hn;cases hn
 ·have:=z1p hn i h;have h1:=this.1 rfl;exact⟨h1,this.2 h1⟩
theorem z6y(u:List Nat)(q:List Pt):gsOf (tp u++q)=gsOf q:=by unfold tp;split<;>rfl
theorem q8w:∀(l u:List Nat),gsOf (parse u l)=l.filter fun c=>decide (c∈GS)
 |[],u=>by
  have:=z6y u [];rw[By] at this;exact this
 |c::r,u=>by
  rw[parse];by_cases h:c∈GS
  ·rw[if_pos h,z6y,List.filter_cons_of_pos (by rw[decide_eq_true h])];show c::gsOf (parse [] r)=_;rw[q8w r []]
  ·rw[if_neg h,List.filter_cons_of_neg (by rw[decide_eq_false h];decide)];exact q8w r _
def gpn(l:List Nat):Nat:=(l.filter fun c=>decide (c∈GS)).length
def tokB(G:Nat):Pc->Bool
 |.into=>true
 |.tx t=>decide (t.length=1/\∀c∈t,c∈NS)
 |.gap k=>decide (1<=k/\k<=G)
 |.great k=>decide (1<=k/\k<=G)
 |.small k=>decide (1<=k/\k<=G)
 |.nou k v=>decide (1<=k/\k<=G/\1<=v/\v<=2)
 |_=>false
structure TokF (G:Nat) (q:Pc):Prop where
 ok:q.ok
 nm:isMo q=false
 nc:isCn q=false
 gp:∀k,gapNo q=some k->1<=k/\k<=G
 wl:q.wr.length<=5
 pb:pcB q<=13
 px:(pcx q).length<=1
theorem tokF{G:Nat}{q:Pc}(hG:G<=9)(h:tokB G q=true):TokF G q:=by
 cases q with
 |into=>exact⟨trivial,rfl,rfl,fun k e=>(by cases e),by show 1<=5;decide,by show 0<=13;decide,Au _⟩
 |tx t =>
  have h:=of_decide_eq_true h;have h1:=h.1;exact⟨⟨fun z=>(by rw[z] at h1;cases h1),h.2⟩,rfl,rfl,fun k e=>(by cases e),by show t.length<=5;lia,by show t.length<=13;lia,by show t.length<=1;lia⟩
 |gap k=>have h:=of_decide_eq_true h;exact⟨⟨h.1,by lia⟩,rfl,rfl,fun k' e=>by cases e;exact h,by show 3<=5;decide,Af _,Au _⟩
 |great k=>have h:=of_decide_eq_true h;exact⟨⟨h.1,by lia⟩,rfl,rfl,fun k' e=>by cases e;exact h,by show 4<=5;decide,Af _,Au _⟩
 |small k=>have h:=of_decide_eq_true h;exact⟨⟨h.1,by lia⟩,rfl,rfl,fun k' e=>by cases e;exact h,by show 4<=5;decide,Af _,Au _⟩
 |nou k v=>have h:=of_decide_eq_true h;exact⟨⟨⟨h.1,by lia⟩,by lia,by lia⟩,rfl,rfl,fun k' e=>by cases e;exact⟨h.1,h.2.1⟩,by show 5<=5;decide,Af _,Af _⟩
 |_=>cases h
structure Raw (l:List Nat) (ts:List Pc):Prop where
 ne:l≠[]
 ll:l.length<=5
 lo:∀c∈l,c∈GS\/c∈NS
 ti:inOk true ts
 len:ts.length<=6
 tok:∀q∈ts,tokB (gpn l) q=true
def mkN(kd:Str)(l:List Nat)(ts:List Pc)(st:Nat):RD:=⟨kd,l,norm ts,st⟩
theorem z4f{l:List (List Nat)}{k:Nat}(h:∀x∈l,x.length<=k):l.flatten.length<=k*l.length:=by
 have:=q7b (l:=l) (f:=fun x=>x) (m:=k) h;rw[List.flatMap_id',Nb] at this;exact this
theorem wsz_le{ts:List Pc}(h:∀q∈ts,pcB q<=13):wsz ts<=13*ts.length:=by
 unfold wsz;induction ts with
 |nil=>exact Af _
 |cons a r ih =>
  have h1:=h a Ai;have h2:=ih fun x hx=>h x (Ah _ hx);rw[Ay,Mm,Ar];lia
theorem z6z:∀ts:List Pc,((norm ts).map pcx).flatten=(ts.map pcx).flatten
 |[]=>rfl
 |p::r=>by
  have ih:=z6z r;cases hp:isTx p with
  |false=>rw[q4p hp,Ay,Ct,Ay,Ct,ih]
  |true =>
   cases p with
   |tx x =>
    rcases q4o x r with⟨y,s,e1,e2⟩|⟨_,e2⟩
    ·rw[e1,Ay,Ct] at ih;rw[e2,Ay,Ct,Ay,Ct,<- ih];show(x++y)++_=x++(y++_)
     rw[Cf]
    ·rw[e2,Ay,Ct,Ay,Ct,ih]
   |_=>cases hp
theorem z1q:∀(l u:List Nat),((parse u l).map ptx).flatten.length<=u.length+l.length
 |[],u=>by
  show((tp u).map ptx).flatten.length<=_;unfold tp;split
  ·exact Au _
  ·show(u++[]).length<=_;rw[By];exact Af _
 |c::r,u=>by
  rw[parse];split
  ·have ih:=z1q r [];have e:((tp u++Pt.gp c::parse [] r).map ptx).flatten=((tp u).map ptx).flatten++((parse [] r).map ptx).flatten:=by
    rw[Ax,Gp,Ay,Ct];rfl
   have ht:((tp u).map ptx).flatten.length<=u.length:=by
    unfold tp;split
    ·exact Au _
    ·show(u++[]).length<=_;rw[By];exact Af _
   rw[Gs] at ih;rw[Ar];refine Ap (Di (congrArg List.length e)) ?_;rw[Ac];lia
  ·have ih:=z1q r (u++[c]);rw[Ac,Bh] at ih;rw[Ar];lia
theorem z0m{H:Hp}{R:Addr}{kd:Str}{l:List Nat}{ts:List Pc}{st:Nat}(h:Raw l ts)(hst:st<=1000000000)(hk:inV (.str kd) kinds3=true)(hkd:.into∈ts->kd=Aa "slip")(hR:H R=some (.tup [.str kd,.str (mk l),.str (mk (flatP ts)),.int (st:Int)])):CRule K H R (mkN kd l ts st):=by
 have hG:gpn l<=5:=Ap (Cs _ _) h.ll;have tf:∀q∈ts,TokF (gpn l) q:=fun q hq=>tokF (by lia) (h.tok q hq);have nf:∀q∈norm ts,q.ok/\isMo q=false/\isCn q=false/\∀k,gapNo q=some k->1<=k/\k<=gpn l:=fun q hq=>by
  obtain⟨o,z⟩:=q8s (fun q hq=>(tf q hq).ok) q hq;rcases z with z|z
  ·cases q with
   |tx t=>exact⟨o,rfl,rfl,fun k e=>(by cases e)⟩
   |_=>cases z
  ·exact⟨o,(tf q z).nm,(tf q z).nc,(tf q z).gp⟩
 have hfl:(flatP ts).length<=30:=by
  have:=q7b (l:=ts) (f:=Pc.wr) (m:=5) fun q hq=>(tf q hq).wl;have e:flatP ts=ts.flatMap Pc.wr:=by unfold flatP;rw[Hw]
  have:=h.len;rw[e];lia
 obtain⟨w1,w2⟩:=z2z ts;refine⟨⟨by show H R=some (.tup [.str kd,.str (mk l),.str (mk (flatP (norm ts))),.int (st:Int)]);rw[q6i];exact hR,hk,⟨h.ne,h.lo,by show gpn l<=9;lia,by have:=h.ll;show l.length<=1000;lia⟩,x2h h.ti (fun q hq=>(tf q hq).ok) (by lia),by show(0:Int)<=(st:Int);lia,by show(st:Int)<=1000000000;lia,fun q hq=>?_⟩,?_,fun q hq=>(nf q hq).2.2.1,?_⟩
 ·show AskOk kd (gsOf (parse [] l)) q;rw[q8w];have:=nf q hq;exact⟨this.2.2.2,fun k m z=>(by rw[z] at this;have:=this.2.1;cases this),fun z=>hkd (by rw[z] at hq;rcases(q8s (fun q hq=>(tf q hq).ok) _ hq).2 with y|y;cases y;exact y)⟩
 ·refine⟨by show st<=_;lia,?_,fun q hq=>(nf q hq).2.1,fun q hq=>(nf q hq).1,?_⟩
  ·show((norm ts).filter pcI).length<=10;have:=Cs pcI ts;have:=h.len;lia
  ·show wsz (norm ts)<=100;have:=wsz_le fun q hq=>(tf q hq).pb;have:=h.len;lia
 ·show(((parse [] l).map ptx).flatten++((norm ts).map pcx).flatten).length<=1000;rw[Ac,z6z];have h1:=z1q l [];have h2:=z4f (l:=ts.map pcx) (k:=1) fun x hx=>by
   obtain⟨q,hq,rfl⟩:=Bt.mp hx;exact(tf q hq).px
  rw[Ad] at h2;rw[Gs] at h1;have:=h.ll;have:=h.len;lia
theorem z9f{H:Hp}{R:Addr}{l:List Nat}{ts:List Pc}{st:Nat}(h:Raw l ts)(hst:st<=1000)(hR:H R=some (.tup [.str (Aa "slip"),.str (mk l),.str (mk (flatP ts)),.int (st:Int)])):CRule K H R (mkN (Aa "slip") l ts st):=z0m h (by lia) (by decide +kernel) (fun _=>rfl) hR
structure CallsRu (P:Program) (w:World) (K:Ae) (mg:Str->Option Value) (base:Heap):Prop where
 draw:Cal P w K mg base "_law_draw" 1 ["_law_feed", "_law_many"] spDraw
 text:Cal P w K mg base "_law_text" 2 ["_law_feed", "_law_signs_here", "_law_size"] spText
structure RawAt (H:Hp) (R:Addr) (l:List Nat) (ts:List Pc) (st:Nat):Prop where
 at_:H R=some (.tup [.str (Aa "slip"),.str (mk l),.str (mk (flatP ts)),.int (st:Int)])
 ok:Raw l ts
 st:st<=10
 ne:ts≠[]
def gapP(k:Nat):Nat->Pc
 |0=>.gap k
 |1=>.gap k
 |2=>.great k
 |3=>.small k
 |_=>.nou k 2
def gapS:Nat->Str
 |0=>Aa ""
 |1=>Aa ""
 |2=>Aa "u"
 |3=>Aa "l"
 |_=>Aa "z2"
theorem gap_wr{k j:Nat}(hk:k<10)(hj:j<5):Aa "{" ++ mk (dg k)++gapS j++Aa "}" = mk (gapP k j).wr:=by
 rw[q2h hk];apply ext;have e1:tl (Aa "{")=[123]:=by decide +kernel
 have e2:tl (Aa "}")=[125]:=by decide +kernel
 rw[q2c,q2c,q2c,e1,e2,q0v [48+k],q0v (gapP k j).wr];match j,hj with
 |0,_=>rw[show tl (gapS 0)=[] from by decide +kernel];rfl
 |1,_=>rw[show tl (gapS 1)=[] from by decide +kernel];rfl
 |2,_=>rw[show tl (gapS 2)=[117] from by decide +kernel];rfl
 |3,_=>rw[show tl (gapS 3)=[108] from by decide +kernel];rfl
 |4,_=>rw[show tl (gapS 4)=[122,50] from by decide +kernel];rfl
theorem x2i{g k j:Nat}(h1:1<=k)(h2:k<=g):tokB g (gapP k j)=true/\pcI (gapP k j)=false/\(gapP k j).wr.length<=5:=by
 unfold gapP;split
 ·exact⟨decide_eq_true ⟨h1,h2⟩,rfl,by show 3<=5;decide⟩
 ·exact⟨decide_eq_true ⟨h1,h2⟩,rfl,by show 3<=5;decide⟩
 ·exact⟨decide_eq_true ⟨h1,h2⟩,rfl,by show 4<=5;decide⟩
 ·exact⟨decide_eq_true ⟨h1,h2⟩,rfl,by show 4<=5;decide⟩
 ·exact⟨decide_eq_true ⟨h1,h2,by decide,by decide⟩,rfl,by show 5<=5;decide⟩
theorem x2j{r:Int}(h0:0<=r)(h5:r<5):atI [V.str (Aa ""),.str (Aa ""),.str (Aa "u"),.str (Aa "l"),.str (Aa "z2")] r=some (.str (gapS r.toNat)):=by
 have:r=0\/r=1\/r=2\/r=3\/r=4:=by lia
 rcases this with rfl|rfl|rfl|rfl|rfl<;>rfl
theorem z9g(j:Nat):(gapS j).length<=2:=by
 unfold gapS;split<;>decide +kernel
theorem z3a{l:List Nat}{c:Nat}:gpn (l++[c])=gpn l+(if c∈GS then 1 else 0):=by
 unfold gpn;rw[Fh,Ac,Dv];split
 ·rename_i h;rw[if_pos (of_decide_eq_true h)];rfl
 ·rename_i h;rw[if_neg (fun z=>h (decide_eq_true z))];rfl
theorem g5:∀c∈tl (Aa "?*@#?"),c∈GS:=by decide +kernel
theorem g5l:(Aa "?*@#?").length=5:=by decide +kernel
def spRule:Sp:=fun vs H Q _=>∃a b g,vs=[.ref a,.str g]/\FeedAt H a b/\0<g.length/\g.length<=1000/\(∀c∈tl g,c∈NS)/\∀R l ts st H',H R=none->Fd a b H H'->RawAt H' R l ts st->l.length<=3->ts.length<=5->st<=2->Q (.ref R) H'
abbrev z1r:Stmt:=top 70
theorem sc_rule:FnScope ["_law_feed", "_law_signs_here", "_law_pattern", "_law_gaps", "_law_k", "_law_template", "_law_mark"] ["_law_feed", "_law_signs_here"] (defScope z1r):=by trivial
set_option maxHeartbeats 40000000 in
theorem x2k(D:Df K mg "_law_rule" z1r ["_law_feed", "_law_signs_here"])(T:Txt mg)(C:CallsRu P w K mg base):Cal P w K mg base "_law_rule" 3 ["_law_feed", "_law_signs_here"] spRule:=by
 refine D.cal sc_rule (fun vs H Q E h=>?_) (fun f cdv A outer s H vs Q E hr h=>?_)
 ·obtain⟨a,b,g,rfl,_⟩:=h;rfl
 ·obtain⟨a,b,g,rfl,F,hg0,hg1,hgn,k⟩:=h;refine⟨_,(q0b (q0j (i:=2) sc_rule.nd rfl (by trivial) q0h) (q0b (q0j (i:=3) sc_rule.nd rfl (by trivial) q0f) (q0b (q1h Bd rfl (q1v rfl T.b_range (q0a (q0s q0n q0f (pe_c C.draw hr (q0a (pv 0) (q0a q0f q0c)))) q0c)) (q0k (i:=4) sc_rule.nd rfl (by trivial)) (q0d (q0u (q0g q5h (pe_c C.draw hr (q0a (pv 0) (q0a q0f q0c))) q0f (nomark _)) (q0b (q0j (i:=2) sc_rule.nd rfl (by trivial) (q0s q0n (pv 2) (q0t (ix_k K rfl) q0h (pe_c C.draw hr (q0a (pv 0) (q0a q0f q0c))) (fun _ _=>rfl)))) (q0d (q0j (i:=3) sc_rule.nd rfl (by trivial) (q0s q0n (pv 3) q0f)))) (q0d (q0j (i:=2) sc_rule.nd rfl (by trivial) (q0s q0n (pv 2) (pe_c C.text hr (q0a (pv 0) (q0a (pv 1) (q0a q0f q0c)))))))))) (q0b (q0j (i:=5) sc_rule.nd rfl (by trivial) q0h) (q0b (q1h Bd rfl (q1v rfl T.b_range (q0a (q0s q0n q0f (pe_c C.draw hr (q0a (pv 0) (q0a q0f q0c)))) q0c)) (q0k (i:=4) sc_rule.nd rfl (by trivial)) (q0b (q0j (i:=6) sc_rule.nd rfl (by trivial) (pe_c C.text hr (q0a (pv 0) (q0a (pv 1) (q0a q0f q0c))))) (q1k (q0u (pt_j (@PW.pt _ _ _ (q2w (q0g q5h (pv 3) q0f (nomark _)) (q2k (q0g q5h (pe_c C.draw hr (q0a (pv 0) (q0a q0f q0c))) q0f (nomark _)))))) (q0d (q0j (i:=6) sc_rule.nd rfl (by trivial) (q0s q0n (q0s q0n (q0s q0n q0h (q1j q5v (by rfl) T.b_str (by decide +kernel) (q0a (q0s q0n q0f (pe_c C.draw hr (q0a (pv 0) (q0a (pv 3) q0c)))) q0c))) (q0t (ix_k K rfl) (q1t (q0a q0h (q0a q0h (q0a q0h (q0a q0h (q0a q0h q0c)))))) (pe_c C.draw hr (q0a (pv 0) (q0a q0f q0c))) (fun _ _=>rfl))) q0h))) q0i) (q1k (q0u (pt_j (@PW.pt _ _ _ (q2w (q0g (ne_k K rfl hr) (pv 5) q0h (nomark _)) (q2w (q0g (ne_k K rfl hr) (q0t (ix_k K rfl) (pv 5) (z3i q6q q0f) (fun _ _=>rfl)) q0h (nomark _)) (q2k (q0g (eq_k K rfl hr) (pe_c C.draw hr (q0a (pv 0) (q0a q0f q0c))) q0f (nomark _))))))) (q0d (q0j (i:=6) sc_rule.nd rfl (by trivial) (q0s q0n q0h (pv 6)))) q0i) (q0d (q0j (i:=5) sc_rule.nd rfl (by trivial) (q0s q0n (pv 5) (pv 6)))))))) (q0d (q0l (q0w (q0a q0h (q0a (pv 2) (q0a (pv 5) (q0a (pe_c C.draw hr (q0a (pv 0) (q0a q0f q0c))) q0c)))))))))))),?_⟩;have e0:Aa "" = mk []:=by decide +kernel
  refine⟨_,rfl,a,b,3,rfl,F,by decide,by decide,fun r1 H1 r10 r11 fd1=>.inl ⟨_,_,rfl,rfl,?_⟩⟩;obtain⟨n1,rfl⟩:∃n:Nat,r1=(n:Int):=⟨r1.toNat,by lia⟩
  rw[show(1:Int)+(n1:Int)=((n1+1:Nat):Int) by lia];refine⟨((n1+1:Nat):Int),rfl,by lia,by lia,q1w (n:=n1+1) (fun i σ' H'=>∃l x4,σ'=[some (.ref a),some (.str g),some (.str (mk l)),some (.int ((gpn l:Nat):Int)),x4,none,none]/\Fd a b H H'/\l.length=i/\∀c∈l,c∈GS\/c∈NS) ⟨[],_,by rw[e0];rfl,fd1,rfl,(fun _ h=>nomatch h)⟩ ?_ ?_⟩
  ·rintro i σ' H2 hi ⟨l,x4,rfl,fd2,hl,hlo⟩;refine⟨_,rfl,a,b,4,rfl,fd2.feed,by decide,by decide,fun r H3 r0 r1 fd3=>⟨_,_,rfl,rfl,_,rfl,ite2 (fun h=>?_) (fun h=>?_)⟩⟩
   ·refine⟨_,rfl,_,rfl,a,b,5,rfl,fd3.feed,by decide,by decide,fun r4 H4 r40 r41 fd4=>?_⟩;obtain⟨c,hc1,hc2⟩:=z2d (xs:=tl (Aa "?*@#?")) r40 (by rw[<- len,g5l];exact r41);refine .inr (.inr ⟨_,r4,c,rfl,rfl,by rw[g5l];exact small (by decide),hc2,?_⟩);refine .inr (.inl ⟨_,_,rfl,rfl,by rw[q0o];exact small (by show _+1<=_;lia),?_⟩);rw[show(⟨#[c]⟩:Str)=mk [c] from rfl,q2v];refine⟨_,rfl,.inl ⟨_,_,rfl,rfl,l++[c],some (.int (0+(i:Int))),?_,(fd2.trans fd3).trans fd4,by rw[Ac,hl];rfl,fun d hd=>?_⟩⟩
    ·rw[z3a,if_pos (g5 c (As hc1))];rfl
    ·rcases Aw.mp hd with z|z
     ·exact hlo d z
     ·rw[Al.mp z];exact .inl (g5 c (As hc1))
   ·refine⟨_,rfl,_,rfl,_,rfl,a,b,g,1,rfl,fd3.feed,hg0,hg1,by decide,by decide,fun t H4 ht htg fd4=>?_⟩;obtain⟨c,rfl⟩:∃c,t=[c]:=by
     match t,ht with
     |[c],_=>exact⟨c,rfl⟩
    have hcn:=hgn c (htg c (by simp));refine .inr (.inl ⟨_,_,rfl,rfl,by rw[q0o,q0o];exact small (by show _+1<=_;lia),?_⟩);rw[q2v];refine⟨l++[c],some (.int (0+(i:Int))),?_,(fd2.trans fd3).trans fd4,by rw[Ac,hl];rfl,fun d hd=>?_⟩
    ·rw[z3a,if_neg (fun z=>(gs3 c z).2 hcn)];rfl
    ·rcases Aw.mp hd with z|z
     ·exact hlo d z
     ·rw[Al.mp z];exact .inr hcn
  rintro σ' H2 ⟨l,x4,rfl,fd2,hl,hlo⟩;have hG:gpn l<=3:=Ap (Cs _ _) (by lia);refine⟨_,rfl,a,b,3,rfl,fd2.feed,by decide,by decide,fun r2 H3 r20 r21 fd3'=>.inl ⟨_,_,rfl,rfl,?_⟩⟩;have fd3:=fd2.trans fd3';obtain⟨n2,rfl⟩:∃n:Nat,r2=(n:Int):=⟨r2.toNat,by lia⟩
  rw[show(1:Int)+(n2:Int)=((n2+1:Nat):Int) by lia];refine⟨((n2+1:Nat):Int),rfl,by lia,by lia,q1w (n:=n2+1) (fun i σ' H'=>∃ts x4 x6,σ'=[some (.ref a),some (.str g),some (.str (mk l)),some (.int ((gpn l:Nat):Int)),x4,some (.str (mk (flatP ts))),x6]/\Fd a b H H'/\(ts=[]\/inOk true ts)/\(0<i->ts≠[])/\ts.length<=2*i-1/\(∀q∈ts,tokB (gpn l) q=true)/\(flatP ts).length<=6*i) ⟨[],_,_,by rw[e0];rfl,fd3,.inl rfl,fun z=>absurd z (by lia),Au _,(fun _ h=>nomatch h),Au _⟩ ?_ ?_⟩
  ·rintro i σ' H4 hi ⟨ts,x4,x6,rfl,fd4,hin,hne,htl,htok,hfl⟩;refine⟨_,rfl,_,rfl,a,b,g,1,rfl,fd4.feed,hg0,hg1,by decide,by decide,fun t H5 ht htg fd5'=>?_⟩;have fd5:=fd4.trans fd5';have ht1:t.length=1:=ht;refine⟨fun σ' H'=>∃q,σ'=[some (.ref a),some (.str g),some (.str (mk l)),some (.int ((gpn l:Nat):Int)),some (.int (0+(i:Int))),some (.str (mk (flatP ts))),some (.str (mk q.wr))]/\Fd a b H H'/\tokB (gpn l) q=true/\pcI q=false/\q.wr.length<=5,?_,?_⟩;rotate_left
   ·refine⟨fun bb H'=>Fd a b H H'/\(bb=true->0<gpn l),?_,?_⟩;rotate_left
    ·refine⟨_,rfl,_,_,rfl,rfl,_,rfl,ite2 (fun h=>?_) (fun h=>⟨fd5,fun z=>(by cases z)⟩)⟩;have hp:0<gpn l:=by have:=of_decide_eq_true h;lia
     exact⟨_,rfl,a,b,6,rfl,fd5.feed,by decide,by decide,fun r H6 _ _ fd6=>⟨_,_,rfl,rfl,_,rfl,fd5.trans fd6,fun _=>hp⟩⟩
    rintro bb H6 ⟨fd6,hbb⟩;refine ite2 (fun h=>?_) (fun h=>⟨.tx t,rfl,fd6,decide_eq_true ⟨ht1,fun c hc=>hgn c (htg c hc)⟩,rfl,by show t.length<=5;lia⟩);have hp:=hbb h;refine⟨_,rfl,_,rfl,a,b,_,rfl,fd6.feed,by lia,by lia,fun r7 H7 r70 r71 fd7=>.inl ⟨_,_,rfl,rfl,?_⟩⟩;obtain⟨k7,rfl⟩:∃n:Nat,r7=(n:Int):=⟨r7.toNat,by lia⟩
    rw[show(1:Int)+(k7:Int)=((k7+1:Nat):Int) by lia];refine⟨k7+1,rfl,by lia,?_⟩;rw[x1k];have l123:(Aa "{").length=1:=by decide +kernel
    have l125:(Aa "}").length=1:=by decide +kernel
    have ldg:(mk (dg (k7+1))).length=1:=by rw[q0o,q2h (by lia)];rfl
    refine .inr (.inl ⟨_,_,rfl,rfl,by rw[l123,ldg];exact small (by decide),by show 5<=sizeLine;decide,fun kl hkl=>?_⟩);have fdk:=(fd6.trans fd7).new (o:=.lst [.str (Aa ""),.str (Aa ""),.str (Aa "u"),.str (Aa "l"),.str (Aa "z2")]) hkl;have kls:upd H7 kl (.lst [.str (Aa ""),.str (Aa ""),.str (Aa "u"),.str (Aa "l"),.str (Aa "z2")]) kl=some (.lst [.str (Aa ""),.str (Aa ""),.str (Aa "u"),.str (Aa "l"),.str (Aa "z2")]):=q0e;have hka:kl≠a:=((fd6.trans fd7).feed.na hkl).symm;generalize upd H7 kl (.lst [.str (Aa ""),.str (Aa ""),.str (Aa "u"),.str (Aa "l"),.str (Aa "z2")])=H8 at fdk kls;refine⟨_,rfl,a,b,5,rfl,fdk.feed,by decide,by decide,fun r9 H9 r90 r91 fd9=>.inl ⟨kl,_,r9,_,rfl,rfl,SqL.of (fd9.at kls hka),x2j r90 r91,?_⟩⟩;have lgs:=z9g r9.toNat;refine .inr (.inl ⟨_,_,rfl,rfl,by rw[z0y,l123,ldg];exact small (by lia),?_⟩);refine .inr (.inl ⟨_,_,rfl,rfl,by rw[z0y,z0y,l123,ldg,l125];exact small (by lia),?_⟩);rw[gap_wr (by lia) (by lia)];obtain⟨g1,g2,g3⟩:=x2i (g:=gpn l) (k:=k7+1) (j:=r9.toNat) (by lia) (by lia);exact⟨_,rfl,fdk.trans fd9,g1,g2,g3⟩
   clear fd5 fd5' ht htg ht1;rintro σ' H5 ⟨q,rfl,fd5,hq1,hq2,hq3⟩;refine⟨fun σ' H'=>∃us,σ'=[some (.ref a),some (.str g),some (.str (mk l)),some (.int ((gpn l:Nat):Int)),some (.int (0+(i:Int))),some (.str (mk (flatP ts))),some (.str (mk (flatP us)))]/\Fd a b H H'/\(us=[q]\/(us=[.into,q]/\ts≠[])),?_,?_⟩;rotate_left
   ·refine⟨fun bb H'=>Fd a b H H'/\(bb=true->ts≠[]),?_,?_⟩;rotate_left
    ·refine⟨_,rfl,.inl ⟨rfl,_,rfl,ite2 (fun h=>?_) (fun h=>⟨fd5,fun z=>(by cases z)⟩)⟩⟩;have hfn:flatP ts≠[]:=fun z=>by rw[z,<- e0,decide_eq_true rfl] at h;cases h
     have htn:ts≠[]:=fun z=>hfn (by rw[z];rfl);have hpos:=Bx.mpr hfn;obtain⟨c,hc⟩:∃c,atI (tl (mk (flatP ts))) (-1:Int)=some c:=by
      rw[q0v];unfold atI ixN;rw[if_neg (by decide),if_pos (by lia)];exact⟨_,Bi (by lia)⟩
     refine⟨_,rfl,_,rfl,.inr (.inr ⟨_,_,c,rfl,rfl,by rw[q0o];exact small (by lia),hc,.inl ⟨rfl,_,rfl,ite2 (fun h=>?_) (fun h=>⟨fd5,fun z=>(by cases z)⟩)⟩⟩)⟩;exact⟨_,rfl,a,b,4,rfl,fd5.feed,by decide,by decide,fun r H6 _ _ fd6=>.inl ⟨rfl,_,rfl,fd5.trans fd6,fun _=>htn⟩⟩
    rintro bb H6 ⟨fd6,hbb⟩;have e1:flatP [q]=q.wr:=by simp[flatP]
    refine ite2 (fun h=>?_) (fun h=>⟨[q],by rw[e1],fd6,.inl rfl⟩);refine⟨_,rfl,.inr (.inl ⟨_,_,rfl,rfl,by rw[show(Aa "/").length=1 by decide +kernel,q0o];exact small (by lia),?_⟩)⟩;refine⟨[.into,q],?_,fd6,.inr ⟨rfl,hbb h⟩⟩;rw[show Aa "/" = mk [47] by decide +kernel,q2v,show flatP [.into,q]=[47]++q.wr by simp[flatP,Pc.wr]];rfl
   clear fd5;rintro σ' H6 ⟨us,rfl,fd6,hus⟩;have lus:(flatP us).length<=6:=by
    rcases hus with rfl|⟨rfl,_⟩
    ·rw[show flatP [q]=q.wr by simp[flatP]];lia
    ·rw[show flatP [.into,q]=[47]++q.wr by simp[flatP,Pc.wr],Ac];show 1+_<=_;lia
   refine⟨_,rfl,_,rfl,.inr (.inl ⟨_,_,rfl,rfl,by rw[q0o,q0o];exact small (by lia),?_⟩)⟩;rw[q2v,<- q1r];have htok':∀p∈us,tokB (gpn l) p=true:=fun p hp=>by
    rcases hus with rfl|⟨rfl,_⟩
    ·rw[Al.mp hp];exact hq1
    ·rcases Am.mp hp with z|z
     ·rw[z];rfl
     ·rw[Al.mp z];exact hq1
   refine⟨ts++us,_,_,rfl,fd6,.inr ?_,fun _ z=>?_,?_,fun p hp=>(Aw.mp hp).elim (htok p) (htok' p),by rw[q1r,Ac];lia⟩
   ·rcases hus with rfl|⟨rfl,hn⟩
    ·rcases hin with z|z
     ·rw[z];exact(q1d hq2).mpr rfl
     ·exact q8u hq2 z
    ·exact q6j hq2 (hin.resolve_left hn)
   ·have:=(Hs.mp z).2;rcases hus with rfl|⟨rfl,_⟩<;>cases this
   ·rw[Ac];rcases hus with rfl|⟨rfl,hn⟩
    ·show ts.length+1<=_;lia
    ·show ts.length+2<=_;have hi0:0<i:=by
      rcases Nat.eq_zero_or_pos i with z|z
      ·exfalso;rw[z] at htl;exact hn (List.length_eq_zero_iff.mp (by lia))
      ·exact z
     lia
  rintro σ' H4 ⟨ts,x4',x6,rfl,fd4,hin,hne,htl,htok,hfl⟩;have htn:=hne (by lia);refine⟨_,rfl,_,rfl,_,rfl,a,b,3,rfl,fd4.feed,by decide,by decide,fun st H5 st0 st1 fd5=>⟨by show 4<=sizeLine;decide,fun R hR=>?_⟩⟩;obtain⟨sn,rfl⟩:∃n:Nat,st=(n:Int):=⟨st.toNat,by lia⟩
  have fd5':=fd4.trans fd5;have s6:=(Same.refl H5).new (o:=.tup [.str (Aa "slip"),.str (mk l),.str (mk (flatP ts)),.int (sn:Int)]) hR;exact k R l ts sn _ (fd5'.free hR) (fd5'.same s6) ⟨q0e,⟨Bx.mp (by lia),by lia,hlo,hin.resolve_left htn,by lia,htok⟩,by lia,htn⟩ (by lia) (by lia) (by lia)
end
end K
set_option maxHeartbeats 4000000
namespace K
open PySem L2 TX
section
variable{P:Program}{w:World}{K:Ae}{mg:Str->Option Value}{base:Heap}
def subG(j:Nat)(q':Pc):Pc->Pc
 |.gap k=>if k=j then q' else .gap k
 |q=>q
theorem z7a:∀c∈NS,c≠123/\c≠47/\c≠42/\c≠63:=by decide +kernel
theorem x2l{G j n k:Nat}{z r:List Nat}{q:Pc}(hG:G<=9)(h:tokB G q=true)(hn:q≠.gap j):rpl (Pc.gap j).wr z (n+q.wr.length) k (q.wr++r)=q.wr++rpl (Pc.gap j).wr z n k r:=by
 have hy:(Pc.gap j).wr=123::[48+j,125]:=rfl;have mark:∀t:List Nat,q.wr=123::t->(∀c∈t,c≠123)->(t++r).take 2≠[48+j,125]->rpl (Pc.gap j).wr z (n+q.wr.length) k (q.wr++r)=q.wr++rpl (Pc.gap j).wr z n k r:=fun t e ht hne=>by
  rw[e];show rpl (Pc.gap j).wr z (n+t.length+1) k (123::(t++r))=123::(t++_)
  rw[q7w (fun w=>hne (by rw[hy] at w;injection w)),q2i hy ht]
 cases q with
 |into=>exact q2i hy fun c hc=>by rw[Al.mp hc];decide
 |tx t =>
  have h:=of_decide_eq_true h;exact q2i hy fun c hc=>(z7a c (h.2 c hc)).1
 |gap i =>
  have h:=of_decide_eq_true h;refine mark [48+i,125] rfl (fun c hc=>?_) (fun w=>?_)
  ·rcases Am.mp hc with z|z
   ·lia
   ·rw[Al.mp z];decide
  ·have w:[48+i,125]=[48+j,125]:=w;injection w with w;exact hn (by rw[show i=j by lia])
 |great i =>
  have h:=of_decide_eq_true h;refine mark [48+i,117,125] rfl (fun c hc=>?_) (fun w=>?_)
  ·simp only[Am,Bl,or_false] at hc;lia
  ·have w:[48+i,117]=[48+j,125]:=w;injection w with _ w;injection w with w;lia
 |small i =>
  have h:=of_decide_eq_true h;refine mark [48+i,108,125] rfl (fun c hc=>?_) (fun w=>?_)
  ·simp only[Am,Bl,or_false] at hc;lia
  ·have w:[48+i,108]=[48+j,125]:=w;injection w with _ w;injection w with w;lia
 |nou i v =>
  have h:=of_decide_eq_true h;refine mark [48+i,122,48+v,125] rfl (fun c hc=>?_) (fun w=>?_)
  ·simp only[Am,Bl,or_false] at hc;lia
  ·have w:[48+i,122]=[48+j,125]:=w;injection w with _ w;injection w with w;lia
 |_=>cases h
theorem q8x{G j:Nat}{q':Pc}(hG:G<=9):∀{ts:List Pc} {n k:Nat},(∀q∈ts,tokB G q=true)->(flatP ts).length<n->(flatP ts).length<k->rpl (Pc.gap j).wr q'.wr n k (flatP ts)=flatP (ts.map (subG j q'))
 |[],n,k,_,hn,hk=>by
  cases n with
  |zero=>exact absurd hn (by lia)
  |succ n =>
   show rpl (Pc.gap j).wr q'.wr (n+1) k []=[]
   rw[q9x,if_neg fun w=>by have:=w.2;cases this];rfl
 |q::r,n,k,h,hn,hk=>by
  have hr:=fun p hp=>h p (Ah _ hp);rw[q0p,Ac] at hn hk;rw[q0p,Ay,q0p];by_cases hq:q=.gap j
  ·rw[hq] at hn hk ⊢;have hw:(Pc.gap j).wr.length=3:=rfl;rw[hw] at hn hk;obtain⟨m,rfl⟩:∃m,n=m+1:=⟨n-1,by lia⟩
   rw[q5d (by lia),q8x hG hr (by lia) (by lia)];show _=(if j=j then q' else _).wr++_;rw[if_pos rfl]
  ·obtain⟨m,rfl⟩:∃m,n=m+q.wr.length:=⟨n-q.wr.length,by lia⟩
   rw[x2l hG (h q Ai) hq,q8x hG hr (by lia) (by lia)];have e:subG j q' q=q:=by
    cases q with
    |gap i=>show(if i=j then q' else .gap i)=_;rw[if_neg fun z=>hq (by rw[z])]
    |_=>rfl
   rw[e]
theorem wr47{G:Nat}{q:Pc}(hG:G<=9)(h:tokB G q=true)(hi:pcI q=false):∀c∈q.wr,c≠47:=by
 cases q with
 |into=>cases hi
 |tx t=>exact fun c hc=>(z7a c ((of_decide_eq_true h).2 c hc)).2.1
 |gap i=>have h:=of_decide_eq_true h;intro c hc;simp only[Pc.wr,Am,Bl,or_false] at hc;lia
 |great i=>have h:=of_decide_eq_true h;intro c hc;simp only[Pc.wr,Am,Bl,or_false] at hc;lia
 |small i=>have h:=of_decide_eq_true h;intro c hc;simp only[Pc.wr,Am,Bl,or_false] at hc;lia
 |nou i v=>have h:=of_decide_eq_true h;intro c hc;simp only[Pc.wr,Am,Bl,or_false] at hc;lia
 |_=>cases h
theorem flat47{G:Nat}{ts:List Pc}(hG:G<=9)(h:∀q∈ts,tokB G q=true)(hi:∀q∈ts,pcI q=false):∀c∈flatP ts,c≠47:=fun c hc=>by
 have e:flatP ts=ts.flatMap Pc.wr:=by unfold flatP;rw[Hw]
 rw[e] at hc;obtain⟨q,hq,hc⟩:=Dw.mp hc;exact wr47 hG (h q hq) (hi q hq) c hc
theorem z3b:∀ts:List Pc,(∀q∈ts,pcI q=false)\/∃a r,ts=a++.into::r/\∀q∈a,pcI q=false
 |[]=>.inl (fun _ h=>nomatch h)
 |q::r=>by
  cases hq:pcI q with
  |true =>
   refine .inr ⟨[],r,?_,(fun _ h=>nomatch h)⟩;cases q with
   |into=>rfl
   |_=>cases hq
  |false =>
   rcases z3b r with h|⟨a,s,rfl,h⟩
   ·exact .inl fun p hp=>(Am.mp hp).elim (fun z=>by rw[z];exact hq) (h p)
   ·exact .inr ⟨q::a,s,rfl,fun p hp=>(Am.mp hp).elim (fun z=>by rw[z];exact hq) (h p)⟩
theorem x2m{G:Nat}{ts:List Pc}(hG:G<=9)(h:∀q∈ts,tokB G q=true)(hi:inOk true ts):∃us,rpl [47] [] ((flatP ts).length+1) 1 (flatP ts)=flatP us/\inOk true us/\us.length<=ts.length/\∀q∈us,tokB G q=true:=by
 rcases z3b ts with hn|⟨a,r,rfl,ha⟩
 ·refine⟨ts,?_,hi,Af _,h⟩;have:=q2i (y:=[47]) (z:=[]) (n:=1) (k:=1) (r:=[]) rfl (flat47 hG h hn);rw[By,Nat.add_comm] at this;rw[this];show flatP ts++[]=_;rw[By]
 ·refine⟨a++r,?_,z2y ha hi,by rw[Ac,Ac,Ar];lia,fun q hq=>h q ((Aw.mp hq).elim (Bu _) fun z=>Av _ (Ah _ z))⟩;have e:flatP (a++.into::r)=flatP a++([47]++flatP r):=by rw[q1r,q0p];rfl
  have el:(flatP a++(([47]:List Nat)++flatP r)).length+1=((flatP r).length+1+1)+(flatP a).length:=by simp only[Ac,Bh];lia
  rw[e,el,q2i rfl (flat47 hG (fun q hq=>h q (Bu _ hq)) ha),q5d (by decide),q7x,q1r];rfl
theorem z1s{c d:Nat}:∀{l:List Nat} {n k:Nat},l.length<n->l.length<k->rpl [c] [d] n k l=l.map fun x=>if x=c then d else x
 |[],n,k,hn,_=>by
  cases n with
  |zero=>exact absurd hn (by lia)
  |succ n=>rw[q9x,if_neg fun w=>by have:=w.2;cases this];rfl
 |x::l,n,k,hn,hk=>by
  rw[Ar] at hn hk;obtain⟨m,rfl⟩:∃m,n=m+1:=⟨n-1,by lia⟩
  rw[Ay];by_cases hx:x=c
  ·rw[if_pos hx,hx];have:=q5d (y:=[c]) (z:=[d]) (r:=l) (n:=m) (k:=k) (by lia);rw[show c::l=[c]++l from rfl,this,z1s (by lia) (by lia)];rfl
  ·rw[if_neg hx,q7w (fun w=>hx (by injection w)),z1s (by lia) (by lia)]
theorem z9h{l:List Nat}:rpl [42] [42,42] (l.length+1) 1 l=l\/∃a r,l=a++42::r/\rpl [42] [42,42] (l.length+1) 1 l=a++42::42::r:=by
 by_cases h:42∈l
 ·obtain⟨a,r,e,ha⟩:∃a r,l=a++42::r/\∀c∈a,c≠42:=by
   induction l with
   |nil=>cases h
   |cons x l ih =>
    by_cases hx:x=42
    ·exact⟨[],l,by rw[hx];rfl,(fun _ h=>nomatch h)⟩
    ·obtain⟨a,r,e,ha⟩:=ih ((Am.mp h).resolve_left fun z=>hx z.symm);exact⟨x::a,r,by rw[e];rfl,fun c hc=>(Am.mp hc).elim (fun z=>by rw[z];exact hx) (ha c)⟩
  refine .inr ⟨a,r,e,?_⟩;rw[e,show(a++42::r).length+1=(r.length+1+1)+a.length by simp only[Ac,Ar];lia,q2i rfl ha];rw[show 42::r=[42]++r from rfl,q5d (by decide),q7x];rfl
 ·refine .inl ?_;have:=q2i (y:=[42]) (z:=[42,42]) (n:=1) (k:=1) (r:=[]) rfl (fun c hc (z:c=42)=>h (z▸hc));rw[By,Nat.add_comm] at this;rw[this];show l++[]=_;rw[By]
theorem z7b{G G':Nat}{q:Pc}(h:G<=G')(t:tokB G q=true):tokB G' q=true:=by
 cases q with
 |into=>rfl
 |tx _=>exact t
 |gap k=>have t:=of_decide_eq_true t;exact decide_eq_true ⟨t.1,by lia⟩
 |great k=>have t:=of_decide_eq_true t;exact decide_eq_true ⟨t.1,by lia⟩
 |small k=>have t:=of_decide_eq_true t;exact decide_eq_true ⟨t.1,by lia⟩
 |nou k v=>have t:=of_decide_eq_true t;exact decide_eq_true ⟨t.1,by lia,t.2.2⟩
 |_=>cases t
theorem Raw.flen{l:List Nat}{ts:List Pc}(h:Raw l ts):(flatP ts).length<=30:=by
 have hG:gpn l<=5:=Ap (Cs _ _) h.ll;have:=q7b (l:=ts) (f:=Pc.wr) (m:=5) fun q hq=>(tokF (by lia) (h.tok q hq)).wl;have e:flatP ts=ts.flatMap Pc.wr:=by unfold flatP;rw[Hw]
 have:=h.len;rw[e];lia
theorem Raw.gl{l:List Nat}{ts:List Pc}(h:Raw l ts):gpn l<=5:=Ap (Cs _ _) h.ll
theorem Raw.sub{l:List Nat}{ts:List Pc}{j:Nat}{q':Pc}(h:Raw l ts)(hq:tokB (gpn l) (.gap j)=true->tokB (gpn l) q'=true)(hi:pcI q'=false):Raw l (ts.map (subG j q')):=by
 refine⟨h.ne,h.ll,h.lo,q8v (fun q=>?_) h.ti,by rw[Ad];exact h.len,fun q hq'=>?_⟩
 ·cases q with
  |gap k=>show pcI (if k=j then q' else .gap k)=false;split;exact hi;rfl
  |_=>rfl
 ·obtain⟨p,hp,rfl⟩:=Bt.mp hq';have tp:=h.tok p hp;cases p with
  |gap k =>
   show tokB (gpn l) (if k=j then q' else .gap k)=true;split
   ·rename_i z;rw[z] at tp;exact hq tp
   ·exact tp
  |_=>exact tp
theorem q8y{l:List Nat}{ts:List Pc}{j:Nat}{q':Pc}(h:Raw l ts):Ji (mk (flatP ts)) (mk (Pc.gap j).wr) (mk q'.wr)=mk (flatP (ts.map (subG j q'))):=by
 apply ext;have:=h.gl;rw[q6y _ _ _ (by rw[q0v];exact fun z=>by cases z),q0v,q0v,q0v,q0v,q8x (G:=gpn l) (by lia) h.tok (by lia) (by lia)]
theorem z1t(a b:List Nat):gpn (a++b)=gpn a+gpn b:=by unfold gpn;rw[Fh,Ac]
theorem Raw.star{l l':List Nat}{ts:List Pc}(h:Raw l ts)(hl:l.length<=4)(e:l'=l\/∃a r,l=a++42::r/\l'=a++42::42::r):Raw l' ts/\l'.length<=l.length+1:=by
 rcases e with rfl|⟨a,r,rfl,rfl⟩
 ·exact⟨h,by lia⟩
 ·have h42:42∈GS:=by decide +kernel
  have g:gpn (a++42::r)<=gpn (a++42::42::r):=by
   rw[z1t,z1t,show 42::42::r=[42]++42::r from rfl,z1t [42]];lia
  refine⟨⟨fun z=>(by cases(Hs.mp z).2),?_,fun c hc=>?_,h.ti,h.len,fun q hq=>z7b g (h.tok q hq)⟩,?_⟩
  ·rw[Ac,Ar] at hl ⊢;rw[Ar];lia
  ·rcases Aw.mp hc with z|z
   ·exact h.lo c (Bu _ z)
   ·rcases Am.mp z with z|z
    ·rw[z];exact .inl h42
    ·exact h.lo c (Av _ z)
  ·simp only[Ac,Ar];lia
theorem z7c{l:List Nat}:∃l',replace1 (mk l) (Aa "*") (Aa "**")=mk l'/\(l'=l\/∃a r,l=a++42::r/\l'=a++42::42::r):=by
 have e1:tl (Aa "*")=[42]:=by decide +kernel
 have e2:tl (Aa "**")=[42,42]:=by decide +kernel
 have key:∀l',rpl [42] [42,42] (l.length+1) 1 l=l'->replace1 (mk l) (Aa "*") (Aa "**")=mk l':=fun l' e=>by
  apply ext;rw[q5w _ _ _ (by rw[e1];exact fun z=>by cases z),e1,e2,q0v,q0v,e]
 rcases z9h (l:=l) with e|⟨a,r,e,e'⟩
 ·exact⟨l,key l e,.inl rfl⟩
 ·exact⟨_,key _ e',.inr ⟨a,r,e,rfl⟩⟩
def q2a(c:Nat):Nat:=if c=63 then 64 else c
theorem repl_q{l:List Nat}:Ji (mk l) (Aa "?") (Aa "@")=mk (l.map q2a):=by
 have e1:tl (Aa "?")=[63]:=by decide +kernel
 have e2:tl (Aa "@")=[64]:=by decide +kernel
 apply ext;rw[q6y _ _ _ (by rw[e1];exact fun z=>by cases z),e1,e2,q0v,q0v,z1s (by lia) (by lia)];rfl
theorem x0k(c:Nat):q2a c∈GS↔c∈GS:=by
 unfold q2a;have h1:63∈GS:=by decide +kernel
 have h2:64∈GS:=by decide +kernel
 split
 ·rename_i z;rw[z];exact⟨fun _=>h1,fun _=>h2⟩
 ·exact Iff.rfl
theorem Raw.q{l:List Nat}{ts:List Pc}(h:Raw l ts):Raw (l.map q2a) ts:=by
 have g:gpn (l.map q2a)=gpn l:=by
  unfold gpn;rw[<- Jg,<- Jg,List.countP_map];refine List.countP_congr fun c _=>?_;show decide (q2a c∈GS)=true↔decide (c∈GS)=true;rw[decide_eq_true_iff,decide_eq_true_iff];exact x0k c
 refine⟨fun z=>h.ne (Ms.mp z),by rw[Ad];exact h.ll,fun c hc=>?_,h.ti,h.len,by rw[g];exact h.tok⟩;obtain⟨d,hd,rfl⟩:=Bt.mp hc;rcases h.lo d hd with z|z
 ·exact .inl ((x0k d).mpr z)
 ·unfold q2a;rw[if_neg (z7a d z).2.2.2];exact .inr z
theorem x2n{l:List Nat}{ts:List Pc}(h:Raw l ts):∃us,replace1 (mk (flatP ts)) (Aa "/") (Aa "")=mk (flatP us)/\Raw l us:=by
 have e1:tl (Aa "/")=[47]:=by decide +kernel
 have e2:tl (Aa "")=[]:=by decide +kernel
 have:=h.gl;obtain⟨us,u1,u2,u3,u4⟩:=x2m (G:=gpn l) (by lia) h.tok h.ti;refine⟨us,?_,h.ne,h.ll,h.lo,u2,Ap u3 h.len,u4⟩;apply ext;rw[q5w _ _ _ (by rw[e1];exact fun z=>by cases z),e1,e2,q0v,q0v,u1]
structure CallsVa (P:Program) (w:World) (K:Ae) (mg:Str->Option Value) (base:Heap):Prop where
 draw:Cal P w K mg base "_law_draw" 1 ["_law_feed", "_law_many"] spDraw
def spVar(K:Ae):Sp:=fun vs H Q _=>∃a b R l ts st,vs=[.ref a,.ref R]/\FeedAt H a b/\RawAt H R l ts st/\l.length<=4/\st<=9/\∀R' l' ts' st' H',(R'=R\/H R'=none)->Fd a b H H'->RawAt H' R' l' ts' st'->l'.length<=l.length+1->st'<=st+1->Q (.ref R') H'
theorem x2o{ts:List Pc}(h:inOk true ts):ts≠[]:=fun z=>by rw[z] at h;cases h
abbrev q6k:Stmt:=top 71
theorem sc_varied:FnScope ["_law_feed", "_law_rule_here", "_law_kind", "_law_pattern", "_law_template", "_law_start", "_law_way"] ["_law_feed", "_law_rule_here"] (defScope q6k):=by trivial
set_option maxHeartbeats 40000000 in
theorem z7d(D:Df K mg "_law_varied" q6k ["_law_feed", "_law_rule_here"])(T:Txt mg)(C:CallsVa P w K mg base):Cal P w K mg base "_law_varied" 2 ["_law_feed", "_law_rule_here"] (spVar K):=by
 refine D.cal sc_varied (fun vs H Q E h=>?_) (fun f cdv A outer s H vs Q E hr h=>?_)
 ·obtain⟨a,b,R,l,ts,st,rfl,_⟩:=h;rfl
 ·obtain⟨a,b,R,l,ts,st,rfl,F,hR,hl,hst,k⟩:=h;refine⟨_,(q0b (q5g (pv 1) (@q2z _ _ _ _ (4) _ K rfl rfl (q0q (q0k (i:=2) sc_varied.nd rfl (by trivial)) (q0q (q0k (i:=3) sc_varied.nd rfl (by trivial)) (q0q (q0k (i:=4) sc_varied.nd rfl (by trivial)) (q0q (q0k (i:=5) sc_varied.nd rfl (by trivial)) q2b)))) (by rfl) (by rfl))) (q0b (q0j (i:=6) sc_varied.nd rfl (by trivial) (pe_c C.draw hr (q0a (pv 0) (q0a q0f q0c)))) (q0b (q0u (q0g (eq_k K rfl hr) (pv 6) q0f (nomark _)) (q0d (q0l (q0w (q3n (q1b (PE.q (pv 3)) (q1b (q5c (pv 4) (by decide +kernel)) (q1b (PE.q (pv 5)) q4j))))))) q0i) (q0b (q0u (q0g (eq_k K rfl hr) (pv 6) q0f (nomark _)) (q0d (q0l (q0w (q3n (q1b (PE.q (pv 3)) (q1b (q5c (pv 4) (by decide +kernel)) (q1b (PE.q (q0s q0n (pv 5) q0f)) q4j))))))) q0i) (q0b (q0u (pt_j (@PW.pt _ _ _ (q2w (q0g (eq_k K rfl hr) (pv 6) q0f (nomark _)) (q2k (q0g (in_k K rfl) q0h (pv 4) (by with_unfolding_all rfl)))))) (q0d (q0l (q0w (q3n (q1b (PE.q (pv 3)) (q1b (q5c (pv 4) (by decide +kernel)) (q1b (PE.q (pv 5)) q4j))))))) q0i) (q0b (q0u (q0g (eq_k K rfl hr) (pv 6) q0f (nomark _)) (q0d (q0l (q0w (q3n (q1b (peq_j (z5x (q0g (eq_k K rfl hr) (q1u (sl_k K rfl) (pv 3) (q1i (z3i q6q q0f)) q7i) q0h (nomark _)) (q9w (pv 3) (by decide +kernel)) (PE.q (pv 3)))) (q1b (PE.q (pv 4)) (q1b (PE.q (pv 5)) q4j))))))) q0i) (q0b (q0u (q0g (eq_k K rfl hr) (pv 6) q0f (nomark _)) (q0d (q0l (q0w (q3n (q1b (q5c (pv 3) (by decide +kernel)) (q1b (PE.q (pv 4)) (q1b (PE.q (pv 5)) q4j))))))) q0i) (q0b (q0u (q0g (eq_k K rfl hr) (pv 6) q0f (nomark _)) (q0d (q0l (q0w (q3n (q1b (PE.q (pv 3)) (q1b (q9w (pv 4) (by decide +kernel)) (q1b (PE.q (pv 5)) q4j))))))) q0i) (q0d (q0l (pv 1))))))))))),?_⟩;refine⟨_,rfl,R,_,rfl,SqT.of hR.at_,rfl,_,_,rfl,_,_,rfl,_,_,rfl,_,_,rfl,rfl,?_⟩;refine⟨_,rfl,a,b,7,rfl,F,by decide,by decide,fun r H1 r0 r1 fd1=>?_⟩;have e1:Aa "{1}" = mk (Pc.gap 1).wr:=by decide +kernel
  have e2:Aa "{2}" = mk (Pc.gap 2).wr:=by decide +kernel
  have e3:Aa "{1u}" = mk (Pc.great 1).wr:=by decide +kernel
  have e4:Aa "{1z1}" = mk (Pc.nou 1 1).wr:=by decide +kernel
  have raw:=hR.ok;have fl:=raw.flen;have flm:(mk (flatP ts)).length<=30:=by rw[q0o];exact fl
  have llm:(mk l).length<=5:=by rw[q0o];exact raw.ll
  have fin:∀{l':List Nat} {ts':List Pc} {st':Nat} {H2:Hp},Fd a b H H2->Raw l' ts'->l'.length<=l.length+1->st'<=st+1->∀R',H2 R'=none->Q (.ref R') (upd H2 R' (.tup [.str (Aa "slip"),.str (mk l'),.str (mk (flatP ts')),.int (st':Int)])):=fun{l' ts' st' H2} fd2 rw' h1 h2 R' hR'=>k R' l' ts' st' _ (.inr (fd2.free hR')) (fd2.same ((Same.refl H2).new hR')) ⟨q0e,rw',by lia,x2o rw'.ti⟩ h1 h2;refine⟨_,rfl,.inl ⟨rfl,_,rfl,ite2 (fun h=>?_) (fun h=>?_)⟩⟩
  ·refine⟨_,rfl,_,rfl,_,rfl,?_,?_⟩
   ·rw[e3,q0o];show _+(_+1)*4<=_;lia
   rw[e1,e3,q8y raw];exact⟨_,rfl,by show 4<=sizeLine;decide,fin fd1 (raw.sub (fun z=>z) rfl) (by lia) (by lia)⟩
  refine⟨_,rfl,.inl ⟨rfl,_,rfl,ite2 (fun h=>?_) (fun h=>?_)⟩⟩
  ·refine⟨_,rfl,_,rfl,_,rfl,?_,?_⟩
   ·rw[e4,q0o];show _+(_+1)*5<=_;lia
   rw[e1,e4,q8y raw];refine⟨_,rfl,.inl ⟨_,_,rfl,rfl,by show 4<=sizeLine;decide,?_⟩⟩;rw[show((st:Int)+1)=((st+1:Nat):Int) by lia];exact fin fd1 (raw.sub (fun z=>decide_eq_true ⟨(of_decide_eq_true z).1,(of_decide_eq_true z).2,by decide,by decide⟩) rfl) (by lia) (Af _)
  refine⟨fun bb H'=>H'=H1,?_,?_⟩;rotate_left
  ·exact⟨_,rfl,.inl ⟨rfl,_,rfl,ite2 (fun h=>⟨_,rfl,.inl ⟨_,_,rfl,rfl,_,rfl,rfl⟩⟩) (fun h=>rfl)⟩⟩
  rintro bb H1' rfl;refine ite2 (fun h=>?_) (fun h=>?_)
  ·refine⟨_,rfl,_,rfl,_,rfl,?_,?_⟩
   ·rw[e1,q0o (Pc.gap 1).wr];show _+(_+1)*3<=_;lia
   rw[e2,e1,q8y raw];exact⟨_,rfl,by show 4<=sizeLine;decide,fin fd1 (raw.sub (fun z=>decide_eq_true ⟨Af _,by have:=(of_decide_eq_true z).2;lia⟩) rfl) (by lia) (by lia)⟩
  refine⟨_,rfl,.inl ⟨rfl,_,rfl,ite2 (fun h=>?_) (fun h=>?_)⟩⟩
  ·refine⟨fun v H'=>H'=H1'/\∃l',v=.str (mk l')/\(l'=l\/∃a r,l=a++42::r/\l'=a++42::42::r),?_,?_⟩
   ·rintro v H' ⟨rfl,l',rfl,e⟩;obtain⟨w1,w2⟩:=raw.star hl e;exact⟨_,rfl,_,rfl,by show 4<=sizeLine;decide,fin fd1 w1 w2 (by lia)⟩
   refine⟨_,rfl,1,rfl,_,rfl,.inl ⟨_,rfl,small (by lia),.inl ⟨rfl,_,rfl,ite2 (fun h=>?_) (fun h=>⟨_,rfl,rfl,l,rfl,.inl rfl⟩)⟩⟩⟩;obtain⟨l',e,e'⟩:=z7c (l:=l);refine⟨_,rfl,_,rfl,by rw[show(Aa "**").length=2 by decide +kernel];lia,rfl,l',?_,e'⟩;rw[e]
  refine⟨_,rfl,.inl ⟨rfl,_,rfl,ite2 (fun h=>?_) (fun h=>?_)⟩⟩
  ·refine⟨_,rfl,_,rfl,?_,?_⟩
   ·rw[show(Aa "@").length=1 by decide +kernel];lia
   rw[repl_q];exact⟨_,rfl,_,rfl,by show 4<=sizeLine;decide,fin fd1 raw.q (by rw[Ad];lia) (by lia)⟩
  refine⟨_,rfl,.inl ⟨rfl,_,rfl,ite2 (fun h=>?_) (fun h=>?_)⟩⟩
  ·obtain⟨us,u1,u2⟩:=x2n raw;refine⟨_,rfl,_,rfl,_,rfl,?_,?_⟩
   ·rw[show(Aa "").length=0 by decide +kernel];lia
   rw[u1];exact⟨_,rfl,by show 4<=sizeLine;decide,fin fd1 u2 (by lia) (by lia)⟩
  ·exact⟨_,rfl,k R l ts st _ (.inl rfl) fd1 ⟨fd1.at hR.at_ (fun z=>by obtain⟨_,_,e⟩:=F.fa;rw[<- z,hR.at_] at e;cases e),raw,hR.st,hR.ne⟩ (by lia) (by lia)⟩
end
end K
set_option maxHeartbeats 4000000
namespace K
open PySem L2 TX
section
variable{P:Program}{w:World}{K:Ae}{mg:Str->Option Value}{base:Heap}
structure Ren (nm:List Nat) (f:Nat->Nat):Prop where
 ns:∀c∈NS,f c∈NS
 nm:∀c∈nm,f c=c
 inj:∀c∈NS,∀d∈NS,f c=f d->c=d
 fi:∀c∈NS,(f c∈FI↔c∈FI)
 le:∀c∈NS,(f c∈LE↔c∈LE)
 up:∀c∈NS,f (up1 c)=up1 (f c)
 lo:∀c∈NS,f (lo1 c)=lo1 (f c)
theorem Ren.map_inj{nm:List Nat}{f:Nat->Nat}(h:Ren nm f):∀{a b:List Nat},(∀c∈a,c∈NS)->(∀c∈b,c∈NS)->a.map f=b.map f->a=b
 |[],[],_,_,_=>rfl
 |[],_::_,_,_,e=>by cases e
 |_::_,[],_,_,e=>by cases e
 |x::a,y::b,ha,hb,e=>by
  injection e with e1 e2;rw[h.inj x (ha x Ai) y (hb y Ai) e1,h.map_inj (fun c hc=>ha c (Ah _ hc)) (fun c hc=>hb c (Ah _ hc)) e2]
theorem Ren.map_fix{nm:List Nat}{f:Nat->Nat}(h:Ren nm f){a:List Nat}(ha:∀c∈a,c∈nm):a.map f=a:=by
 induction a with
 |nil=>rfl
 |cons x r ih=>rw[Ay,h.nm x (ha x Ai),ih fun c hc=>ha c (Ah _ hc)]
theorem Ren.all{nm:List Nat}{f:Nat->Nat}{s:List Nat}(hs:∀c∈NS,(f c∈s↔c∈s)){t:List Nat}(ht:∀c∈t,c∈NS):allOf (t.map f) s=allOf t s:=by
 unfold allOf;rw[List.all_map];congr 1
 ·exact decide_eq_decide.mpr (not_congr Ms)
 ·rw[Fe,Ht,Ht];exact⟨fun w c hc=>decide_eq_true ((hs c (ht c hc)).mp (of_decide_eq_true (w c hc))),fun w c hc=>decide_eq_true ((hs c (ht c hc)).mpr (of_decide_eq_true (w c hc)))⟩
theorem Ren.takes{nm:List Nat}{f:Nat->Nat}(h:Ren nm f){p:Pt}(hp:∀t,p=.tx t->∀c∈t,c∈nm/\c∈NS){t:List Nat}(ht:∀c∈t,c∈NS):p.takes (t.map f)=p.takes t:=by
 cases p with
 |tx l =>
  have hl:=hp l rfl;show decide (t.map f=l)=decide (t=l);refine decide_eq_decide.mpr ⟨fun e=>?_,fun e=>?_⟩
  ·exact h.map_inj ht (fun c hc=>(hl c hc).2) (e.trans (h.map_fix fun c hc=>(hl c hc).1).symm)
  ·rw[e];exact h.map_fix fun c hc=>(hl c hc).1
 |gp c =>
  show gapTakes c (t.map f)=gapTakes c t;unfold gapTakes;rw[Ad,Ren.all (nm:=nm) h.fi ht,Ren.all (nm:=nm) h.le ht]
theorem z7e{n:List Nat}{f:Nat->Nat}(b e:Nat):cut (n.map f) b e=(cut n b e).map f:=by
 unfold cut;rw[List.map_take,List.map_drop]
theorem cut_ns{n:List Nat}(h:∀c∈n,c∈NS)(b e:Nat):∀c∈cut n b e,c∈NS:=fun c hc=>h c (Mk (Dz hc))
def PtNm(nm:List Nat)(ps:List Pt):Prop:=∀p∈ps,∀t,p=.tx t->∀c∈t,c∈nm/\c∈NS
theorem z7f{nm:List Nat}{f:Nat->Nat}(h:Ren nm f){p:Pt}(hp:∀t,p=.tx t->∀c∈t,c∈nm/\c∈NS){n:List Nat}(hn:∀c∈n,c∈NS){L1 L2:Nat->Bool}(hL:∀e,L1 e=L2 e)(b:Nat):far p (n.map f) L1 b=far p n L2 b:=by
 unfold far farTo;rw[Ad];split
 ·congr 1;refine Nv fun e _=>?_;rw[hL,z7e,h.takes hp (cut_ns hn b e)]
 ·rfl
theorem q8z{nm:List Nat}{f:Nat->Nat}(h:Ren nm f){n:List Nat}(hn:∀c∈n,c∈NS):∀{ps:List Pt},PtNm nm ps->∀b,fits (n.map f) ps b=fits n ps b
 |[],_,b=>by show decide (b=(n.map f).length)=decide (b=n.length);rw[Ad]
 |p::ps,hp,b=>by
  have ih:=q8z h hn (ps:=ps) fun q hq=>hp q (Ah _ hq);show(far p (n.map f) (fits (n.map f) ps) b).isSome=(far p n (fits n ps) b).isSome;rw[z7f h (hp p Ai) hn ih]
theorem x0l{nm:List Nat}{f:Nat->Nat}(h:Ren nm f){n:List Nat}(hn:∀c∈n,c∈NS):∀{ps:List Pt},PtNm nm ps->∀b,rd (n.map f) ps b=(rd n ps b).map (List.map f)
 |[],_,b=>rfl
 |p::ps,hp,b=>by
  have hp':PtNm nm ps:=fun q hq=>hp q (Ah _ hq);have ih:=x0l h hn (ps:=ps) hp';show(if p.isG=true then[cut (n.map f) b ((far p (n.map f) (fits (n.map f) ps) b).getD 0)] else[])++rd (n.map f) ps ((far p (n.map f) (fits (n.map f) ps) b).getD 0)=((if p.isG=true then[cut n b ((far p n (fits n ps) b).getD 0)] else[])++rd n ps ((far p n (fits n ps) b).getD 0)).map (List.map f);rw[z7f h (hp p Ai) hn (q8z h hn hp'),ih,Ax,z7e];congr 1;split<;>rfl
theorem ren_wn{nm:List Nat}{f:Nat->Nat}(h:Ren nm f){w:Nat}(h0:48∈nm)(t:List Nat):wn w (t.map f)=(wn w t).map f:=by
 unfold wn;rw[Ax,Ad,List.map_replicate,h.nm 48 h0]
def PcNm(nm:List Nat)(q:Pc):Prop:=isMo q=false/\isCn q=false/\∀c∈pcx q,c∈nm
theorem ren_pc{nm:List Nat}{f:Nat->Nat}(h:Ren nm f){ts:List (List Nat)}(ht:∀t∈ts,∀c∈t,c∈NS){q:Pc}(hq:PcNm nm q)(hi:pcI q=false):pcText (ts.map (List.map f)) 0 q=(pcText ts 0 q).map f:=by
 have gd:∀k,(ts.map (List.map f)).getD k []=(ts.getD k []).map f:=fun k=>by
  rw[Cv,Cv,Bg];cases ts[k]?<;>rfl
 have gn:∀k,∀c∈ts.getD k [],c∈NS:=fun k=>z6m (Pp:=fun t=>∀c∈t,c∈NS) ht (fun _ h=>nomatch h);cases q with
 |into=>cases hi
 |more _ _=>cases hq.1
 |cnt _=>cases hq.2.1
 |tx t=>exact(h.map_fix hq.2.2).symm
 |gap k=>exact gd (k-1)
 |great k =>
  show((ts.map (List.map f)).getD (k-1) []).map up1=((ts.getD (k-1) []).map up1).map f;rw[gd,Cw,Cw];exact Ed fun c hc=>(h.up c (gn _ c hc)).symm
 |small k =>
  show((ts.map (List.map f)).getD (k-1) []).map lo1=((ts.getD (k-1) []).map lo1).map f;rw[gd,Cw,Cw];exact Ed fun c hc=>(h.lo c (gn _ c hc)).symm
 |nou k v =>
  show wn v ((ts.map (List.map f)).getD (k-1) [])=(wn v (ts.getD (k-1) [])).map f;rw[gd];exact ren_wn h (hq.2.2 48 Ai) _
theorem q9a{nm:List Nat}{f:Nat->Nat}(h:Ren nm f){ts:List (List Nat)}(ht:∀t∈ts,∀c∈t,c∈NS):∀{qs:List Pc} {acc:List (List Nat)},(∀q∈qs,PcNm nm q)->acc≠[]->qs.foldl (stepT (ts.map (List.map f)) 0) (acc.map (List.map f))=(qs.foldl (stepT ts 0) acc).map (List.map f)
 |[],_,_,_=>rfl
 |q::qs,acc,hq,h0=>by
  have hq':=fun p hp=>hq p (Ah _ hp);rw[Dn,Dn];cases hi:pcI q with
  |true =>
   have es:∀ts acc,stepT ts 0 acc q=acc++[[]]:=fun ts acc=>by unfold stepT;rw[if_pos hi]
   rw[es,es,<- q9a h ht hq' (by simp),Ax];rfl
  |false =>
   obtain⟨ini,la,rfl⟩:∃i l,acc=i++[l]:=⟨acc.dropLast,acc.getLast h0,(Cz h0).symm⟩
   rw[Ax,Ay,Kn,q2f hi,q2f hi,<- q9a h ht hq' (by simp),ren_pc h ht (hq q Ai) hi,Ax,Ay,Kn,Ax]
theorem z3c{nm:List Nat}{f:Nat->Nat}(h:Ren nm f){r:RD}(hp:PtNm nm (parse [] r.l))(hq:∀q∈r.qs,PcNm nm q){n:List Nat}(hn:∀c∈n,c∈NS):tellO r (n.map f) 0=(tellO r n 0).map (List.map (List.map f)):=by
 unfold tellO tellT;rw[q8z h hn hp,x0l h hn hp];split
 ·have:=q9a h (ts:=rd n (parse [] r.l) 0) (fun t ht c hc=>hn c (z2o _ _ t ht c hc)) (qs:=r.qs) (acc:=[[]]) hq (by simp);exact congrArg some this
 ·rfl
theorem z9i{nm:List Nat}{f:Nat->Nat}(h:Ren nm f){r q:RD}(hr:PtNm nm (parse [] r.l)/\∀p∈r.qs,PcNm nm p)(hq:PtNm nm (parse [] q.l)/\∀p∈q.qs,PcNm nm p)(okr:ROk r)(okq:ROk q){n:List Nat}(hn:∀c∈n,c∈NS)(hl:n.length<=12)(e:tellO r (n.map f) 0=tellO q (n.map f) 0):tellO r n 0=tellO q n 0:=by
 rw[z3c h hr.1 hr.2 hn,z3c h hq.1 hq.2 hn] at e;cases e1:tellO r n 0 with
 |none =>
  cases e2:tellO q n 0 with
  |none=>rfl
  |some b=>rw[e1,e2] at e;cases e
 |some a =>
  cases e2:tellO q n 0 with
  |none=>rw[e1,e2] at e;cases e
  |some b =>
   rw[e1,e2] at e;have e:a.map (List.map f)=b.map (List.map f):=Bq e;have ha:=(q8k okr ⟨hl,hn⟩ (by decide) e1).2.2;have hb:=(q8k okq ⟨hl,hn⟩ (by decide) e2).2.2;have key:∀{a b:List (List Nat)},(∀t∈a,∀c∈t,c∈NS)->(∀t∈b,∀c∈t,c∈NS)->a.map (List.map f)=b.map (List.map f)->a=b:=by
    intro a;induction a with
    |nil=>intro b _ _ e;cases b with
     |nil=>rfl
     |cons _ _=>cases e
    |cons x a ih=>intro b ha hb e;cases b with
     |nil=>cases e
     |cons y b =>
      injection e with e1 e2;rw[h.map_inj (ha x Ai) (hb y Ai) e1,ih (fun t ht=>ha t (Ah _ ht)) (fun t ht=>hb t (Ah _ ht)) e2]
   rw[key (fun t ht=>(ha t ht).2) (fun t ht=>(hb t ht).2) e]
def sw(d e y:Nat):Nat:=if lo1 y=d then(if y=d then e else up1 e) else if lo1 y=e then(if y=e then d else up1 d) else y
abbrev SwP(d e c:Nat):Prop:=(sw d e c∈NS/\sw d e (sw d e c)=c/\decide (sw d e c∈FI)=decide (c∈FI)/\decide (sw d e c∈LE)=decide (c∈LE))/\sw d e (up1 c)=up1 (sw d e c)/\sw d e (lo1 c)=lo1 (sw d e c)
theorem x0m:∀s∈[SO0,SO1,SO2],∀d∈s,∀e∈s,SwP d e d/\SwP d e (up1 d):=by decide +kernel
theorem x2p(d e:Nat):sw d e=sw e d:=by
 funext y;unfold sw;by_cases h:d=e
 ·rw[h]
 ·by_cases h1:lo1 y=d
  ·rw[if_pos h1,if_neg (fun z=>h (h1.symm.trans z)),if_pos h1]
  ·rw[if_neg h1];by_cases h2:lo1 y=e
   ·rw[if_pos h2,if_pos h2]
   ·rw[if_neg h2,if_neg h2,if_neg h1]
theorem ns_up:∀c∈NS,lo1 (up1 c)=lo1 c/\lo1 (lo1 c)=lo1 c/\(c=lo1 c\/c=up1 (lo1 c)):=by decide +kernel
theorem sw_ren{s:List Nat}(hs:s∈[SO0,SO1,SO2]){d e:Nat}(hd:d∈s)(he:e∈s){c:Nat}(hc:c∈NS):SwP d e c:=by
 obtain⟨u1,u2,u3⟩:=ns_up c hc;by_cases h1:lo1 c=d
 ·have:=x0m s hs d hd e he;rw[h1] at u3;rcases u3 with z|z
  ·rw[z];exact this.1
  ·rw[z];exact this.2
 ·by_cases h2:lo1 c=e
  ·have:=x0m s hs e he d hd;unfold SwP;rw[x2p d e];rw[h2] at u3;rcases u3 with z|z
   ·rw[z];exact this.1
   ·rw[z];exact this.2
  ·have i1:sw d e c=c:=by unfold sw;rw[if_neg h1,if_neg h2]
   have i2:sw d e (up1 c)=up1 c:=by unfold sw;rw[u1,if_neg h1,if_neg h2]
   have i3:sw d e (lo1 c)=lo1 c:=by unfold sw;rw[u2,if_neg h1,if_neg h2]
   unfold SwP;rw[i1,i2,i3];exact⟨⟨hc,i1,rfl,rfl⟩,rfl,rfl⟩
theorem so_lo:∀s∈[SO0,SO1,SO2],∀d∈s,lo1 d=d:=by decide +kernel
theorem so_in:∀c∈NS,∃s∈[SO0,SO1,SO2],lo1 c∈s:=by decide +kernel
theorem bo_in:∀c∈NS,c∈both (lo1 c):=by decide +kernel
theorem lo_lo:∀c∈NS,lo1 (lo1 c)=lo1 c:=by decide +kernel
theorem x0n{t:List Nat}{c:Nat}(h:c∈nmd t):lo1 c∈nmd t:=by
 obtain⟨h1,h2⟩:=Bp.mp h;refine Bp.mpr ⟨x1y c h1,?_⟩;show decide (lo1 (lo1 c)∈_)=true;rw[lo_lo c h1];exact h2
theorem z7g{t:List Nat}{c:Nat}(hc:c∈NS)(h:lo1 c∈nmd t):c∈nmd t:=by
 obtain⟨h1,h2⟩:=Bp.mp h;refine Bp.mpr ⟨hc,?_⟩;show decide (lo1 c∈_)=true;have h2:decide (lo1 (lo1 c)∈_)=true:=h2;rw[lo_lo c hc] at h2;exact h2
theorem sw_id{d e y:Nat}(h1:lo1 y≠d)(h2:lo1 y≠e):sw d e y=y:=by unfold sw;rw[if_neg h1,if_neg h2]
theorem Ren.id(nm:List Nat):Ren nm fun c=>c:=⟨fun _ h=>h,fun _ _=>rfl,fun _ _ _ _ h=>h,fun _ _=>Iff.rfl,fun _ _=>Iff.rfl,fun _ _=>rfl,fun _ _=>rfl⟩
theorem Ren.comp{nm:List Nat}{f g:Nat->Nat}(hf:Ren nm f)(hg:Ren nm g):Ren nm fun c=>g (f c):=by
 refine⟨fun c h=>hg.ns _ (hf.ns c h),fun c h=>by rw[hf.nm c h,hg.nm c h],fun c h d h' e=>hf.inj c h d h' (hg.inj _ (hf.ns c h) _ (hf.ns d h') e),fun c h=>(hg.fi _ (hf.ns c h)).trans (hf.fi c h),fun c h=>(hg.le _ (hf.ns c h)).trans (hf.le c h),fun c h=>?_,fun c h=>?_⟩
 ·show g (f (up1 c))=up1 (g (f c));rw[hf.up c h,hg.up _ (hf.ns c h)]
 ·show g (f (lo1 c))=lo1 (g (f c));rw[hf.lo c h,hg.lo _ (hf.ns c h)]
theorem ren_sw{t s:List Nat}{d e:Nat}(hs:s∈[SO0,SO1,SO2])(hd:d∈s)(he:e∈s)(nd:d∉nmd t)(ne:e∉nmd t):Ren (nmd t) (sw d e):=by
 have F:=fun c h=>sw_ren hs hd he (c:=c) h;refine⟨fun c h=>(F c h).1.1,fun c h=>sw_id (fun z=>nd (z▸x0n h)) (fun z=>ne (z▸x0n h)),fun c h c' h' z=>?_,fun c h=>decide_eq_decide.mp (F c h).1.2.2.1,fun c h=>decide_eq_decide.mp (F c h).1.2.2.2,fun c h=>(F c h).2.1,fun c h=>(F c h).2.2⟩;rw[<- (F c h).1.2.1,<- (F c' h').1.2.1,z]
theorem canon{t:List Nat}:∀(m:List Nat),(∀c∈m,c∈NS)->∃f,Ren (nmd t) f/\m.reverse.map f∈lev (nmd t) m.length
 |[],_=>⟨_,Ren.id _,Al.mpr rfl⟩
 |c::m,h=>by
  have hc:=h c Ai;have hm:=fun x hx=>h x (Ah _ hx);obtain⟨f,rf,hf⟩:=canon m hm;have put:∀g,m.reverse.map g=m.reverse.map f->g c∈nmd t++otherS (nmd t) (m.reverse.map f)->(c::m).reverse.map g∈lev (nmd t) (c::m).length:=fun g e1 e2=>by
   rw[Jx,Ax,e1];exact Dw.mpr ⟨_,hf,Bt.mpr ⟨_,e2,rfl⟩⟩
  have hm':∀x∈m.reverse,x∈NS:=fun x hx=>hm x (Og.mp hx);generalize m.reverse=n at *;by_cases h1:c∈nmd t
  ·exact⟨f,rf,put f rfl (Bu _ (by rw[rf.nm c h1];exact h1))⟩
  have hlc:=x1y c hc;have hl1:lo1 c∉nmd t:=fun z=>h1 (z7g hc z);have hfl:f (lo1 c)∉nmd t:=fun z=>hl1 (by rw[<- rf.inj _ (z2w _ z) _ hlc (rf.nm _ z)];exact z);obtain⟨s,hs,hd⟩:=so_in _ (rf.ns c hc);rw[<- rf.lo c hc] at hd;have hfr:f (lo1 c)∈freeS (nmd t) s:=Bp.mpr ⟨hd,by rw[decide_eq_false hfl];rfl⟩;have out:∀g:Nat->Nat,g c∈NS->lo1 (g c)∈useS (nmd t) (n.map f) s->g c∈nmd t++otherS (nmd t) (n.map f):=fun g g0 g1=>by
   refine Av _ (Dw.mpr ⟨s,hs,Dw.mpr ⟨_,g1,bo_in _ g0⟩⟩)
  have lof:∀x∈n,lo1 (f x)=f (lo1 x):=fun x hx=>(rf.lo x (hm' x hx)).symm;by_cases h2:f (lo1 c)∈(n.map f).map lo1
  ·refine⟨f,rf,put f rfl (out f (rf.ns c hc) ?_)⟩;rw[<- rf.lo c hc];exact Bu _ (Bp.mpr ⟨hfr,decide_eq_true h2⟩)
  ·have hff:f (lo1 c)∈(freeS (nmd t) s).filter fun x => !decide (x∈(n.map f).map lo1):=Bp.mpr ⟨hfr,by rw[decide_eq_false h2];rfl⟩;obtain⟨e,he⟩:∃e,e∈((freeS (nmd t) s).filter fun x => !decide (x∈(n.map f).map lo1)).take 1:=by
    cases hz:(freeS (nmd t) s).filter fun x => !decide (x∈(n.map f).map lo1) with
    |nil=>rw[hz] at hff;cases hff
    |cons y r=>exact⟨y,Ai⟩
   obtain⟨e1,e2⟩:=Bp.mp (Dz he);obtain⟨e3,e4⟩:=Bp.mp e1;have e2:e∉(n.map f).map lo1:=by simpa using e2
   have e4:e∉nmd t:=by simpa using e4
   have rs:=ren_sw hs hd e3 hfl e4;have rg:=rf.comp rs;refine⟨_,rg,put _ (Ed fun x hx=>?_) (out (fun y=>sw (f (lo1 c)) e (f y)) (rg.ns c hc) ?_)⟩
   ·have hx':lo1 (f x)∈(n.map f).map lo1:=Bt.mpr ⟨_,Bt.mpr ⟨x,hx,rfl⟩,rfl⟩;exact sw_id (fun z=>h2 (z▸hx')) (fun z=>e2 (z▸hx'))
   ·show lo1 (sw (f (lo1 c)) e (f c))∈_;rw[<- rs.lo _ (rf.ns c hc),<- rf.lo c hc];have:sw (f (lo1 c)) e (f (lo1 c))=e:=by unfold sw;rw[if_pos (so_lo s hs _ hd),if_pos rfl]
    rw[this];exact Av _ he
theorem z7h{r:RD}{R:Addr}{H:Hp}(h:CRule K H R r){t:List Nat}(ht:∀c∈txO r,c∈t):PtNm (nmd t) (parse [] r.l)/\∀p∈r.qs,PcNm (nmd t) p:=by
 have key:∀c∈txO r,c∈nmd t:=fun c hc=>Bp.mpr ⟨q7a h c hc,decide_eq_true (Bt.mpr ⟨c,ht c hc,rfl⟩)⟩;refine⟨fun p hp x e c hc=>?_,fun q hq=>⟨h.ok.nm q hq,h.nc q hq,fun c hc=>key c (Av _ (Ef.mpr ⟨_,Bt.mpr ⟨q,hq,rfl⟩,hc⟩))⟩⟩;have hx:c∈txO r:=Bu _ (Ef.mpr ⟨_,Bt.mpr ⟨p,hp,rfl⟩,by rw[e];exact hc⟩);exact⟨key c hx,q7a h c hx⟩
theorem z3d{r q:RD}{R S:Addr}{H H':Hp}(hr:CRule K H R r)(hq:CRule K H' S q){n:List Nat}(hn:∀c∈n,c∈NS)(hl:n.length<=12)(h:∀m∈lev (nmO r q) n.length,tellO r m 0=tellO q m 0):tellO r n 0=tellO q n 0:=by
 obtain⟨f,rf,hf⟩:=canon (t:=txO r++txO q) n.reverse fun c hc=>hn c (Og.mp hc)
 rw[List.reverse_reverse,Ja] at hf;exact z9i rf (z7h hr fun c hc=>Bu _ hc) (z7h hq fun c hc=>Av _ hc) hr.ok hq.ok hn hl (h _ hf)
theorem z3e(r q:RD):nmO r q=nmO q r:=by
 unfold nmO nmd;refine Nv fun c _=>decide_eq_decide.mpr ?_;rw[Ax,Ax,Aw,Aw];exact Or.comm
def Sm(r q:RD)(mo:Nat):Prop:=∀(k:Nat) (n:List Nat),k<mo->n∈lev (nmO r q) (k+1)->tellO r n 0=tellO q n 0
def Len(r q:RD)(mo d:Nat):Prop:=(d=0/\Sm r q mo)\/∃k n,d=k+1/\k<mo/\n∈lev (nmO r q) (k+1)/\tellO r n 0≠tellO q n 0/\Sm r q k
theorem Sm.symm{r q:RD}{mo:Nat}(h:Sm r q mo):Sm q r mo:=fun k n hk hn=>(h k n hk (by rw[z3e];exact hn)).symm
theorem Len.symm{r q:RD}{mo d:Nat}(h:Len r q mo d):Len q r mo d:=by
 rcases h with⟨h1,h2⟩|⟨k,n,h1,h2,h3,h4,h5⟩
 ·exact .inl ⟨h1,h2.symm⟩
 ·exact .inr ⟨k,n,h1,h2,by rw[z3e];exact h3,fun z=>h4 z.symm,h5.symm⟩
theorem Len.one{r q:RD}{mo d e:Nat}(h:Len r q mo d)(h':Len r q mo e):d=e:=by
 rcases h with⟨h1,h2⟩|⟨k,n,h1,h2,h3,h4,h5⟩
 ·rcases h' with⟨g1,g2⟩|⟨j,m,g1,g2,g3,g4,g5⟩
  ·rw[h1,g1]
  ·exact absurd (h2 j m g2 g3) g4
 ·rcases h' with⟨g1,g2⟩|⟨j,m,g1,g2,g3,g4,g5⟩
  ·exact absurd (g2 k n h2 h3) h4
  ·rcases Nat.lt_trichotomy k j with z|z|z
   ·exact absurd (g5 k n z h3) h4
   ·lia
   ·exact absurd (h5 j m z g3) g4
theorem Len.zero{r q:RD}{mo:Nat}(h:Len r q mo 0):Sm r q mo:=by
 rcases h with⟨_,h⟩|⟨k,n,h1,_⟩
 ·exact h
 ·cases h1
theorem Len.tri{r q p:RD}{R S U:Addr}{H H' H'':Hp}(cr:CRule K H R r)(cq:CRule K H' S q)(cp:CRule K H'' U p){mo d:Nat}(hm:mo<=4)(h1:Len r q mo 0)(h2:Len q p mo 0)(h3:Len r p mo d):d=0:=by
 rcases h3 with⟨h,_⟩|⟨k,n,rfl,hk,hn,ne,_⟩
 ·exact h
 ·obtain⟨n1,n2⟩:=q7d (nm:=nmO r p) z2w (k+1) n hn;refine absurd ?_ ne;have e1:=z3d cr cq n2 (by lia) fun m hm=>h1.zero k m hk (by rw[n1] at hm;exact hm)
  have e2:=z3d cq cp n2 (by lia) fun m hm=>h2.zero k m hk (by rw[n1] at hm;exact hm);exact e1.trans e2
theorem Len.refl(r:RD){mo d:Nat}(h:Len r r mo d):d=0:=by
 rcases h with⟨h,_⟩|⟨k,n,rfl,hk,hn,ne,_⟩
 ·exact h
 ·exact absurd rfl ne
def Fnd(H:Hp)(T:Addr)(r q:RD)(mo d:Nat):Prop:=Len r q mo d/\((H T=some (.tup [.str (Aa "same")])/\d=0)\/∃n,H T=some (.tup [.str (Aa "parted"),.str (mk n)])/\n.length=d/\1<=d/\d<=mo/\(∀c∈n,c∈NS)/\tellO r n 0≠tellO q n 0)
theorem Fnd.tk{H H':Hp}{T:Addr}{r q:RD}{mo d:Nat}(h:Fnd H T r q mo d)(s:∀xs,H T=some (.tup xs)->H' T=some (.tup xs)):Fnd H' T r q mo d:=⟨h.1,h.2.imp (fun x=>⟨s _ x.1,x.2⟩) fun⟨n,x,y⟩=>⟨n,s _ x,y⟩⟩
theorem Fnd.same{H H':Hp}{T:Addr}{r q:RD}{mo d:Nat}(h:Fnd H T r q mo d)(s:Same H H'):Fnd H' T r q mo d:=h.tk fun _ e=>s _ _ e
def spCp2(K:Ae):Sp:=fun vs H Q _=>∃R S r q,∃mo:Nat,vs=[.ref R,.ref S,.int (mo:Int)]/\CRule K H R r/\CRule K H S q/\mo<=4/\((nmO r q).length+4)^mo<=1000/\∀T d H',H T=none->Same H H'->Fnd H' T r q mo d->Q (.ref T) H'
theorem z0n(M:Cal P w K mg base "compared" 9 ["one", "other", "most"] (spCpd K)):Cal P w K mg base "compared" 9 ["one", "other", "most"] (spCp2 K):=by
 obtain⟨f,fd,F,r⟩:=M.ex;exact⟨f,fd,F.imp fun vs H Q E h=>by
  obtain⟨R,S,r,q,mo,rfl,ru,sq,hmo,hb,k⟩:=h;refine⟨R,S,r,q,mo,rfl,ru,sq,hmo,hb,fun hall T H' hT s h'=>?_,fun kk i n hk hi ne hlow _ T H' hT s h'=>?_⟩
  ·exact k T 0 H' hT s ⟨.inl ⟨rfl,hall⟩,.inl ⟨h',rfl⟩⟩
  ·have hm:=As hi;have hn:=q7d (nm:=nmO r q) z2w (kk+1) n hm;exact k T (kk+1) H' hT s ⟨.inr ⟨kk,n,rfl,hk,hm,ne,fun j m hj hm=>hlow j m hj hm⟩,.inr ⟨n,h',hn.1,by lia,by lia,hn.2,ne⟩⟩,r⟩
theorem eqv_sp(n:List Nat):De (.tuple [.str (Aa "parted"),.str (mk n)]) (.tuple [.str (Aa "same")])=false:=by simp[De,Ec]
theorem x0o:De (.tuple [.str (Aa "same")]) (.tuple [.str (Aa "same")])=true:=by simp[De,Ec]
def spLen(K:Ae):Sp:=fun vs H Q _=>∃T r q mo d,vs=[.ref T]/\Fnd H T r q mo d/\mo<=4/\∀H',Same H H'->Q (.int (d:Int)) H'
abbrev q6l:Stmt:=top 72
theorem z7i:FnScope ["_law_found"] ["_law_found"] (defScope q6l):=by trivial
theorem z7j(D:Df K mg "_law_length" q6l ["_law_found"])(T:Txt mg):Cal P w K mg base "_law_length" 1 ["_law_found"] (spLen K):=by
 refine D.cal z7i (fun vs H Q E h=>?_) (fun f cdv A outer s H vs Q E hr h=>?_)
 ·obtain⟨Tf,r,q,mo,d,rfl,_⟩:=h;rfl
 ·obtain⟨Tf,r,q,mo,d,rfl,⟨_,hT⟩,hmo,k⟩:=h;refine⟨_,(q0b (q0u (q0g (eq_k K rfl hr) (pv 0) (q0w (q0a q0h q0c)) (nomark _)) (q0d (q0l q0f)) q0i) (q0d (q0l (q0y (q3o K rfl) (by rfl) T.b_len Cc (q0a (q0t (ix_k K rfl) (pv 0) q0f (fun _ _=>rfl)) q0c))))),?_⟩;refine⟨_,rfl,by show 1<=sizeLine;decide,fun U hU=>?_⟩;have sU:=(Same.refl H).new (o:=.tup [.str (Aa "same")]) hU;rcases hT with⟨hT,rfl⟩|⟨n,hT,n1,n2,n3,nn,_⟩
  ·refine .inr ⟨_,_,.tup (SqT.of (sU _ _ hT)) (.cons (.str _) .nil),.tup (SqT.of q0e) (.cons (.str _) .nil),by decide +kernel,by decide +kernel,by simp[Hg,Fi],_,rfl,?_⟩;rw[x0o];exact iteT (k _ sU)
  ·have low:∀c∈n,c<128:=fun c hc=>q4t c (nn c hc);refine .inr ⟨_,_,.tup (SqT.of (sU _ _ hT)) (.cons (.str _) (.cons (.str _) .nil)),.tup (SqT.of q0e) (.cons (.str _) .nil),?_,by decide +kernel,by simp[Hg,Fi],_,rfl,?_⟩
   ·simp only[Md,Ka,q5a low,Bool.and_true];decide +kernel
   rw[eqv_sp];refine iteF ⟨_,rfl,.inr (.inl ⟨Tf,_,1,_,rfl,rfl,SqT.of (sU _ _ hT),rfl,_,_,rfl,⟨by rw[q0o];exact small (by lia),rfl⟩,?_⟩)⟩;rw[q0o,n1];exact k _ sU
structure CallsOw (P:Program) (w:World) (K:Ae) (mg:Str->Option Value) (base:Heap):Prop where
 draw:Cal P w K mg base "_law_draw" 1 ["_law_feed", "_law_many"] spDraw
theorem RawAt.fd{a b:Addr}{H H':Hp}{R:Addr}{l:List Nat}{ts:List Pc}{st:Nat}(h:RawAt H R l ts st)(F:FeedAt H a b)(fd:Fd a b H H'):RawAt H' R l ts st:=⟨q4n F fd h.at_,h.ok,h.st,h.ne⟩
theorem RawAt.same{H H':Hp}{R:Addr}{l:List Nat}{ts:List Pc}{st:Nat}(h:RawAt H R l ts st)(s:Same H H'):RawAt H' R l ts st:=⟨s _ _ h.at_,h.ok,h.st,h.ne⟩
theorem RawAt.rule{H:Hp}{R:Addr}{l:List Nat}{ts:List Pc}{st:Nat}(h:RawAt H R l ts st):CRule K H R (mkN (Aa "slip") l ts st):=z9f h.ok (by have:=h.st;lia) h.at_
def spOw(K:Ae):Sp:=fun vs H Q _=>∃a b R l ts st,vs=[.ref a,.ref R]/\FeedAt H a b/\RawAt H R l ts st/\∀R' kd st' H',H R'=none->Fd a b H H'->CRule K H' R' (mkN kd l ts st')->Q (.ref R') H'
theorem kd3{x:V}(h:x∈[V.str (Aa "slip"),.str (Aa "drawer"),.str (Aa "all")]):∃g:Str,x=.str g/\inV (.str g) kinds3=true:=by
 simp only[Am,Bl,or_false] at h;rcases h with rfl|rfl|rfl<;>exact⟨_,rfl,by decide +kernel⟩
abbrev q3k:Stmt:=top 73
theorem sc_otherwise:FnScope ["_law_feed", "_law_rule_here", "_law_kind"] ["_law_feed", "_law_rule_here"] (defScope q3k):=by trivial
set_option maxHeartbeats 40000000 in
theorem z0o(D:Df K mg "_law_otherwise" q3k ["_law_feed", "_law_rule_here"])(T:Txt mg)(C:CallsOw P w K mg base):Cal P w K mg base "_law_otherwise" 2 ["_law_feed", "_law_rule_here"] (spOw K):=by
 refine D.cal sc_otherwise (fun vs H Q E h=>?_) (fun f cdv A outer s H vs Q E hr h=>?_)
 ·obtain⟨a,b,R,l,ts,st,rfl,_⟩:=h;rfl
 ·obtain⟨a,b,R,l,ts,st,rfl,F,hR,k⟩:=h;refine⟨_,(q0b (q0j (i:=2) sc_otherwise.nd rfl (by trivial) (q0t (ix_k K rfl) (q1t (q0a q0h (q0a q0h (q0a q0h q0c)))) (pe_c C.draw hr (q0a (pv 0) (q0a q0f q0c))) (fun _ _=>rfl))) (q1k (q0u (q0g (in_k K rfl) q0h (q0t (ix_k K rfl) (pv 1) q0f (fun _ _=>rfl)) (by with_unfolding_all rfl)) (q0d (q0j (i:=2) sc_otherwise.nd rfl (by trivial) q0h)) q0i) (q0d (q0l (q0w (q0a (pv 2) (q0a (q0t (ix_k K rfl) (pv 1) q0f (fun _ _=>rfl)) (q0a (q0t (ix_k K rfl) (pv 1) q0f (fun _ _=>rfl)) (q0a (pe_c C.draw hr (q0a (pv 0) (q0a (q0s q0n (q0s z9m q0f q0f) q0f) q0c))) q0c))))))))),?_⟩;refine⟨by show 3<=sizeLine;decide,fun kl hkl=>?_⟩;have fdl:=(Fd.refl F).new (o:=.lst [.str (Aa "slip"),.str (Aa "drawer"),.str (Aa "all")]) hkl;have hla:kl≠a:=(F.na hkl).symm;refine⟨_,rfl,a,b,3,rfl,fdl.feed,by decide,by decide,fun r3 H3 r30 r31 fd3=>?_⟩;obtain⟨x,hx1,hx2⟩:=z2d (xs:=[V.str (Aa "slip"),V.str (Aa "drawer"),V.str (Aa "all")]) r30 (by simpa using r31);refine .inl ⟨kl,_,r3,x,rfl,rfl,SqL.of (fd3.at q0e hla),hx2,?_⟩;obtain⟨g,rfl,g1⟩:=kd3 (As hx1);have fd3':=fdl.trans fd3;have hR3:=hR.fd F fd3';refine⟨fun σ' H'=>∃kd:Str,σ'=[some (.ref a),some (.ref R),some (.str kd)]/\H'=H3/\inV (.str kd) kinds3=true/\(.into∈ts->kd=Aa "slip"),?_,?_⟩;rotate_left
  ·refine⟨_,rfl,.inr (.inl ⟨R,_,2,_,rfl,rfl,SqT.of hR3.at_,rfl,?_⟩)⟩;refine .inl ⟨_,_,rfl,rfl,_,rfl,?_⟩;rw[show Aa "/" = (⟨#[47]⟩:Str) by decide +kernel,q2x,q0v];cases hb:decide (47∈flatP ts) with
   |true=>exact iteT ⟨_,rfl,rfl,by decide +kernel,fun _=>rfl⟩
   |false =>
    refine iteF ⟨g,rfl,rfl,g1,fun z=>absurd ?_ (of_decide_eq_false hb)⟩;have e:flatP ts=ts.flatMap Pc.wr:=by unfold flatP;rw[Hw]
    rw[e];exact Dw.mpr ⟨_,z,Al.mpr rfl⟩
  rintro σ' H' ⟨kd,rfl,rfl,hk,hkd⟩;refine⟨_,rfl,_,rfl,.inr (.inl ⟨R,_,1,_,rfl,rfl,SqT.of hR3.at_,rfl,_,rfl,.inr (.inl ⟨R,_,2,_,rfl,rfl,SqT.of hR3.at_,rfl,?_⟩)⟩)⟩;refine⟨_,rfl,_,_,rfl,rfl,⟨by decide,by decide,by decide⟩,.inl ⟨_,_,rfl,rfl,a,b,1000000001,rfl,fd3'.feed,by decide,by decide,fun r H5 r0 r1 fd5=>?_⟩⟩;refine⟨by show 4<=sizeLine;decide,fun R' hR'=>?_⟩;have fd5':=fd3'.trans fd5;obtain⟨st',rfl⟩:=Int.eq_ofNat_of_zero_le r0;exact k R' kd st' _ (fd5'.free hR') (fd5'.new hR') (z0m hR.ok (by lia) hk hkd q0e)
end
end K
set_option maxHeartbeats 4000000
namespace K
open PySem L2 TX
section
variable{P:Program}{w:World}{K:Ae}{mg:Str->Option Value}{base:Heap}
structure CallsL (P:Program) (w:World) (K:Ae) (mg:Str->Option Value) (base:Heap):Prop where
 draw:Cal P w K mg base "_law_draw" 1 ["_law_feed", "_law_many"] spDraw
 rule:Cal P w K mg base "_law_rule" 3 ["_law_feed", "_law_signs_here"] spRule
 varied:Cal P w K mg base "_law_varied" 2 ["_law_feed", "_law_rule_here"] (spVar K)
 most:Cal P w K mg base "_law_most" 4 ["_law_feed", "_law_rules"] (spMost K)
 compared:Cal P w K mg base "compared" 9 ["one", "other", "most"] (spCp2 K)
 tells:Cal P w K mg base "tells" 8 ["rule", "name", "count"] (spTl K)
 length:Cal P w K mg base "_law_length" 1 ["_law_found"] (spLen K)
 otherwise:Cal P w K mg base "_law_otherwise" 2 ["_law_feed", "_law_rule_here"] (spOw K)
def spLaw(K:Ae):Sp:=fun vs H Q _=>∃(a:Addr) (ns:List Int),vs=[.ref a]/\SqL K H a (ns.map V.int)/\ns.length<=63/\∀H',Q (.bl true) H'
theorem gl3{x:V}(h:x∈[V.str (Aa "a"),.str (Aa "aB"),.str (Aa "0z")]):∃g:Str,x=.str g/\0<g.length/\g.length<=1000/\∀c∈tl g,c∈NS:=by
 simp only[Am,Bl,or_false] at h;rcases h with rfl|rfl|rfl<;>exact⟨_,rfl,by decide +kernel,by decide +kernel,by decide +kernel⟩
structure Kp (a b g:Addr) (H H':Hp):Prop where
 feed:FeedAt H' a b
 keep:∀c o,H c=some o->c≠a->c≠g->H' c=some o
theorem Kp.fd{a b g:Addr}{H H' H'':Hp}(x:Kp a b g H H')(y:Fd a b H' H''):Kp a b g H H'':=⟨y.feed,fun c o h h1 h2=>y.keep c o (x.keep c o h h1 h2) h1⟩
theorem Kp.same{a b g:Addr}{H H' H'':Hp}(x:Kp a b g H H')(y:Same H' H''):Kp a b g H H'':=x.fd ((Fd.refl x.feed).same y)
theorem Kp.put{a b g:Addr}{H H':Hp}{o:HO}(x:Kp a b g H H')(ha:a≠g)(hb:b≠g):Kp a b g H (upd H' g o):=by
 obtain⟨⟨p,q,e1⟩,ns,e2⟩:=x.feed;exact⟨⟨⟨p,q,by rw[q0m ha];exact e1⟩,ns,by rw[q0m hb];exact e2⟩,fun c o h h1 h2=>by rw[q0m h2];exact x.keep c o h h1 h2⟩
theorem Kp.tk{a b g:Addr}{H H':Hp}(x:Kp a b g H H')(F:FeedAt H a b){ys:List V}(hg:H g=some (.lst ys)){T:Addr}{xs:List V}(h:H T=some (.tup xs)):H' T=some (.tup xs):=by
 obtain⟨⟨p,q,e1⟩,_⟩:=F;exact x.keep T _ h (fun z=>by rw[z,e1] at h;cases h) (fun z=>by rw[z,hg] at h;cases h)
def pr3:Nat->Nat×Nat
 |0=>(0,1)
 |1=>(1,2)
 |_=>(0,2)
def at3{α:Type}(x y z:α):Nat->α
 |0=>x
 |1=>y
 |_=>z
theorem pr3_lt(i:Nat):(pr3 i).1<3/\(pr3 i).2<3:=by
 unfold pr3;split<;>exact⟨by decide,by decide⟩
structure Three (K:Ae) (H:Hp) (Rf:Nat->Addr) (lf:Nat->List Nat) (tf:Nat->List Pc) (sf:Nat->Nat):Prop where
 at_:∀u,u<3->RawAt H (Rf u) (lf u) (tf u) (sf u)
def qf(lf:Nat->List Nat)(tf:Nat->List Pc)(sf:Nat->Nat)(u:Nat):RD:=mkN (Aa "slip") (lf u) (tf u) (sf u)
theorem Three.tk{H H':Hp}{Rf:Nat->Addr}{lf:Nat->List Nat}{tf:Nat->List Pc}{sf:Nat->Nat}(h:Three K H Rf lf tf sf)(s:∀T xs,H T=some (.tup xs)->H' T=some (.tup xs)):Three K H' Rf lf tf sf:=⟨fun u hu=>by
 obtain⟨h1,h2,h3,h4⟩:=h.at_ u hu;exact⟨s _ _ h1,h2,h3,h4⟩⟩
theorem Three.rule{H:Hp}{Rf:Nat->Addr}{lf:Nat->List Nat}{tf:Nat->List Pc}{sf:Nat->Nat}(h:Three K H Rf lf tf sf){u:Nat}(hu:u<3):CRule K H (Rf u) (qf lf tf sf u):=(h.at_ u hu).rule
theorem x0p{d e:Nat}:decide (V.int (d:Int)=V.int (e:Int))=decide (d=e):=decide_eq_decide.mpr ⟨fun z=>by injection z with z;lia,fun z=>by rw[z]⟩
abbrev q3l:Stmt:=top 74
theorem sc_law:FnScope ["_law_script", "_law_feed", "_law_k", "_law_signs_here", "_law_rules", "_law_most_here", "_law_lengths", "_law_one", "_law_other", "_law_found", "_law_second", "_law_turned", "_law_name", "_law_third"] ["_law_script"] (defScope q3l):=by trivial
set_option maxHeartbeats 80000000 in
theorem z9j(T:Txt mg)(C:CallsL P w K mg base)(f:Addr)(cdv:Value)(A:Around)(outer:List Env)(s:Ag)(H:Hp)(vs:List V)(Q:VK)(E:XK)(hr:Room 9 (A.deeper (PyProof.Rows.envOfC "law" (defScope q3l) s.heap.objs.size f cdv)))(h:spLaw K vs H Q E):
  ∃t,PSs (cxOf CX0 P w K mg base ["_law_script", "_law_feed", "_law_k", "_law_signs_here", "_law_rules", "_law_most_here", "_law_lengths", "_law_one", "_law_other", "_law_found", "_law_second", "_law_turned", "_law_name", "_law_third"] "law" (defScope q3l) f cdv A outer s H E).nox (defBody q3l) t/\t { nx:=fun _ H'=>Q .non H',rt:=Q } (L2.start ["_law_script", "_law_feed", "_law_k", "_law_signs_here", "_law_rules", "_law_most_here", "_law_lengths", "_law_one", "_law_other", "_law_found", "_law_second", "_law_turned", "_law_name", "_law_third"] vs) H:=by
  obtain⟨sc,ns,rfl,hS,hns,k⟩:=h;refine⟨_,(q0b (q0j (i:=1) sc_law.nd rfl (by trivial) (q1t (q0a (q1j (list_k K rfl) (by rfl) T.b_list (by decide +kernel) (q0a (pv 0) q0c)) (q0a q0f (q0a q0f q0c))))) (q0b (q1h Bd rfl (q1v rfl T.b_range (q0a q0f q0c)) (q0k (i:=2) sc_law.nd rfl (by trivial)) (q0b (q0j (i:=3) sc_law.nd rfl (by trivial) (q0t (ix_k K rfl) (q1t (q0a q0h (q0a q0h (q0a q0h q0c)))) (pe_c C.draw hr (q0a (pv 1) (q0a q0f q0c))) (fun _ _=>rfl))) (q0b (q0j (i:=4) sc_law.nd rfl (by trivial) (q1t (q0a (pe_c C.rule hr (q0a (pv 1) (q0a (pv 3) q0c))) q0c))) (q0b (q0x (@bm_k _ _ _ _ _ _ _ _ _ _ _ _ K rfl Bs Ca Cb q1g (pv 4) (q0a (pe_c C.varied hr (q0a (pv 1) (q0a (q0t (ix_k K rfl) (pv 4) q0f (fun _ _=>rfl)) q0c))) q0c) (by rfl) (by rfl) (by rfl) (by rfl) (by rfl))) (q1k (q0x (@bm_k _ _ _ _ _ _ _ _ _ _ _ _ K rfl Bs Ca Cb q1g (pv 4) (q0a (pe_c C.varied hr (q0a (pv 1) (q0a (q0t (ix_k K rfl) (pv 4) (pe_c C.draw hr (q0a (pv 1) (q0a q0f q0c))) (fun _ _=>rfl)) q0c))) q0c) (by rfl) (by rfl) (by rfl) (by rfl) (by rfl))) (q1k (q0j (i:=5) sc_law.nd rfl (by trivial) (q0y (q9e rfl) (by rfl) T.b_min (by decide +kernel) (q0a q0f (q0a (pe_c C.most hr (q0a (pv 1) (q0a (pv 4) q0c))) q0c)))) (q0b (q0j (i:=6) sc_law.nd rfl (by trivial) (q1t q0c)) (q0b (q1h Bd rfl (@lst_k _ _ _ _ K rfl (q1t (q0a (q0w (q0a q0f (q0a q0f q0c))) (q0a (q0w (q0a q0f (q0a q0f q0c))) (q0a (q0w (q0a q0f (q0a q0f q0c))) q0c))))) (@q2z _ _ _ _ (2) _ K rfl rfl (q0q (q0k (i:=7) sc_law.nd rfl (by trivial)) (q0q (q0k (i:=8) sc_law.nd rfl (by trivial)) q2b)) (by rfl) (by rfl)) (q0b (q0j (i:=9) sc_law.nd rfl (by trivial) (pe_c C.compared hr (q0a (q0t (ix_k K rfl) (pv 4) (pv 7) (fun _ _=>rfl)) (q0a (q0t (ix_k K rfl) (pv 4) (pv 8) (fun _ _=>rfl)) (q0a (pv 5) q0c))))) (q0b (q0x (@bm_k _ _ _ _ _ _ _ _ _ _ _ _ K rfl Bs Ca Cb q1g (pv 6) (q0a (pe_c C.length hr (q0a (pv 9) q0c)) q0c) (by rfl) (by rfl) (by rfl) (by rfl) (by rfl))) (q0b (q0j (i:=10) sc_law.nd rfl (by trivial) (pe_c C.otherwise hr (q0a (pv 1) (q0a (q0t (ix_k K rfl) (pv 4) (pv 8) (fun _ _=>rfl)) q0c)))) (q1k (q0j (i:=11) sc_law.nd rfl (by trivial) (pe_c C.compared hr (q0a (pv 10) (q0a (pe_c C.otherwise hr (q0a (pv 1) (q0a (q0t (ix_k K rfl) (pv 4) (pv 7) (fun _ _=>rfl)) q0c))) (q0a (pv 5) q0c))))) (q0b (q0u (q0g (ne_k K rfl hr) (pe_c C.length hr (q0a (pv 11) q0c)) (q0t (ix_k K rfl) (pv 6) (z3i q6q q0f) (fun _ _=>rfl)) (nomark _)) (q0d (q0l q5f)) q0i) (q0b (q0u (q0g (ne_k K rfl hr) (pe_c C.compared hr (q0a (q0t (ix_k K rfl) (pv 4) (pv 7) (fun _ _=>rfl)) (q0a (q0t (ix_k K rfl) (pv 4) (pv 7) (fun _ _=>rfl)) (q0a (pv 5) q0c)))) (q0w (q0a q0h q0c)) (nomark _)) (q0d (q0l q5f)) q0i) (q0d (q0u (q0g q5h (q0t (ix_k K rfl) (pv 6) (z3i q6q q0f) (fun _ _=>rfl)) q0f (nomark _)) (q0b (q0j (i:=12) sc_law.nd rfl (by trivial) (q0t (ix_k K rfl) (pv 9) q0f (fun _ _=>rfl))) (q0d (q0u (q0g (eq_k K rfl hr) (pe_c C.tells hr (q0a (q0t (ix_k K rfl) (pv 4) (pv 8) (fun _ _=>rfl)) (q0a (pv 12) (q0a q0f q0c)))) (pe_c C.tells hr (q0a (q0t (ix_k K rfl) (pv 4) (pv 7) (fun _ _=>rfl)) (q0a (pv 12) (q0a q0f q0c)))) (nomark _)) (q0d (q0l q5f)) q0i))) q0i))))))))) (q0d (q1h Bd rfl (@lst_k _ _ _ _ K rfl (q1t (q0a (q0w (q0a q0f (q0a q0f (q0a q0f q0c)))) (q0a (q0w (q0a q0f (q0a q0f (q0a q0f q0c)))) (q0a (q0w (q0a q0f (q0a q0f (q0a q0f q0c)))) q0c))))) (@q2z _ _ _ _ (3) _ K rfl rfl (q0q (q0k (i:=7) sc_law.nd rfl (by trivial)) (q0q (q0k (i:=8) sc_law.nd rfl (by trivial)) (q0q (q0k (i:=13) sc_law.nd rfl (by trivial)) q2b))) (by rfl) (by rfl)) (q0d (q0u (pt_j (@PW.pt _ _ _ (q2w (q0g (eq_k K rfl hr) (q0t (ix_k K rfl) (pv 6) (pv 7) (fun _ _=>rfl)) q0f (nomark _)) (q2w (q0g (eq_k K rfl hr) (q0t (ix_k K rfl) (pv 6) (pv 8) (fun _ _=>rfl)) q0f (nomark _)) (q2k (q0g (ne_k K rfl hr) (q0t (ix_k K rfl) (pv 6) (pv 13) (fun _ _=>rfl)) q0f (nomark _))))))) (q0d (q0l q5f)) q0i)))))))))))) (q0d (q0l q5f)))),?_⟩;refine⟨_,rfl,sc,_,rfl,.inl hS,fun b hb=>⟨by show 3<=sizeLine;decide,fun a ha=>?_⟩⟩;have nba:b≠a:=q0r q0e ha;have F:FeedAt (upd (upd H b (.lst (ns.map V.int))) a (.lst [.ref b,.int 0,.int 0])) a b:=⟨⟨0,0,q0e⟩,ns,by rw[q0m nba];exact q0e⟩
  generalize hH1:upd (upd H b _) a _=H1;rw[hH1] at F;refine⟨3,rfl,by decide,by decide,q1w (n:=3) (fun i σ' H'=>∃x2 x3 x4 x5 x6 x7 x8 x9 y0 y1 y2 y3,σ'=[some (.ref sc),some (.ref a),x2,x3,x4,x5,x6,x7,x8,x9,y0,y1,y2,y3]/\Fd a b H1 H') ⟨none,none,none,none,none,none,none,none,none,none,none,none,rfl,Fd.refl F⟩ ?_ ?_⟩;rotate_left
  ·rintro σ' H' ⟨x2,x3,x4,x5,x6,x7,x8,x9,y0,y1,y2,y3,rfl,fd⟩;exact k _
  rintro i σ' H2 hi ⟨x2,x3,x4,x5,x6,x7,x8,x9,y0,y1,y2,y3,rfl,fd2⟩;refine⟨by show 3<=sizeLine;decide,fun kl hkl=>?_⟩;have fdl:=fd2.new (o:=.lst [.str (Aa "a"),.str (Aa "aB"),.str (Aa "0z")]) hkl;have hla:kl≠a:=(fd2.feed.na hkl).symm;refine⟨_,rfl,a,b,3,rfl,fdl.feed,by decide,by decide,fun r3 H3 r30 r31 fd3=>?_⟩;obtain⟨x,hx1,hx2⟩:=z2d (xs:=[V.str (Aa "a"),V.str (Aa "aB"),V.str (Aa "0z")]) r30 (by simpa using r31);refine .inl ⟨kl,_,r3,x,rfl,rfl,SqL.of (fd3.at q0e hla),hx2,?_⟩;obtain⟨g,rfl,g0,g1,g2⟩:=gl3 (As hx1);have fd3':=fdl.trans fd3;refine⟨_,rfl,_,rfl,a,b,g,rfl,fd3'.feed,g0,g1,g2,fun R0 l0 ts0 st0 H4 _ fd4 hR0 hl0 _ hs0=>?_⟩;have fd4':=fd3'.trans fd4;refine⟨by show 1<=sizeLine;decide,fun L hL=>?_⟩;have sL:=(Same.refl H4).new (o:=.lst [.ref R0]) hL;have tL:upd H4 L (.lst [.ref R0]) L=some (.lst [.ref R0]):=q0e;have hLa:L≠a:=(fd4'.feed.na hL).symm;have hL1:H1 L=none:=fd4'.free hL;have hL1':a≠L:=hLa.symm;have hR05:=hR0.same sL;have hR0L:∀{Hx:Hp} {o:HO},Hx R0=some (.tup [.str (Aa "slip"),.str (mk l0),.str (mk (flatP ts0)),.int (st0:Int)])->∀ys,Hx L=some (.lst ys)->upd Hx L o R0=some (.tup [.str (Aa "slip"),.str (mk l0),.str (mk (flatP ts0)),.int (st0:Int)]):=fun e ys e2=>by
   rw[q0m (fun z=>by rw[z,e2] at e;cases e)];exact e
  generalize upd H4 L (.lst [.ref R0])=H5 at sL tL hR05;have fd5:=fd4'.same sL;refine⟨_,rfl,.inl ⟨rfl,_,SqL.of tL⟩,_,rfl,_,rfl,.inl ⟨L,_,0,_,rfl,rfl,SqL.of tL,rfl,a,b,R0,l0,ts0,st0,rfl,fd5.feed,hR05,by lia,by lia,fun R1 l1 ts1 st1 H6 _ fd6 hR1 hl1 hs1=>?_⟩⟩;have tL6:=fd6.at tL hLa;have hR06:=hR05.fd fd5.feed fd6;have fd6':=fd5.trans fd6;refine⟨L,_,_,rfl,rfl,tL6,small' (by show 1<=_;lia),?_⟩;have tL7:upd H6 L (.lst ([.ref R0]++[.ref R1])) L=some (.lst [.ref R0,.ref R1]):=q0e;have fd7:Fd a b H1 (upd H6 L (.lst ([.ref R0]++[.ref R1]))):=fd6'.put F hL1;have putR:∀{R:Addr} {l:List Nat} {ts:List Pc} {st:Nat} {Hx:Hp} {o:HO} {ys:List V},RawAt Hx R l ts st->Hx L=some (.lst ys)->RawAt (upd Hx L o) R l ts st:=fun h e=>⟨by
   rw[q0m (fun z=>by have:=h.at_;rw[z,e] at this;cases this)];exact h.at_,h.ok,h.st,h.ne⟩
  have hR07:=putR (o:=.lst ([.ref R0]++[.ref R1])) hR06 tL6;have hR17:=putR (o:=.lst ([.ref R0]++[.ref R1])) hR1 tL6;generalize upd H6 L (.lst ([.ref R0]++[.ref R1]))=H7 at tL7 fd7 hR07 hR17;refine⟨fun σ' H'=>∃Rf lf tf sf,σ'=[some (.ref sc),some (.ref a),some (.int (0+(i:Int))),some (.str g),some (.ref L),x5,x6,x7,x8,x9,y0,y1,y2,y3]/\Fd a b H1 H'/\Three K H' Rf lf tf sf/\H' L=some (.lst [.ref (Rf 0),.ref (Rf 1),.ref (Rf 2)]),?_,?_⟩;rotate_left
  ·refine⟨_,rfl,.inl ⟨rfl,_,SqL.of tL7⟩,_,rfl,_,rfl,_,rfl,a,b,2,rfl,fd7.feed,by decide,by decide,fun r5 H8 r50 r51 fd8=>?_⟩;have tL8:=fd8.at tL7 hLa;have hR08:=hR07.fd fd7.feed fd8;have hR18:=hR17.fd fd7.feed fd8;have fd8':=fd7.trans fd8;obtain⟨R,l,ts,st,hat,hRR,hll,hss⟩:∃R l ts st,atI [V.ref R0,.ref R1] r5=some (.ref R)/\RawAt H8 R l ts st/\l.length<=4/\st<=9:=by
    have:r5=0\/r5=1:=by lia
    rcases this with rfl|rfl
    ·exact⟨R0,l0,ts0,st0,rfl,hR08,by lia,by lia⟩
    ·exact⟨R1,l1,ts1,st1,rfl,hR18,by lia,by lia⟩
   refine .inl ⟨L,_,r5,_,rfl,rfl,SqL.of tL8,hat,a,b,R,l,ts,st,rfl,fd8'.feed,hRR,hll,hss,fun R2 l2 ts2 st2 H9 _ fd9 hR2 _ _=>?_⟩;have tL9:=fd9.at tL8 hLa;refine⟨L,_,_,rfl,rfl,tL9,small' (by show 2<=_;lia),?_⟩;refine⟨at3 R0 R1 R2,at3 l0 l1 l2,at3 ts0 ts1 ts2,at3 st0 st1 st2,rfl,(fd8'.trans fd9).put F hL1,⟨fun u hu=>putR ?_ tL9⟩,q0e⟩;have:u=0\/u=1\/u=2:=by lia
   rcases this with rfl|rfl|rfl
   ·exact hR08.fd fd8'.feed fd9
   ·exact hR18.fd fd8'.feed fd9
   ·exact hR2
  clear hR07 hR17 fd7 tL7 putR fd6 fd6' hR1 hR06 tL6 fd5 hR05 tL sL hR0 hR0L fd4 fd4' fd3' fd3;rintro σ' H3 ⟨Rf,lf,tf,sf,rfl,fd3,th3,tL3⟩;refine⟨fun σ' H'=>∃m2:Nat,σ'=[some (.ref sc),some (.ref a),some (.int (0+(i:Int))),some (.str g),some (.ref L),some (.int (m2:Int)),x6,x7,x8,x9,y0,y1,y2,y3]/\Fd a b H1 H'/\Three K H' Rf lf tf sf/\H' L=some (.lst [.ref (Rf 0),.ref (Rf 1),.ref (Rf 2)])/\m2<=4/\∀u v,u<3->v<3->((nmO (qf lf tf sf u) (qf lf tf sf v)).length+4)^m2<=1000,?_,?_⟩;rotate_left
  ·refine⟨_,rfl,_,rfl,a,b,L,[(Rf 0,qf lf tf sf 0),(Rf 1,qf lf tf sf 1),(Rf 2,qf lf tf sf 2)],rfl,fd3.feed,⟨tL3,fun x hx=>?_⟩,by simp,hLa,fun mo H4 hmo hbd fd4=>⟨_,_,rfl,?_⟩⟩
   ·simp only[Am,Bl,or_false] at hx;rcases hx with rfl|rfl|rfl<;>exact th3.rule (by decide)
   obtain⟨m2,em,hm2,hm4⟩:∃m2:Nat,(if (mo:Int)<2 then(mo:Int) else 2)=(m2:Int)/\m2<=mo/\m2<=2:=by
    by_cases z:(mo:Int)<2
    ·exact⟨mo,by rw[if_pos z],Af _,by lia⟩
    ·exact⟨2,by rw[if_neg z];rfl,by lia,Af _⟩
   rw[em];refine⟨m2,rfl,fd3.trans fd4,th3.tk fun T xs e=>q4n fd3.feed fd4 e,fd4.at tL3 hLa,by lia,fun u v hu hv=>?_⟩;rcases hbd with z|hb
   ·rw[show m2=0 by lia];exact Ap (Di (Nat.pow_zero _)) (by decide)
   ·have mm:∀u,u<3->(Rf u,qf lf tf sf u)∈[(Rf 0,qf lf tf sf 0),(Rf 1,qf lf tf sf 1),(Rf 2,qf lf tf sf 2)]:=fun u hu=>by
     have:u=0\/u=1\/u=2:=by lia
     rcases this with rfl|rfl|rfl<;>simp
    exact Ap (Gf (by lia) hm2) (Ap (hb _ (mm u hu) _ (mm v hv)) (by decide))
  clear fd3 th3 tL3;rintro σ' H3 ⟨m2,rfl,fd3,th3,tL3,hm2,bd⟩;refine⟨by show 0<=sizeLine;decide,fun G hG=>?_⟩;have sG:=(Same.refl H3).new (o:=.lst []) hG;have tG:upd H3 G (.lst []) G=some (.lst []):=q0e;have hG1:H1 G=none:=fd3.free hG;have aG:a≠G:=fd3.feed.na hG;have bG:b≠G:=fun z=>by obtain⟨_,ns,e⟩:=fd3.feed;rw[z,hG] at e;cases e
  have LG:L≠G:=fun z=>by rw[z,hG] at tL3;cases tL3
  generalize upd H3 G (.lst [])=H4 at sG tG;refine⟨by show 2<=sizeLine;decide,fun T0 hT0=>⟨by show 2<=sizeLine;decide,fun T1 hT1=>⟨by show 2<=sizeLine;decide,fun T2 hT2=>⟨by show 3<=sizeLine;decide,fun M hM=>?_⟩⟩⟩⟩;have s1:=sG.new (o:=.tup [.int 0,.int 1]) hT0;have s2:=((Same.refl _).new (o:=.tup [.int 1,.int 2]) hT1)
  have s3:=((Same.refl _).new (o:=.tup [.int 0,.int 2]) hT2)
  have s4:=((Same.refl _).new (o:=.lst [.ref T0,.ref T1,.ref T2]) hM)
  have e0:=s4 _ _ (s3 _ _ (s2 _ _ (q0e (H:=H4) (a:=T0) (o:=.tup [.int 0,.int 1]))));have e1:=s4 _ _ (s3 _ _ (q0e (a:=T1) (o:=.tup [.int 1,.int 2])));have e2:=s4 _ _ (q0e (a:=T2) (o:=.tup [.int 0,.int 2]));have eM:=q0e (H:=upd (upd (upd H4 T0 (.tup [.int 0,.int 1])) T1 (.tup [.int 1,.int 2])) T2 (.tup [.int 0,.int 2])) (a:=M) (o:=.lst [.ref T0,.ref T1,.ref T2]);have sB:=s1.trans (s2.trans (s3.trans s4));have tGB:=s4 _ _ (s3 _ _ (s2 _ _ (((Same.refl H4).new (o:=.tup [.int 0,.int 1]) hT0) _ _ tG)));have MG:M≠G:=fun z=>by
   have:=s3 _ _ (s2 _ _ (((Same.refl H4).new (o:=.tup [.int 0,.int 1]) hT0) _ _ tG));rw[<- z,hM] at this;cases this
  have hMa:M≠a:=fun z=>by
   have:=((fd3.same (s1.trans (s2.trans s3))).feed.na hM);exact this z.symm
  clear s1 s2 s3 s4 hT0 hT1 hT2 hM sG tG;generalize upd _ M _=HB at *;have tLB:=sB _ _ tL3;have thB:=th3.tk fun T xs e=>sB _ _ e;have fdB:=fd3.same sB;have F3:=fd3.feed;have pairs:∀j,j<3->HB (at3 T0 T1 T2 j)=some (.tup [.int ((pr3 j).1:Int),.int ((pr3 j).2:Int)]):=fun j hj=>by
   have:j=0\/j=1\/j=2:=by lia
   rcases this with rfl|rfl|rfl
   ·exact e0
   ·exact e1
   ·exact e2
  clear e0 e1 e2;have back:∀{H'},Kp a b G HB H'->Fd a b H1 H':=fun kp=>⟨kp.feed,fun c o h hc=>kp.keep c o (fdB.keep c o h hc) hc (fun z=>by rw[z,hG1] at h;cases h)⟩
  refine⟨M,rfl,⟨_,SqL.of eM⟩,?_⟩;refine q1z (xs:=[V.ref T0,.ref T1,.ref T2]) (fun j σ' H'=>∃x7 x8 x9 y0 y1 y2,∃ds:List Nat,σ'=[some (.ref sc),some (.ref a),some (.int (0+(i:Int))),some (.str g),some (.ref L),some (.int (m2:Int)),some (.ref G),x7,x8,x9,y0,y1,y2,y3]/\Kp a b G HB H'/\H' G=some (.lst (ds.map fun(d:Nat)=>V.int (d:Int)))/\ds.length=j/\∀t d,ds[t]?=some d->Len (qf lf tf sf (pr3 t).1) (qf lf tf sf (pr3 t).2) m2 d) ⟨_,_,_,_,_,_,[],rfl,⟨fdB.feed,fun _ _ h _ _=>h⟩,tGB,rfl,fun t d h=>by cases h⟩ (fun j σ' H' _ x=>by obtain⟨_,_,_,_,_,_,_,_,kp,_⟩:=x;exact SqL.of (kp.keep M _ eM hMa MG)) ?_ ?_
  ·rintro j v σ' H5 hv ⟨z7,z8,z9,w0,w1,w2,ds,rfl,kp5,hG5,hdl,hds⟩;have hj:j<3:=(Aj.mp hv).1;have hv:v=.ref (at3 T0 T1 T2 j):=by
    have:j=0\/j=1\/j=2:=by lia
    rcases this with rfl|rfl|rfl<;>exact(Bq hv).symm
   subst hv;obtain⟨hu,hv⟩:=pr3_lt j;have hp5:=kp5.tk fdB.feed tGB (pairs j hj);have LenJ:∀d,Len (qf lf tf sf (pr3 j).1) (qf lf tf sf (pr3 j).2) m2 d->∀t d',(ds++[d])[t]?=some d'->Len (qf lf tf sf (pr3 t).1) (qf lf tf sf (pr3 t).2) m2 d':=fun d hd t d' h=>by
    rcases Nj t ds.length with z|z
    ·rw[Co z] at h;exact hds t d' h
    ·rw[Cn z] at h;have:t-ds.length=0:=by
      have:=(Aj.mp h).1;rw[Bh] at this;lia
     rw[this] at h;cases h;rw[show t=j by lia];exact hd
   generalize pr3 j=pj at hu hv hp5 LenJ;obtain⟨u,v⟩:=pj;have hu:u<3:=hu;have hv:v<3:=hv;have LenJ:∀d,Len (qf lf tf sf u) (qf lf tf sf v) m2 d->∀t d',(ds++[d])[t]?=some d'->Len (qf lf tf sf (pr3 t).1) (qf lf tf sf (pr3 t).2) m2 d':=LenJ;have hp5:H5 (at3 T0 T1 T2 j)=some (.tup [.int (u:Int),.int (v:Int)]):=hp5;refine⟨at3 T0 T1 T2 j,_,rfl,SqT.of hp5,rfl,_,_,rfl,_,_,rfl,rfl,?_⟩;have iu:atI [V.ref (Rf 0),.ref (Rf 1),.ref (Rf 2)] (u:Int)=some (.ref (Rf u)):=by
    have:u=0\/u=1\/u=2:=by lia
    rcases this with rfl|rfl|rfl<;>rfl
   have iv:atI [V.ref (Rf 0),.ref (Rf 1),.ref (Rf 2)] (v:Int)=some (.ref (Rf v)):=by
    have:v=0\/v=1\/v=2:=by lia
    rcases this with rfl|rfl|rfl<;>rfl
   have tLx:∀{H'},Kp a b G HB H'->H' L=some (.lst [.ref (Rf 0),.ref (Rf 1),.ref (Rf 2)]):=fun kp=>kp.keep L _ tLB hLa LG;have thx:∀{H'},Kp a b G HB H'->Three K H' Rf lf tf sf:=fun kp=>thB.tk fun T xs e=>kp.tk fdB.feed tGB e;generalize hq:qf lf tf sf=q at *;have cu:∀{H'},Kp a b G HB H'->CRule K H' (Rf u) (q u):=fun kp=>by rw[<- hq];exact(thx kp).rule hu
   have cv:∀{H'},Kp a b G HB H'->CRule K H' (Rf v) (q v):=fun kp=>by rw[<- hq];exact(thx kp).rule hv
   refine⟨_,rfl,_,rfl,.inl ⟨L,_,(u:Int),_,rfl,rfl,SqL.of (tLx kp5),iu,_,rfl,_,rfl,.inl ⟨L,_,(v:Int),_,rfl,rfl,SqL.of (tLx kp5),iv,_,rfl,Rf u,Rf v,q u,q v,m2,rfl,cu kp5,cv kp5,hm2,bd u v hu hv,fun Tf d H6 hTf s6 fn6=>?_⟩⟩⟩;have kp6:=kp5.same s6;have hG6:=s6 _ _ hG5;refine⟨_,rfl,.inl ⟨rfl,_,SqL.of hG6⟩,_,rfl,Tf,q u,q v,m2,d,rfl,fn6,hm2,fun H7 s7=>?_⟩;have kp7:=kp6.same s7;have hG7:=s7 _ _ hG6;have fn7:=fn6.same s7;refine⟨G,_,_,rfl,rfl,hG7,small' (by rw[Ad];lia),?_⟩;have hGe:upd H7 G (.lst ((ds.map fun(d:Nat)=>V.int (d:Int))++[.int (d:Int)])) G=some (.lst ((ds.map fun(d:Nat)=>V.int (d:Int))++[.int (d:Int)])):=q0e;have kp8:=kp7.put (o:=.lst ((ds.map fun(d:Nat)=>V.int (d:Int))++[.int (d:Int)])) aG bG;have fn8:Fnd (upd H7 G (.lst ((ds.map fun(d:Nat)=>V.int (d:Int))++[.int (d:Int)]))) Tf (q u) (q v) m2 d:=fn7.tk fun xs e=>by
    rw[q0m (fun z=>by rw[z,hG7] at e;cases e)];exact e
   generalize upd H7 G (.lst ((ds.map fun(d:Nat)=>V.int (d:Int))++[.int (d:Int)]))=H8 at hGe kp8 fn8;refine⟨_,rfl,_,rfl,_,rfl,.inl ⟨L,_,(v:Int),_,rfl,rfl,SqL.of (tLx kp8),iv,a,b,Rf v,lf v,tf v,sf v,rfl,kp8.feed,(thx kp8).at_ v hv,fun R4 kd4 st4 H9 hR4 fd9 c4=>?_⟩⟩;have kp9:=kp8.fd fd9;have hG9:=fd9.at hGe aG.symm;have fn9:=fn8.tk fun xs e=>q4n kp8.feed fd9 e;refine⟨fun σ' H'=>∃Tt d2,σ'=[some (.ref sc),some (.ref a),some (.int (0+(i:Int))),some (.str g),some (.ref L),some (.int (m2:Int)),some (.ref G),some (.int (u:Int)),some (.int (v:Int)),some (.ref Tf),some (.ref R4),some (.ref Tt),w2,y3]/\Kp a b G HB H'/\H' G=some (.lst ((ds.map fun(d:Nat)=>V.int (d:Int))++[.int (d:Int)]))/\Fnd H' Tf (q u) (q v) m2 d/\Fnd H' Tt (q v) (q u) m2 d2,?_,?_⟩;rotate_left
   ·refine⟨_,rfl,_,rfl,_,rfl,_,rfl,.inl ⟨L,_,(u:Int),_,rfl,rfl,SqL.of (tLx kp9),iu,a,b,Rf u,lf u,tf u,sf u,rfl,kp9.feed,(thx kp9).at_ u hu,fun R5 kd5 st5 HA hR5 fdA c5=>?_⟩⟩;have c4A:=c4.tk fun xs e=>q4n kp9.feed fdA e;have enm:nmO (mkN kd4 (lf v) (tf v) st4) (mkN kd5 (lf u) (tf u) st5)=nmO (q v) (q u):=by rw[<- hq];rfl
    refine⟨_,rfl,R4,R5,_,_,m2,rfl,c4A,c5,hm2,by rw[enm];exact bd v u hv hu,fun Tt d2 HB' hTt sB' fnt=>?_⟩;have kpA:=kp9.fd fdA;refine⟨Tt,d2,rfl,kpA.same sB',sB' _ _ (fdA.at hG9 aG.symm),(fn9.tk fun xs e=>q4n kp9.feed fdA e).same sB',?_⟩;have:Fnd HB' Tt (mkN kd4 (lf v) (tf v) st4) (mkN kd5 (lf u) (tf u) st5) m2 d2:=fnt;rw[<- hq];exact this
   clear kp9 hG9 fn9 fd9 kp8 fn8 hGe kp7 fn7 hG7 kp6 hG6 fn6;rintro σ' H9 ⟨Tt,d2,rfl,kp9,hG9,fn9,fnt⟩;have hd2:d2=d:=(fnt.1.symm).one fn9.1;refine⟨_,rfl,Tt,q v,q u,m2,d2,rfl,fnt,hm2,fun HA sA=>?_⟩;have hGA:=sA _ _ hG9;refine⟨_,rfl,_,rfl,.inl ⟨G,_,-1,_,rfl,rfl,SqL.of hGA,z1z _ _,.inl ⟨rfl,_,rfl,?_⟩⟩⟩;rw[x0p,decide_eq_true hd2];refine iteF ?_;have kpA:=kp9.same sA;have fnA:=fn9.same sA;refine⟨_,rfl,_,rfl,.inl ⟨L,_,(u:Int),_,rfl,rfl,SqL.of (tLx kpA),iu,_,rfl,_,rfl,.inl ⟨L,_,(u:Int),_,rfl,rfl,SqL.of (tLx kpA),iu,_,rfl,Rf u,Rf u,q u,q u,m2,rfl,cu kpA,cu kpA,hm2,bd u u hu hu,fun Ts d3 HC hTs sC fns=>?_⟩⟩⟩;have kpC:=kpA.same sC;have hGC:=sC _ _ hGA;have fnC:=fnA.same sC;have hs:HC Ts=some (.tup [.str (Aa "same")]):=by
    rcases fns.2 with⟨h,_⟩|⟨n,_,_,h1,_⟩
    ·exact h
    ·have:=fns.1.refl;lia
   refine⟨by show 1<=sizeLine;decide,fun U hU=>?_⟩;have sU:=(Same.refl HC).new (o:=.tup [.str (Aa "same")]) hU;refine .inr ⟨_,_,.tup (SqT.of (sU _ _ hs)) (.cons (.str _) .nil),.tup (SqT.of q0e) (.cons (.str _) .nil),by decide +kernel,by decide +kernel,by simp[Hg,Fi],_,rfl,?_⟩;rw[x0o];refine iteF ?_;have kpD:=kpC.same sU;have hGD:=sU _ _ hGC;have fnD:=fnC.same sU;generalize upd HC U (.tup [.str (Aa "same")])=HD at kpD hGD fnD;refine⟨_,rfl,_,rfl,.inl ⟨G,_,-1,_,rfl,rfl,SqL.of hGD,z1z _ _,_,_,rfl,rfl,_,rfl,ite2 (fun h=>?_) (fun h=>?_)⟩⟩
   ·have h:(d:Int)>0:=of_decide_eq_true h;obtain⟨n,hn,n1,n2,n3,nn,ne⟩:∃n,HD Tf=some (.tup [.str (Aa "parted"),.str (mk n)])/\n.length=d/\1<=d/\d<=m2/\(∀c∈n,c∈NS)/\tellO (q u) n 0≠tellO (q v) n 0:=by
     rcases fnD.2 with⟨_,z⟩|z
     ·lia
     ·exact z
    have hn12:n.length<=12/\∀c∈n,c∈NS:=⟨by lia,nn⟩
    refine⟨_,rfl,.inr (.inl ⟨Tf,_,1,_,rfl,rfl,SqT.of hn,rfl,?_⟩)⟩;refine⟨_,rfl,_,rfl,.inl ⟨L,_,(v:Int),_,rfl,rfl,SqL.of (tLx kpD),iv,_,rfl,Rf v,q v,n,rfl,cv kpD,hn12,fun v1 HE sE e1 v1l=>?_⟩⟩;have kpE:=kpD.same sE;refine⟨_,rfl,_,rfl,.inl ⟨L,_,(u:Int),_,rfl,rfl,SqL.of (tLx kpE),iu,_,rfl,Rf u,q u,n,rfl,cu kpE,hn12,fun v2 HF sF e2 v2l=>?_⟩⟩;have V1:=q8n (K:=K) e1 v1l sF;have V2:=q8n (K:=K) e2 v2l (Same.refl HF);refine .inr ⟨_,_,V1.dt,V2.dt,z2t v1l,z2t v2l,Ap (Pa _ _) (x0h _),_,rfl,?_⟩;rw[x0g,decide_eq_false (fun z=>ne z.symm)];refine iteF ⟨_,_,_,_,_,_,ds++[d],rfl,kpE.same sF,?_,by rw[Ac,hdl];rfl,LenJ d fn9.1⟩;rw[sF _ _ (sE _ _ hGD),Ax];rfl
   ·refine⟨_,_,_,_,_,_,ds++[d],rfl,kpD,?_,by rw[Ac,hdl];rfl,LenJ d fn9.1⟩;rw[hGD,Ax];rfl
  ·rintro σ' H5 ⟨z7,z8,z9,w0,w1,w2,ds,rfl,kp5,hG5,hdl,hds⟩;have hdl:ds.length=3:=hdl;match ds,hdl with
   |[d0,d1,d2],_ =>
   have fd5:=back kp5;have E0:=hds 0 d0 rfl;have E1:=hds 1 d1 rfl;have E2:=hds 2 d2 rfl;have c0:=thB.rule (u:=0) (by decide);have c1:=thB.rule (u:=1) (by decide);have c2:=thB.rule (u:=2) (by decide);have z0:d0=0->Len (qf lf tf sf 0) (qf lf tf sf 1) m2 0:=fun h=>by rw[h] at E0;exact E0
   have z1:d1=0->Len (qf lf tf sf 1) (qf lf tf sf 2) m2 0:=fun h=>by rw[h] at E1;exact E1
   have z2:d2=0->Len (qf lf tf sf 0) (qf lf tf sf 2) m2 0:=fun h=>by rw[h] at E2;exact E2
   have t0:d0=0->d1=0->d2=0:=fun h0 h1=>Len.tri c0 c1 c2 hm2 (z0 h0) (z1 h1) E2;have t1:d1=0->d2=0->d0=0:=fun h1 h2=>Len.tri c0 c2 c1 hm2 (z2 h2) (z1 h1).symm E0;have t2:d2=0->d0=0->d1=0:=fun h2 h0=>Len.tri c1 c0 c2 hm2 (z0 h0).symm (z2 h2) E1;have hG5:H5 G=some (.lst [.int (d0:Int),.int (d1:Int),.int (d2:Int)]):=hG5;clear hds E0 E1 E2 kp5;refine⟨by show 3<=sizeLine;decide,fun T3 hT3=>⟨by show 3<=sizeLine;decide,fun T4 hT4=>⟨by show 3<=sizeLine;decide,fun T5 hT5=>⟨by show 3<=sizeLine;decide,fun N hN=>?_⟩⟩⟩⟩;have s1:=(Same.refl H5).new (o:=.tup [.int 0,.int 1,.int 2]) hT3;have s2:=((Same.refl _).new (o:=.tup [.int 1,.int 2,.int 0]) hT4)
   have s3:=((Same.refl _).new (o:=.tup [.int 2,.int 0,.int 1]) hT5)
   have s4:=((Same.refl _).new (o:=.lst [.ref T3,.ref T4,.ref T5]) hN)
   have e0:=s4 _ _ (s3 _ _ (s2 _ _ (q0e (H:=H5) (a:=T3) (o:=.tup [.int 0,.int 1,.int 2]))));have e1:=s4 _ _ (s3 _ _ (q0e (a:=T4) (o:=.tup [.int 1,.int 2,.int 0])));have e2:=s4 _ _ (q0e (a:=T5) (o:=.tup [.int 2,.int 0,.int 1]));have eN:=q0e (H:=upd (upd (upd H5 T3 (.tup [.int 0,.int 1,.int 2])) T4 (.tup [.int 1,.int 2,.int 0])) T5 (.tup [.int 2,.int 0,.int 1])) (a:=N) (o:=.lst [.ref T3,.ref T4,.ref T5]);have sN:=s1.trans (s2.trans (s3.trans s4));clear s1 s2 s3 s4 hT3 hT4 hT5 hN;generalize upd _ N _=H6 at *;have hG6:=sN _ _ hG5;have fd6:=fd5.same sN;refine⟨N,rfl,⟨_,SqL.of eN⟩,?_⟩;refine q1z (xs:=[V.ref T3,.ref T4,.ref T5]) (fun j σ' H'=>∃x7 x8 x9 y0 y1 y2 y3,σ'=[some (.ref sc),some (.ref a),some (.int (0+(i:Int))),some (.str g),some (.ref L),some (.int (m2:Int)),some (.ref G),x7,x8,x9,y0,y1,y2,y3]/\H'=H6) ⟨_,_,_,_,_,_,_,rfl,rfl⟩ (fun j σ' H' _ x=>by obtain⟨_,_,_,_,_,_,_,_,rfl⟩:=x;exact SqL.of eN) ?_ ?_
   ·rintro j v σ' H' hv ⟨z7,z8,z9,w0,w1,w2,w3,rfl,rfl⟩;have hj:j<3:=(Aj.mp hv).1;obtain⟨T',u,v',t,du,dv,dt,rfl,hT',iu,iv,it,tri⟩:∃T':Addr,∃u v' t:Int,∃du dv dt:Nat,v=.ref T'/\H' T'=some (.tup [.int u,.int v',.int t])/\atI [V.int (d0:Int),.int (d1:Int),.int (d2:Int)] u=some (.int (du:Int))/\atI [V.int (d0:Int),.int (d1:Int),.int (d2:Int)] v'=some (.int (dv:Int))/\atI [V.int (d0:Int),.int (d1:Int),.int (d2:Int)] t=some (.int (dt:Int))/\(du=0->dv=0->dt=0):=by
     have:j=0\/j=1\/j=2:=by lia
     rcases this with rfl|rfl|rfl
     ·exact⟨T3,0,1,2,d0,d1,d2,(Bq hv).symm,e0,rfl,rfl,rfl,t0⟩
     ·exact⟨T4,1,2,0,d1,d2,d0,(Bq hv).symm,e1,rfl,rfl,rfl,t1⟩
     ·exact⟨T5,2,0,1,d2,d0,d1,(Bq hv).symm,e2,rfl,rfl,rfl,t2⟩
    refine⟨T',_,rfl,SqT.of hT',rfl,_,_,rfl,_,_,rfl,_,_,rfl,rfl,?_⟩;refine⟨fun bb H2=>bb=false/\H2=H',?_,?_⟩
    ·rintro bb H2 ⟨rfl,rfl⟩;exact iteF ⟨_,_,_,_,_,_,_,rfl,rfl⟩
    have ez:∀d:Nat,decide (V.int (d:Int)=V.int 0)=decide (d=0):=fun d=>x0p (d:=d) (e:=0);refine⟨_,rfl,_,rfl,.inl ⟨G,_,u,_,rfl,rfl,SqL.of hG6,iu,.inl ⟨rfl,_,rfl,?_⟩⟩⟩;rw[ez];refine ite2 (fun h0=>?_) (fun _=>⟨rfl,rfl⟩);refine⟨_,rfl,_,rfl,.inl ⟨G,_,v',_,rfl,rfl,SqL.of hG6,iv,.inl ⟨rfl,_,rfl,?_⟩⟩⟩;rw[ez];refine ite2 (fun h1=>?_) (fun _=>⟨rfl,rfl⟩);refine⟨_,rfl,_,rfl,.inl ⟨G,_,t,_,rfl,rfl,SqL.of hG6,it,.inl ⟨rfl,_,rfl,?_,rfl⟩⟩⟩;rw[ez,decide_eq_true (tri (of_decide_eq_true h0) (of_decide_eq_true h1))];rfl
   ·rintro σ' H' ⟨z7,z8,z9,w0,w1,w2,w3,rfl,rfl⟩;exact⟨_,_,_,_,_,_,_,_,_,_,_,_,rfl,fd6⟩
end
end K
set_option maxHeartbeats 4000000
namespace K
open PySem L2 TX
theorem df_mk{K:Ae}{mg:Str->Option Value}{h:Heap}{x:Str}{st:Stmt}{ps:List Str}{f:Addr}{oc:Value}{od an:Option Addr}{osl:Array (Option Value)}{kV doc pm cdv ct:Value}(X:K.In h)(G:h.Ns Cm mg)(a:Nl K Cm x=some (some (.ref f)))(l:K.lookup f=some ⟨oc,od,.func (Ij x x (defArgs st) (defBody st) (defScope st) .none kV doc pm an cdv ct),osl⟩)(c:Mh K cdv x=true)(k:Jd K (.ref f)=true)(hb:∀(kV doc pm:Value) (an:Option Addr) (cdv ct:Value) (us:List Value),us.length=ps.length->bindArgs (Ij x x (defArgs st) (defBody st) (defScope st) .none kV doc pm an cdv ct) ⟨us,[]⟩=pure (ps.zip us)):Df K mg x st ps :=
 ⟨f,_,z4y l c k,Me X G a,(z4y (st:=st) l c k).binds hb⟩
theorem len_1{us:List Value}(h:us.length=1):∃x0,us=[x0]:=by
 match us,h with
 |[x0],_=>exact⟨x0,rfl⟩
theorem len_2{us:List Value}(h:us.length=2):∃x0 x1,us=[x0,x1]:=by
 match us,h with
 |[x0,x1],_=>exact⟨x0,x1,rfl⟩
theorem len_3{us:List Value}(h:us.length=3):∃x0 x1 x2,us=[x0,x1,x2]:=by
 match us,h with
 |[x0,x1,x2],_=>exact⟨x0,x1,x2,rfl⟩
theorem len_4{us:List Value}(h:us.length=4):∃x0 x1 x2 x3,us=[x0,x1,x2,x3]:=by
 match us,h with
 |[x0,x1,x2,x3],_=>exact⟨x0,x1,x2,x3,rfl⟩
theorem len_5{us:List Value}(h:us.length=5):∃x0 x1 x2 x3 x4,us=[x0,x1,x2,x3,x4]:=by
 match us,h with
 |[x0,x1,x2,x3,x4],_=>exact⟨x0,x1,x2,x3,x4,rfl⟩
theorem all_mk{lw:Pd}{w:World}{K:Ae}{h:Heap}{mg:Str->Option Value}{fa:Addr}(X:K.In h)(G:h.Ns Cm mg)(hfa:mg "law" = some (.ref fa)){f44:Addr}{od44 an44:Option Addr}{sl44:Array (Option Value)}{oc44 kV44 dc44 pm44 cd44 ct44:Value}{dC:Addr}{ep:Nat}{ck1 ck2 ck3 ck4:Tok}{dK:Addr}{tnK:Nat}{tdK:Option Addr}{tsK:Array (Option Value)}{tkK0 tkK1 tkK2:Tok}{dO:Addr}{tnO:Nat}{tdO:Option Addr}{tsO:Array (Option Value)}{tkO0 tkO1 tkO2 tkO3 tkO4:Tok}{dS:Addr}{tnS:Nat}{tdS:Option Addr}{tsS:Array (Option Value)}{tkS0 tkS1 tkS2:Tok}(D_all_of:Df K mg "all_of" q5y ["text", "signs"])(D_ask_signs:Df K mg "ask_signs" q3b ["pattern"])(D_text_parts:Df K mg "text_parts" q2q ["text"])(D_parts_of:Df K mg "parts_of" q3u ["pattern"])(D_asked:Df K mg "asked" q8d ["template", "at", "signs"])(D_end_of:Df K mg "end_of" q5z ["template", "at", "signs", "most"])(D_read_count:Df K mg "read_count" q2r ["template", "at"])(D_read_noughts:Df K mg "read_noughts" q2d ["template", "at", "gap"])(D_read_more:Df K mg "read_more" q3d ["template", "at", "gap"])(D_read_gap:Df K mg "read_gap" q3v ["template", "at", "gap"])(D_read_mark:Df K mg "read_mark" q3g ["template", "at"])(D_read_into:Df K mg "read_into" q3f ["template", "at"])(D_read_text:Df K mg "read_text" q3e ["template", "at"])(D_read_piece:Df K mg "read_piece" q2s ["template", "at"])(D_pieces_of:Df K mg "pieces_of" q3h ["template"])(D_ask_gap:Df K mg "ask_gap" q4l ["piece", "gap_signs"])(D_ask_piece:Df K mg "ask_piece" q3i ["piece", "kind", "gap_signs"])(D_ask_rule:Df K mg "ask_rule" q3w ["rule"])(D_gap_takes:Df K mg "gap_takes" q3c ["gap_sign", "text"])(D_takes:Df K mg "takes" q8c ["part", "text"])(D_furthest_ends:Df K mg "furthest_ends" q1x ["part", "name", "later"])(D_ends_of_parts:Df K mg "ends_of_parts" q1y ["parts", "name"])(D_reading:Df K mg "reading" q4k ["pattern", "name"])(D_with_noughts:Df K mg "with_noughts" q2e ["text", "width"])(D_gap_text:Df K mg "gap_text" q3x ["piece", "text"])(D_piece_text:Df K mg "piece_text" q2t ["piece", "gap_texts", "count"])(D_tells:Df K mg "tells" q8j ["rule", "name", "count"])(D_ask_pieces:Df K mg "ask_pieces" q2u ["rule"])(D_text_of:Df K mg "text_of" q4m ["rule"])(D_signs_of:Df K mg "signs_of" q3y ["one", "other"])(D_ask_bound:Df K mg "ask_bound" q3j ["many", "most"])(D_other_signs:Df K mg "other_signs" q2l ["name", "named"])(D_longer_names:Df K mg "longer_names" q2g ["names", "named"])(D_compared:Df K mg "compared" q3z ["one", "other", "most"])(D_draw:Df K mg "_law_draw" z1e ["_law_feed", "_law_many"])(D_name_signs:Df K mg "_law_name_signs" q2p [])(D_text:Df K mg "_law_text" z1f ["_law_feed", "_law_signs_here", "_law_size"])(D_signs:Df K mg "_law_signs" q8r ["_law_rules"])(D_shapes:Df K mg "_law_shapes" q6h ["_law_rules", "_law_most_here"])(D_most:Df K mg "_law_most" z1o ["_law_feed", "_law_rules"])(D_rule:Df K mg "_law_rule" z1r ["_law_feed", "_law_signs_here"])(D_varied:Df K mg "_law_varied" q6k ["_law_feed", "_law_rule_here"])(D_length:Df K mg "_law_length" q6l ["_law_found"])(D_otherwise:Df K mg "_law_otherwise" q3k ["_law_feed", "_law_rule_here"])(a44:Nl K Cm "law" = some (some (.ref f44)))(l44:K.lookup f44=some ⟨oc44,od44,.func (Ij "law" "law" (defArgs q3l) (defBody q3l) (defScope q3l) .none kV44 dc44 pm44 an44 cd44 ct44),sl44⟩)(c44:Mh K cd44 "law" = true)(k44:Jd K (.ref f44)=true)(T:Txt mg)(gC:Nl K Cm "CASES" = some (some (.ref dC)))(lC:K.lookup dC=some ⟨.type "dict",none,.dict #[⟨Jf w.params (Aa "u"),.str (Aa "u") ck1,.str (Aa "great") ck2⟩,⟨Jf w.params (Aa "l"),.str (Aa "l") ck3,.str (Aa "small") ck4⟩] ep,#[]⟩)(gK:Nl K Cm "KINDS" = some (some (.ref dK)))(lK:K.lookup dK=some ⟨.type "tuple",tdK,.seq #[.str (Aa "slip") tkK0,.str (Aa "drawer") tkK1,.str (Aa "all") tkK2] tnK,tsK⟩)(gO:Nl K Cm "OF_A_GAP" = some (some (.ref dO)))(lO:K.lookup dO=some ⟨.type "tuple",tdO,.seq #[.str (Aa "gap") tkO0,.str (Aa "great") tkO1,.str (Aa "small") tkO2,.str (Aa "noughts") tkO3,.str (Aa "more") tkO4] tnO,tsO⟩)(gS:Nl K Cm "SORTS" = some (some (.ref dS)))(lS:K.lookup dS=some ⟨.type "tuple",tdS,.seq #[.str (Aa "0123456789") tkS0,.str (Aa "abcdefghijklmnopqrstuvwxyz") tkS1,.str (Aa "-_.") tkS2] tnS,tsS⟩):
  ∃fd:Jc,(∀(s:Ag) (v:Value),Lp s fd ⟨[v],[]⟩ [("_law_script",v)])/\∀base:Heap,K.In base->base.Ns Cm mg->FnOk lw.prog w K mg base CX0 10 fa fd ["_law_script"] (spLaw K):=by
 have e:=hfa.symm.trans (Me X G a44);cases e;have FL:=z4y (st:=q3l) l44 c44 k44;refine⟨Ij "law" "law" (defArgs q3l) (defBody q3l) (defScope q3l) .none kV44 dc44 pm44 an44 cd44 ct44,fun s v=>.of_eq rfl,fun base _ _=>?_⟩;have c1:=x1m (P:=lw.prog) (w:=w) (base:=base) D_draw T;have c2:=x1o (P:=lw.prog) (w:=w) (base:=base) D_text T c1;have C1:Calls1 lw.prog w K mg base:=⟨q9y D_ask_signs T,q8b D_text_parts T⟩
 have cAO:=z6e (P:=lw.prog) (w:=w) (base:=base) D_all_of T;have CA:CallsA lw.prog w K mg base:=⟨cAO⟩
 have CB:CallsB lw.prog w K mg base:=⟨z0a D_gap_takes T CA⟩
 have CC:CallsC lw.prog w K mg base:=⟨z8m D_takes T CB⟩
 have CD:CallsD lw.prog w K mg base:=⟨q4v D_furthest_ends T CC⟩
 have cPO:=z1g (P:=lw.prog) (w:=w) (base:=base) D_parts_of T C1;have CE:CallsE lw.prog w K mg base:=⟨cPO,q4w D_ends_of_parts T CD⟩
 have cAs:=z8o (P:=lw.prog) (w:=w) (base:=base) D_asked T;have CT:CallsT lw.prog w K mg base:=⟨cAs,z6f D_end_of T⟩
 have CU:CallsU lw.prog w K mg base:=⟨cAs,q6a D_read_noughts T CT,z0b D_read_more T CT,⟨dC,Me X G gC,z8q lC⟩⟩
 have CV:CallsV lw.prog w K mg base:=⟨cAs,q8e D_read_count T CT,z1h D_read_gap T CU⟩
 have CW:CallsW lw.prog w K mg base:=⟨z0f D_read_mark T CV,z0e D_read_into T,z0c D_read_text T CT⟩
 have CX:CallsX lw.prog w K mg base:=⟨q8h D_read_piece T CW⟩
 have cPi:=z0g (P:=lw.prog) (w:=w) (base:=base) D_pieces_of T CX;have CR:CallsR lw.prog w K mg base:=⟨z4a D_ask_gap T,⟨dO,Me X G gO,fun H=>.inr ⟨_,_,_,lO,rfl,rfl,by show 5<=sizeLine;decide,.cons ⟨_,rfl⟩ (.cons ⟨_,rfl⟩ (.cons ⟨_,rfl⟩ (.cons ⟨_,rfl⟩ (.cons ⟨_,rfl⟩ .nil))))⟩⟩⟩
 have CS:CallsS lw.prog w K mg base:=⟨cPO,cPi,z0h D_ask_piece T CR,⟨dK,Me X G gK,fun H=>.inr ⟨_,_,_,lK,rfl,rfl,by show 3<=sizeLine;decide,.cons ⟨_,rfl⟩ (.cons ⟨_,rfl⟩ (.cons ⟨_,rfl⟩ .nil))⟩⟩⟩
 have cWN:=q6c (P:=lw.prog) (w:=w) (base:=base) D_with_noughts T;have CG:CallsGT lw.prog w K mg base:=⟨z1j D_gap_text T ⟨cWN⟩,cWN⟩
 have cAR:=z1i (P:=lw.prog) (w:=w) (base:=base) D_ask_rule T CS;have CTl:CallsTl lw.prog w K mg base:=⟨cAR,z3z D_reading T CE,cPi,q8i D_piece_text T CG⟩
 have cTe:=z8v (P:=lw.prog) (w:=w) (base:=base) D_tells T CTl;have CAP:CallsAP lw.prog w K mg base:=⟨cPi,cPO⟩
 have cAP:=q8l (P:=lw.prog) (w:=w) (base:=base) D_ask_pieces T CAP;have cTx:=z4e (P:=lw.prog) (w:=w) (base:=base) D_text_of T CAP;have cSo:=z1l (P:=lw.prog) (w:=w) (base:=base) D_signs_of T ⟨cTx⟩;have cBd:=z0k (P:=lw.prog) (w:=w) (base:=base) D_ask_bound T;have cOS:=q6o (P:=lw.prog) (w:=w) (base:=base) D_other_signs T (Me X G gS) (fun H=>.inr ⟨_,_,_,lS,rfl,rfl,by show 3<=sizeLine;decide,.cons ⟨_,rfl⟩ (.cons ⟨_,rfl⟩ (.cons ⟨_,rfl⟩ .nil))⟩);have cLg:=z6q (P:=lw.prog) (w:=w) (base:=base) D_longer_names T ⟨cOS⟩;have cCp:=z1n (P:=lw.prog) (w:=w) (base:=base) D_compared T ⟨cAR,cAP,cSo,cBd,cLg,z0l cTe⟩;have cNS:=q7z (P:=lw.prog) (w:=w) (base:=base) D_name_signs;have cSg:=z9e (P:=lw.prog) (w:=w) (base:=base) D_signs T ⟨cNS⟩;have cSh:=z6v (P:=lw.prog) (w:=w) (base:=base) D_shapes T ⟨cSg⟩;have cMo:=x2g (P:=lw.prog) (w:=w) (base:=base) D_most T ⟨c1,cSh⟩;have cRu:=x2k (P:=lw.prog) (w:=w) (base:=base) D_rule T ⟨c1,c2⟩;have cVa:=z7d (P:=lw.prog) (w:=w) (base:=base) D_varied T ⟨c1⟩;have cLe:=z7j (P:=lw.prog) (w:=w) (base:=base) D_length T;have cOw:=z0o (P:=lw.prog) (w:=w) (base:=base) D_otherwise T ⟨c1⟩;have CL:CallsL lw.prog w K mg base:=⟨c1,cRu,cVa,cMo,z0n cCp,z0l cTe,cLe,cOw⟩
 exact FL.ok sc_law (fun vs H Q E h=>by obtain⟨a,ns,rfl,_⟩:=h;rfl) (fun cdv A outer s H vs Q E hr h=>z9j T CL _ cdv A outer s H vs Q E hr h)
theorem walk{l:Pd}{q:Program}{loose:List Str}{XP:(Str->Option Value)->Heap->Prop}{YP:World->Heap->Prop}{d:DefRec}{K:Params->Ae}(hn:l.most=some 63)(hdf:d.params.defaults=[])(hY:∀(w:World) (h:Heap),YP w h->(K w.params).In h)(F:∀(w:World) (mg:Str->Option Value) (fa:Addr) (h:Heap),(K w.params).In h->h.Ns Cm mg->mg d.name=some (.ref fa) ->
   ∃fd:Jc,(∀(s:Ag) (u:Value),Lp s fd ⟨[u],[]⟩ [("_law_script",u)])/\∀base:Heap,(K w.params).In base->base.Ns Cm mg->FnOk l.prog w (K w.params) mg base CX0 10 fa fd ["_law_script"] (spLaw (K w.params))):
  W.WalkO q loose XP YP l.row.toRowW d [] (fun f vs=>Oq f vs) :=
 L2.walk_of (n:=63) (k:=10) (x := "_law_script") (CX:=fun _=>CX0) (sp:=fun w=>spLaw (K w.params)) hn (by decide) hdf ⟨rfl,by decide,by decide,rfl⟩ hY F (fun _ _ a ns hl _ hS=>⟨a,ns,rfl,hS,hl,fun _=>rfl⟩) fun _ _ _ _ _ z=>z
end K
namespace K
open PySem PySem.W PyProof.Rows
abbrev loose:List Str:=[Aa "HallError",Aa "NoPattern",Aa "NoTemplate",Aa "NoRule",Aa "NoSame",Aa "TooMuch",Aa "FIGURES",Aa "LETTERS",Aa "NAME_SIGNS",Aa "all_of",Aa "GAP_SIGNS",Aa "MOST_GAPS",Aa "ask_signs",Aa "text_parts",Aa "parts_of",Aa "FROM_ONE",Aa "FROM_TWO",Aa "MOST_FIGURES",Aa "CASES",Aa "asked",Aa "end_of",Aa "read_count",Aa "read_noughts",Aa "read_more",Aa "read_gap",Aa "read_mark",Aa "read_into",Aa "read_text",Aa "read_piece",Aa "pieces_of",Aa "KINDS",Aa "OF_A_GAP",Aa "MOST_START",Aa "ask_gap",Aa "ask_piece",Aa "ask_rule",Aa "gap_takes",Aa "takes",Aa "furthest_ends",Aa "ends_of_parts",Aa "reading",Aa "with_noughts",Aa "gap_text",Aa "piece_text",Aa "tells",Aa "SORTS",Aa "MOST_NAMES_ASKED",Aa "ask_pieces",Aa "text_of",Aa "signs_of",Aa "ask_bound",Aa "other_signs",Aa "longer_names",Aa "compared",Aa "_law_draw",Aa "_law_name_signs",Aa "_law_other_signs",Aa "_law_text",Aa "_law_signs",Aa "_law_shapes",Aa "_law_most",Aa "_law_rule",Aa "_law_varied",Aa "_law_length",Aa "_law_otherwise"]
abbrev vw:Program:=view PySem.Challenge.pw_renamehall_k74_two_ways_round [74]
abbrev xt(s:Ag):Bool:=xlAt vw [] s&&recOk [] s
end K
open PySem PySem.W PyProof.Rows
local macro_rules | `(tactic| o_head $H) => `(tactic| (
  refine holds_open (q := K.vw) (loose := K.loose) (Xt := K.xt) (XP := XL K.vw []) (Yf := Hook.obs $H) (Ya := Hook.val $H) (YP := Hook.says $H) (N := 60000) ?hl (Hook.of $H) (Hook.keeps $H) (fun s e => xl_of s (Iv.mp e).1) XL.keeps
    (by rfl) (by rfl) (by rfl) (fun s e => recFacts_of (Iv.mp e).2) (by rfl) (by first | assumption | decide +kernel) (by decide +kernel) ⟨rfl, rfl, rfl, rfl, rfl, by decide +kernel⟩ ?hw ?hc))
set_option maxRecDepth 100000 in
set_option maxHeartbeats 0 in
theorem PySem.Challenge.cw_renamehall_k74_two_ways_round_holds : PySem.Challenge.rw_renamehall_k74_two_ways_round.Holds := by
  w_on; o_law; k_head; (case hw => w_witness2)
  (case hl =>
    refine HD.left2 "special-get-raises" (by kernel_rfl) (by rfl) (fun _ => by kernel_rfl) fun b => ?_
    cases b
    · intro w os
      change (segRunT Jr PySem.Challenge.pw_renamehall_k74_two_ways_round (w.withFollow "special-get-raises" false) 11 (some (.ref 6)) 0 60000 (HD.bootT (w.withFollow "special-get-raises" false).params os) (topStub PySem.Challenge.pw_renamehall_k74_two_ways_round)).map (fun r => ((staticsOk (Dp PySem.Challenge.pw_renamehall_k74_two_ways_round.main.body) (boot_heap (w.withFollow "special-get-raises" false).params) r.2.1.abs.heap && namesBound PySem.Challenge.pw_renamehall_k74_two_ways_round r.2.1.abs.heap && gensDone r.2.1.abs && laidKept (boot_heap (w.withFollow "special-get-raises" false).params) r.2.1.abs.heap), openSeen K.vw K.loose (Dp PySem.Challenge.pw_renamehall_k74_two_ways_round.main.body) K.xt true r.2.1.abs, _)) = some (true, openGood K.vw K.loose, _)
      unfold K.xt K.vw
      rw [Hj, Hl, Hk, Hm, PySem.W.Fast.te1869062363049834164]
      kernel_rfl
    · intro w os
      change (segRunT Jr PySem.Challenge.pw_renamehall_k74_two_ways_round (w.withFollow "special-get-raises" true) 11 (some (.ref 6)) 0 60000 (HD.bootT (w.withFollow "special-get-raises" true).params os) (topStub PySem.Challenge.pw_renamehall_k74_two_ways_round)).map (fun r => ((staticsOk (Dp PySem.Challenge.pw_renamehall_k74_two_ways_round.main.body) (boot_heap (w.withFollow "special-get-raises" true).params) r.2.1.abs.heap && namesBound PySem.Challenge.pw_renamehall_k74_two_ways_round r.2.1.abs.heap && gensDone r.2.1.abs && laidKept (boot_heap (w.withFollow "special-get-raises" true).params) r.2.1.abs.heap), openSeen K.vw K.loose (Dp PySem.Challenge.pw_renamehall_k74_two_ways_round.main.body) K.xt true r.2.1.abs, _)) = some (true, openGood K.vw K.loose, _)
      unfold K.xt K.vw
      rw [Hj, Hl, Hk, Hm, PySem.W.Fast.te1869062363049834164]
      kernel_rfl)
  k_fill
  refine K.walk (l := PySem.Challenge.rw_renamehall_k74_two_ways_round) rfl rfl (fun w h Y => PySem.W.kIn_of Y) ?F
  case F =>
    intro w mg fa h KX G hmg
    refine' K.all_mk KX G hmg (K.df_mk KX G ?_ ?_ ?_ ?_ ?_) (K.df_mk KX G ?_ ?_ ?_ ?_ ?_) (K.df_mk KX G ?_ ?_ ?_ ?_ ?_) (K.df_mk KX G ?_ ?_ ?_ ?_ ?_) (K.df_mk KX G ?_ ?_ ?_ ?_ ?_) (K.df_mk KX G ?_ ?_ ?_ ?_ ?_) (K.df_mk KX G ?_ ?_ ?_ ?_ ?_) (K.df_mk KX G ?_ ?_ ?_ ?_ ?_) (K.df_mk KX G ?_ ?_ ?_ ?_ ?_) (K.df_mk KX G ?_ ?_ ?_ ?_ ?_) (K.df_mk KX G ?_ ?_ ?_ ?_ ?_) (K.df_mk KX G ?_ ?_ ?_ ?_ ?_) (K.df_mk KX G ?_ ?_ ?_ ?_ ?_) (K.df_mk KX G ?_ ?_ ?_ ?_ ?_) (K.df_mk KX G ?_ ?_ ?_ ?_ ?_) (K.df_mk KX G ?_ ?_ ?_ ?_ ?_) (K.df_mk KX G ?_ ?_ ?_ ?_ ?_) (K.df_mk KX G ?_ ?_ ?_ ?_ ?_) (K.df_mk KX G ?_ ?_ ?_ ?_ ?_) (K.df_mk KX G ?_ ?_ ?_ ?_ ?_) (K.df_mk KX G ?_ ?_ ?_ ?_ ?_) (K.df_mk KX G ?_ ?_ ?_ ?_ ?_) (K.df_mk KX G ?_ ?_ ?_ ?_ ?_) (K.df_mk KX G ?_ ?_ ?_ ?_ ?_) (K.df_mk KX G ?_ ?_ ?_ ?_ ?_) (K.df_mk KX G ?_ ?_ ?_ ?_ ?_) (K.df_mk KX G ?_ ?_ ?_ ?_ ?_) (K.df_mk KX G ?_ ?_ ?_ ?_ ?_) (K.df_mk KX G ?_ ?_ ?_ ?_ ?_) (K.df_mk KX G ?_ ?_ ?_ ?_ ?_) (K.df_mk KX G ?_ ?_ ?_ ?_ ?_) (K.df_mk KX G ?_ ?_ ?_ ?_ ?_) (K.df_mk KX G ?_ ?_ ?_ ?_ ?_) (K.df_mk KX G ?_ ?_ ?_ ?_ ?_) (K.df_mk KX G ?_ ?_ ?_ ?_ ?_) (K.df_mk KX G ?_ ?_ ?_ ?_ ?_) (K.df_mk KX G ?_ ?_ ?_ ?_ ?_) (K.df_mk KX G ?_ ?_ ?_ ?_ ?_) (K.df_mk KX G ?_ ?_ ?_ ?_ ?_) (K.df_mk KX G ?_ ?_ ?_ ?_ ?_) (K.df_mk KX G ?_ ?_ ?_ ?_ ?_) (K.df_mk KX G ?_ ?_ ?_ ?_ ?_) (K.df_mk KX G ?_ ?_ ?_ ?_ ?_) (K.df_mk KX G ?_ ?_ ?_ ?_ ?_) ?_ ?_ ?_ ?_ ⟨mg_none_of KX G ?_, mg_none_of KX G ?_, mg_none_of KX G ?_, mg_none_of KX G ?_, mg_none_of KX G ?_, mg_none_of KX G ?_, mg_none_of KX G ?_, mg_none_of KX G ?_, mg_none_of KX G ?_, mg_none_of KX G ?_, mg_none_of KX G ?_, mg_none_of KX G ?_, mg_none_of KX G ?_, mg_none_of KX G ?_, mg_none_of KX G ?_, ⟨_, mg_of KX G ?_⟩, ⟨_, mg_of KX G ?_⟩, ⟨_, mg_of KX G ?_⟩, ⟨_, mg_of KX G ?_⟩, ⟨_, mg_of KX G ?_⟩, ⟨_, mg_of KX G ?_⟩, ⟨_, mg_of KX G ?_⟩, ⟨_, mg_of KX G ?_⟩, ⟨_, mg_of KX G ?_⟩, ⟨_, mg_of KX G ?_⟩⟩ ?_ ?_ ?_ ?_ ?_ ?_ ?_ ?_
    all_goals try (first | k_is | kit_is | rfl | decide +kernel | (intro _ _ _ _ _ _ us hl; first | (obtain ⟨_, rfl⟩ := K.len_1 hl; rfl) | (obtain ⟨_, _, rfl⟩ := K.len_2 hl; rfl) | (obtain ⟨_, _, _, rfl⟩ := K.len_3 hl; rfl) | (obtain ⟨_, _, _, _, rfl⟩ := K.len_4 hl; rfl) | (obtain ⟨_, _, _, _, _, rfl⟩ := K.len_5 hl; rfl) | (cases us with | nil => rfl | cons _ _ => cases hl)))
