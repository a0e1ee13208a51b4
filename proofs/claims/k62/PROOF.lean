import PyProof.Rows.All
import Wide.All
import OpenK.AllK
import Wide.FinOn
import Lean
import PyProof.EqAt
import PyProof.EqKinds
import PyProof.TupleCall
import PySem.Challenge.RW_renamehall_k62_stopped_amid_a_line
import KE.IntTextLaws
import KE.KIsAll
import PyProof.ExcArgsOwn
import PyProof.ExcBaseAll.ValueError
import PyProof.ExcClass2
import PyProof.ExcInit
import PyProof.InstStore
import PyProof.Rows.CatchBare
import PyProof.Rows.CatchOwn
import PyProof.StationsW
import PyProof.SumWalk
import PyProof.ReprRoads
set_option Elab.async false
set_option linter.all false
set_option maxRecDepth 100000
local macro_rules|`(tactic|trivial)=>`(tactic|first|exact Or.inl rfl|exact Or.inr rfl|fail)
local macro_rules|`(tactic|trivial)=>`(tactic|first|(refine⟨rfl,rfl,rfl,?_,rfl,?_,?_⟩<;>decide +kernel)|fail)
theorem gR0{α β:Type}{f:α->β}{l:List α}{i:Nat}{v:β}(h:(l.map f)[i]?=some v):∃z,l[i]?=some z/\v=f z:=by
 rw[List.getElem?_map] at h;cases e:l[i]? with
 |none=>rw[e] at h;cases h
 |some z=>rw[e] at h;cases h;exact⟨z,rfl,rfl⟩
open Array renaming getElem?_eq_getElem→Dh,getElem?_eq_some_iff→Du,length_toList→El,getElem?_toList→Gh,getD_eq_getD_getElem?→Nj,perm_iff_toList_perm→Np,getElem?_eq_none→Pp,mem_toList_iff→Qo,append_assoc→Rp,find?_toList→Rr,toList_map→Tq
open Array.Perm renaming refl→Ui
open Bool renaming false_ne_true→Bl,false_eq_true→Bw,and_eq_true→Co,and_eq_true_iff→Iy,eq_iff_iff→Lz,false_and→Mt,true_and→Nr,not_true→Rc,or_true→Sh
open Int renaming toNat_natCast→Cp,emod_lt_of_pos→Ka,emod_nonneg→Md,le_refl→Pq,natAbs_natCast→Sd
open List renaming length_map→Ac,length_append→Ai,mem_cons_of_mem→Ak,mem_map→Al,map_append→An,mem_cons_self→Ao,map_cons→Ap,getElem?_map→Aq,mem_of_getElem?→As,size_toArray→Av,mem_append→Aw,mem_singleton→Az,map_map→Ba,getElem?_eq_some_iff→Bb,mem_cons→Bd,length_take→Bf,take_length→Bi,length_cons→Bm,length_pos_iff→Bo,mem_append_right→Bq,take_add_one→Bs,append_nil→Bt,append_assoc→Cg,mem_of_mem_take→Cj,length_dropLast→Cq,getElem?_eq_getElem→Cu,mem_append_left→Dc,nodup_cons→Dd,length_singleton→Dq,map_take→Dv,take_of_length_le→Dw,length_nil→Ej,map_congr_left→En,getLastD_eq_getLast?→Ez,getLast?_eq_some_getLast→Ft,length_drop→Fw,all_eq_true→Fx,take_zero→Ga,dropLast_eq_take→Gk,getElem?_append_right→Gq,getElem?_append_left→Gx,find?_cons→Hx,take_append_of_le_length→Ij,lookup_cons→Jd,getElem?_take_of_lt→Jx,zip_cons_cons→Kd,pairwise_cons→Kg,take_take→Ko,drop_zero→Kq,filter_cons_of_neg→Kt,filter_cons_of_pos→Ku,length_range→Ky,not_mem_nil→Lj,getElem?_set_ne→Ly,dropLast_concat→Ml,filterMap_cons→Mq,replicate_succ→Mr,take_succ→Mx,contains_cons→Nk,all_cons→Nn,flatten_cons→Nu,nodup_append→Ny,getElem?_eq_none_iff→Nz,cons_append→Oq,pairwise_singleton→Oy,of_mem_zip→Pb,forIn_cons→Pc,getElem?_set_self→Pg,map_id→Px,take_append_drop→Qh,dropLast_subset→Qu,any_cons→Qz,sum_cons→Ra,map_drop→Rg,length_reverse→Rl,mem_filterMap→Rq,filterMap_map→Sa,zip_nil_right→Sf,any_eq_false→Sn,reverse_cons→Sr,zip_nil_left→Sv,mapM_toArray→Sw,filter_cons→Th,zipIdx_cons→Tp,drop_length→Ts,map_reverse→Tt,mem_filter→Tu,foldl_cons→Uc
open Nat renaming le_refl→Aj,ne_of_lt→Bc,lt_of_lt_of_le→Bj,zero_le→Br,le_trans→Cn,ne_of_gt→Fb,lt_irrefl→Fn,le_succ_of_le→Gw,le_of_lt→Hh,lt_succ_self→Hi,min_eq_left→Ib,not_lt→Ic,le_succ→Ig,lt_succ_of_lt→Il,succ_le_succ→Jc,le_of_eq→Jw,sub_zero→Kc,lt_of_le_of_lt→Nf,succ_mul→Ov,mul_le_mul_right→Qv,min_eq_right→Tr
open Ne renaming symm→Cv
open Option renaming map_eq_some_iff→Eo,bind_some→Fz,map_some→Js,isSome_map→Nx,isSome_iff_exists→Oj,getD_none→Tg
open Option.some renaming inj→Dy
open PyProof.Rows renaming wpS_bind→Cf,slot_tuple_getitem→Cw,wpS_pure→Dg,callWith_type1→Gd,envOfC→Gu,StrsAre→Ht,SortSt→Ia,get?_update_seq→Iu,seqObj→Ji,wpS_forRange→Kb,listItems_at→Ke,AllBare→Kj,SortKind→Ll,lo1→Lm,mirror→Mg,len_partsBetween→Mp,pendingOf→Pd,subscriptTail_builtinR→Pl,mirror_perm→Pr,wpS_reverse→Pu,wpS_get→Qg,Constant_none→Qw,listUpdate_at→Rf,lt_str→Rj,args_tuple_getitem→Sb,IntsAre→Sl,tuples'→Sm,seqEpoch_at→Tc,failedOf→Tj,wpS_mono→To,Subscript_→Tz,wpS_modify→Uh
open PyProof.Rows.IsTup renaming new→Um
open PySem renaming wpAny_bind→Ab,wpAny_pure→Ae,Shared→Af,boot_len→Ax,starEach→Be,NameKind→Bh,wpAny_mono→Bu,wpAny_newObj_type→Bv,wpAny_field→Bz,compareOp→Ca,wpAny_holding→Cc,wpAny_call_entry→Ce,mainGlobals→Ck,wpAny_callSpecial?_slot→Cm,Paired→Cz,rawInt→Di,wpAny_standAt→Dm,Builtin→Dp,wpAny_attempt→Ds,excClassObj→Ed,backTo→Eh,wpAny_truthy_bool→Ei,mem_of_lookup→Em,sizeLine_eq→Er,sysModules→Et,binaryOp→Fe,compEnvC→Fg,wpAny_typeNameOfWhole_itemiter→Fh,wpAny_loadPart_at→Fm,attributeBase→Fo,wpAny_typeNameOfWhole_keyiter→Fs,codeAny→Fv,wpAny_setField→Fy,wpAny_Call_Name_kw→Ge,wpAny_setField_rec→Gf,wpAny_passesOwn→Gg,builtinLookup_eq_fast→Gi,codeAny_builtin→Gj,behindInMarks→Gp,wpAny_dictEntries→Gv,call_meets→Gz,codeAny_call_builtin→Ha,wpAny_typeNameOf_itemiter→Hb,bootBuiltins→Hg,codeAny_mono→Hj,wpAny_typeOf→Hn,wpAny_comprehension_free→Ho,wpAny_typeNameOf_keyiter→Hq,tupleKind→Hu,wpAny_execs_nil→Hv,wpAny_call→Hw,tupleKind_room_in1→Hy,wpAny_dictEpoch→Hz,foldedSetIterable→Ik,pyNext→Im,isSubtype_type→Ip,DictEntry→Iv,assignEach→Iz,FuncData→Ja,wpAny_rule→Je,find?_eq_fast→Jh,plainId_quiet→Jj,keywordEach→Jl,sliceBounds→Jm,strIterType→Jn,wpAny_of_eq→Jo,wpAny_isSubtype_exc→Jp,importedModules→Jq,letOwnedTupleGo→Jr,typeLookup_type→Jt,typeIs_str→Kl,wpAny_pyIter_slot→Kw,IsPart→Lb,wpAny_isOneOf_itemiter→Le,wpAny_isInstance→Lk,OsState→Lo,swapsWith→Lp,holding→Lq,wpAny_notOrdered_dict→Ls,Within→Lw,typeLookup→Mc,backToKw→Mu,isSubtype_stop→My,wpAny_fieldsOf→Mz,pyIter→Na,getMethod→Nb,wpAny_assign_Name→Nt,wpAny_pyIter_list→Nw,standAt→Oc,callerA→Od,GenState→Oe,wpAny_execs_cons→Of,noFill_tuple_add→Ol,entryFor→Ot,wpAny_updateSeq→Pe,wpAny_pyNext_list_item→Ph,subscripted→Pk,wpAny_isTrue_Compare1→Py,wpAny_pyNext_list_end→Pz,BindsTo→Qa,Keyword→Qb,exec_Assign_Name_used→Qc,wpAny_newTuple→Qd,firstArgMember→Qe,wpAny_isOneOf_keyiter→Qf,entryOfKey→Qm,wpAny_load→Qn,PlainAttrs→Qp,wpAny_newFunctionEnv→Qr,seq_tuple_add→Qy,wpAny_handled→Rb,treeTable→Rm,concat_meets→Rz,ExcBaseFacts→Sg,wpAny_sequenceKey→Sq,wpAny_pyIter_enum→Ss,seqIndex_of→Ta,wpAny_throw→Tb,callWith→Te,wpAny_Name→Tv,typeIs_int→Ub,call→Ue,closureFor→Ug,getAttr→Uj,OwnTail→Uk
open PySem.Around renaming under_plainId→Fi,under→Oi
open PySem.AutoSeq1 renaming wpAny_loadPart'→Mi
open PySem.Builtin.Dict renaming showsAll→Lu
open PySem.Builtin.Dict_items renaming ownsTuple→Ir,ownedTupleFields→Km
open PySem.Builtin.List renaming listItems→Gb,listTooLong→Jz,listSameRef→Ou
open PySem.Builtin.Slice renaming slicePlaces→Gy,sliceAdjust→Oa
open PySem.Builtin.SmallTypes renaming nextOf→Ob
open PySem.Builtin.Str renaming occurrences→Cy,strSliceIndices→Ek,partsBetween→Om,strKind→Ri
open PySem.Builtin.Tuple renaming tupleItemsOf→Nm
open PySem.Calls renaming callWith_builtin→Lc,spliced_cons→Nc,Name_function_global→Nl,evalArgs_plain→Qq,spliced_nil→So
open PySem.Code renaming quiet_builtin→Nh,isFrame→Ry
open PySem.F renaming plainAttrs_str→By,plainAttrs_list→Ci,slot_list_append→Cs,type_list_append→Ct,slot_dict_itemiterator_next→Dj,slot_dict_keyiterator_next→Eg,slot_str_join→Gm,type_str_join→Gn,plain_extend_loop→Hs,slot_str_lower→Ih,type_str_lower→Ii,slot_enumerate_next→Io,slot_list_reversed→Jf,args_tuple_add_2→Jy,slot_list_getattribute→Kh,entry_tuple_add→Kr,plainAttrs_dict→Ks,slot_tuple_add→La,slot_str_split→Lg,type_str_split→Lh,slot_dict_get→Lr,args_dict_itemiterator_next_1→Lv,args_dict_keyiterator_next_1→Me,entry_dict_itemiterator_next→Mh,entry_dict_keyiterator_next→Mm,slot_dict_itemiterator_iter→Mo,args_str_split_2→Ng,excAttr_ValueError→Nq,entry_str_split→Nv,slot_str_split→Oo,args_enumerate_next_1→Ow,args_dict_get_3→Ox,slot_dict_items→Oz,type_dict_items→Pa,entry_enumerate_next→Pn,entry_dict_get→Po,slot_dict_items_iter→Pw,entry_bexc_ga→Qj,args_bexc_ga→Qs,entry_extend_loop→Rk,plain_list_iadd→Sy,slot_dict_iter→Ti,slot_int_rmul→Ud
open PySem.Heap renaming get?_push_of_some→Ag,lt_size→Am,get?_push_size→Ar,get?_update_other→Bx,SameBut→Ep,get?_update_self→Ex,size_push→He,get?_none_of_le→Lx,ExtBut→Pm
open PySem.Heap.SameBut renaming update→Hr,refl→Kx
open PySem.Obj renaming data_mapFields→Ea,mapSeq→Ef,mapFields→Fq,isFreed_of_fields→Iq,cls_mapFields→Su
open PySem.Paired renaming length→Es
open PySem.PassesOwn renaming never→Cr
open PySem.PyData renaming canLayAll0→Dx,eqv→Eu,depthAll→Ey,eqvAll→Gs,canLay0→Hf,canLay0→Jg,depthAll→Ju,canLayAll0→Kv,depth→Mj,depth→Ni,strOk→Se
open PySem.SeqAt renaming EqAt→Dz
open PySem.SeqAt.EqAt renaming str_str→Nd,int_str→Rn,str_int→Ro,same→Ua
open PySem.Str renaming ofString→Ad,empty→Hd,join→Mw
open PySem.StrLaws renaming sliceText→Fl,occ_length_le→Qk,join_split→Si,split_free→Sj
open PySem.Txt renaming lower→Ie,split→Iw,join→Li,split→Pf,slice→Uq
open PySem.W renaming Frag→Ah,findIn→Cd,keepIn→Ew,kitOne→Ff,kia_one→Fp,emptyDict→Hc,fnOf→Hm,codeIn→Jb,hasDictIn→Jk,instObj→Jv,nsIn→Ki,looks_findIn→Kk,specialIn→Kz,plainGet→Ma,callWith_K→Mb,Frag→Og,InstAt→Oh,plainOver→Pj,clsIn→Qi,mg_of→Ql,kitAny→Qt,plainGet_of→Qx,isFn→Rt,makesIn→Ru,takesIn→Rx,mroIn→Sk,lookIn→Td,cellsFrom_some→Tf,handedIn→Tw,methodCall_KW→Tx,takerIn→Ul,OpenLaw→Uo,findObj→Ur
namespace HD
open PySem PySem.W PyProof.Rows
theorem end0:(∃f,endAt 0 t=some f)/\through t=true\/endAt 0 t=none/\through t=false:=by
 unfold endAt through;obtain⟨cur,code,pos,stack⟩:=t;cases stack with
 |cons a r=>exact .inr ⟨by cases cur<;>rfl,rfl⟩
 |nil =>
  cases cur with
  |pure f =>
   cases f with
   |done f=>simp_all
   |_=>simp_all
  |_=>exact .inr ⟨rfl,rfl⟩
theorem z3o{tb:String->Option Dp}{p:Program}{w:World}{n₀:Nat}{ann:Option Value}:∀{n:Nat} {s s':Af} {t:Thread} {f:Flow} {c:Code} {q:Pos},segRun tb p w n₀ ann 0 n s t=some (f,s',c,q)->topRun tb p w n₀ ann n s t=some s'
 |0,_,_,_,_,_,_,h=>by cases h
 |n+1,s,s',t,f,c,q,h=>by
  unfold segRun at h;unfold topRun;rcases end0 (t:=t) with⟨⟨f',e⟩,th⟩|⟨e,th⟩
  ·rw[e] at h;rw[th];cases h;rfl
  ·rw[e] at h;rw[th];dsimp only at h ⊢;cases ok:stepOk n₀ ann t with
   |false=>rw[ok] at h;cases h
   |true =>
    rw[ok] at h;dsimp only at h ⊢;cases st:step (denote tb) p w s t with
    |go s1 t1=>rw[st] at h;exact z3o h
    |halt _ _=>rw[st] at h;cases h
def mkT(l:List Obj):BT:=(l.foldl (fun(a:BT×Nat) o=>(a.1.ins a.2 o,a.2+1)) (BT.nil,0)).1
noncomputable def bootT (P:Params) (os:Lo):SharedT:=⟨mkT (boot_heap P).objs.toList,11,(boot_heap P).life,#[],boot_drawn,boot_toks,os⟩
theorem z9w(P:Params)(os:Lo):(bootT P os).abs=⟨boot_heap P,#[],boot_drawn,boot_toks,os⟩:=by kernel_rfl
theorem z5z(P:Params):((boot_heap P).isNs Ck&&(#[]:Array Oe).size==0,(boot_heap P).objs.size,(boot_heap P).nsMap Ck "__annotations__")=(true,11,some (.ref 6)):=by kernel_rfl
theorem left{Yf:Af->α}{Ya:World->α}(e:opening p=plainProg p.main.scope.names)(hN:Nat.ble 600 N=true)(f:∀s,fenceModules? p s=some s)(h:∀(w:World) (os:Lo),(segRunT Rm p w 11 (some (.ref 6)) 0 N (bootT w.params os) (topStub p)).map (fun r=>((staticsOk (Jq p.main.body) (boot_heap w.params) r.2.1.abs.heap&&namesBound p r.2.1.abs.heap&&gensDone r.2.1.abs&&laidKept (boot_heap w.params) r.2.1.abs.heap),
   openSeen q loose (Jq p.main.body) Xt true r.2.1.abs,Yf r.2.1.abs))=some (true,openGood q loose,Ya w)):LeftO p q loose Xt Yf Ya N:=fun w=>by
 obtain⟨⟨hp,gs,d,k,os⟩,e1,e2⟩:=Eo.mp (boot_open e hN f w);obtain⟨rfl,rfl,rfl,rfl⟩:hp=boot_heap w.params/\gs=#[]/\d=boot_drawn/\k=boot_toks:=by simpa using e2
 obtain⟨z1,z2,z3⟩:_/\_/\_:=by simpa only[Prod.mk.injEq] using z5z w.params
 obtain⟨⟨fl,st,c,ps⟩,r1,r2⟩:=Eo.mp (h w os);obtain⟨l1,l2,l3⟩:_/\_/\_:=by simpa only[Prod.mk.injEq] using r2
 have r:=z3o (segRun_of r1);rw[z9w] at r;have t:topFrom Rm p w N ⟨boot_heap w.params,#[],boot_drawn,boot_toks,os⟩=some st.abs:=by
  unfold topFrom;rw[z1,z2,z3,r];show(match staticsOk (Jq p.main.body) (boot_heap w.params) st.abs.heap&&namesBound p st.abs.heap&&gensDone st.abs&&laidKept (boot_heap w.params) st.abs.heap with|true=>_|false=>_)=_;rw[l1]
 unfold openEnds;rw[e1];show(topFrom Rm p w N _).map _=_;rw[t];exact congrArg some (Prod.ext l2 l3)
end HD
section
namespace K
open PySem PySem.W PyProof.Rows
abbrev loose:List Str:=[Ad "_wall",Ad "HallError",Ad "NoPattern",Ad "NoTemplate",Ad "NoHall",Ad "NoThing",Ad "NoDrawer",Ad "Taken",Ad "Fixed",Ad "NotEmpty",Ad "NoWish",Ad "Meets",Ad "NoPlace",Ad "Broken",Ad "Strayed",Ad "NoText",Ad "NoRule",Ad "Full",Ad "NoBook",Ad "NoSame",Ad "TooMuch",Ad "NoLine",Ad "Busy",Ad "NoDoer",Ad "NoRules",Ad "NAME_SIGNS",Ad "MOST_SIGNS",Ad "MOST_NAMES",Ad "all_of",Ad "is_name",Ad "alike",Ad "show_path",Ad "read_path",Ad "carried",Ad "Hall",Ad "copied",Ad "is_made",Ad "walk",Ad "turned_back",Ad "lines_of",Ad "Doer",Ad "read_move",Ad "read_book",Ad "is_made_without_line",Ad "read_stop",Ad "ask_rest",Ad "begun_again",Ad "way_back",Ad "_law_draw",Ad "_law_name",Ad "_law_folded",Ad "_law_rows",Ad "_law_mixed",Ad "_law_rows_right",Ad "_law_there",Ad "_law_moved",Ad "_law_move_due",Ad "_law_goal",Ad "_law_row",Ad "_law_path_text",Ad "_law_stop",Ad "_law_begin",Ad "_law_kind",Ad "_law_stands_so",Ad "_law_refused",Ad "_law_piece",Ad "_law_text_right",Ad "_law_one"]
abbrev vw:Program:=view PySem.Challenge.pw_renamehall_k62_stopped_amid_a_line [74]
abbrev xt(s:Af):Bool:=xlAt vw [] s&&recOk [] s
end K
open PySem PySem.W PyProof.Rows
local macro_rules | `(tactic| o_head $H) => `(tactic| (
  refine holds_open (q := K.vw) (loose := K.loose) (Xt := K.xt) (XP := XL K.vw []) (Yf := Hook.obs $H) (Ya := Hook.val $H) (YP := Hook.says $H) (N := 60000) ?hl (Hook.of $H) (Hook.keeps $H) (fun s e => xl_of s (Iy.mp e).1) XL.keeps
    (by rfl) (by rfl) (by rfl) (fun s e => recFacts_of (Iy.mp e).2) (by rfl) (by first | assumption | decide +kernel) (by decide +kernel) ⟨rfl, rfl, rfl, rfl, rfl, by decide +kernel⟩ ?hw ?hc))
set_option maxRecDepth 100000 in
set_option maxHeartbeats 0 in
theorem K.pre(h:False):PySem.Challenge.rw_renamehall_k62_stopped_amid_a_line.Holds:=by w_on;o_law;k_head;all_goals exact h.elim
theorem K.q0:(Nat.ble PySem.Challenge.pw_renamehall_k62_stopped_amid_a_line.main.body.length 100000)=true:=by k_qdec
abbrev K.as:List Nat:=[2,3,15,17,18,20,21,22,29,30,31,32,35,42,44,45,47,48,49,50,51,54,61,63,64,66,67,68,69,70,73,80,82,83,85,86,87,88,89,92,99,101,102,104,105,106,107,108,111,118,120,121,123,124,125,126,127,130,137,139,140,142,143,144,145,146,149,156,158,159,161,162,163,164,165,168,175,177,178,180,181,182,183,184,187,194,196,197,199,200,201,202,203,206,213,215,216,218,219,220,221,222,225,232,234,235,237,238,239,240,241,244,251,253,254,256,257,258,259,260,263,270,272,273,275,276,277,278,279,282,289,291,292,294,295,296,297,298,301,308,309,310,313,320,321,322,325,332,333,334,337,344,345,346,349,356,357,358,361,368,369,370,373,380,381,382,385,392,393,394,397,404,405,406,409,412,413,414,416,417,419,420,421,423,424,426,427,428,430,431,433,434,435,438,439,440,442,443,445,446,454,455,458,459,460,462,463,465,466,467,469,470,472,473,474,476,477,479,480,481,483,484,486,487,488,490,491,493,494,495,497,498,500,501,502,504,505,507,508,509,511,512,514,515,516,518,519,521,522,523,526,527,528,530,531,533,534,535,537,538,540,541,542,543,544,545,546,549,551,552,554,555,556,558,559,561,562,563,565,566,568,569,570,573,574,575,578,579,587,589,590,592,593,594,596,597,599,600,601,603,604,606,607,608,610,611,613,614,615,618,619,620,622,623,625,626,627,628,629,630,631,634,636,637,639,640,641,644,645,646,648,649,651,652,653,655,656,658,659,660,662,663,665,666,667,669,670,672,673,674,676,677,679,680,681,683,684,686,687,688,691,692,693,695,696,698,699,700,702,703,705,706,707,709,710,712,713,714,717,718,719,721,722,724,725,726,728,729,731,732,733,735,736,738,739,740,743,744,745,747,748,750,751,752,754,755,757,758,759,762,763,764,766,767,769,770,771,774,775,776,778,779,781,782,783,785,786,788,789,790,793,794,795,797,798,800,801,802,804,805,807,808,809,811,812,814,815]
set_option maxRecDepth 100000 in
set_option maxHeartbeats 0 in
theorem K.half0(w:World)(os:Lo):(segRunT Rm PySem.Challenge.pw_renamehall_k62_stopped_amid_a_line w 11 (some (.ref 6)) 0 60000 (HD.bootT w.params os) (topStub PySem.Challenge.pw_renamehall_k62_stopped_amid_a_line)).map (fun r=>((staticsOk (Jq PySem.Challenge.pw_renamehall_k62_stopped_amid_a_line.main.body) (boot_heap w.params) r.2.1.abs.heap&&namesBound PySem.Challenge.pw_renamehall_k62_stopped_amid_a_line r.2.1.abs.heap&&gensDone r.2.1.abs&&laidKept (boot_heap w.params) r.2.1.abs.heap),openSeen K.vw K.loose (Jq PySem.Challenge.pw_renamehall_k62_stopped_amid_a_line.main.body) K.xt true r.2.1.abs,(kHook K.pre.heap_39 K.as (fun _=>by kernel_rfl)).obs r.2.1.abs))=some (true,openGood K.vw K.loose,(kHook K.pre.heap_39 K.as (fun _=>by kernel_rfl)).val w):=by
 unfold K.xt K.vw;rw[PySem.W.Fast.te10110043849684766642,PySem.W.Fast.te4187177175401517315,PySem.W.Fast.te14364793385576792824,PySem.W.Fast.te5923862056798008813,PySem.W.Fast.te17479867705709506199];kernel_rfl
end
set_option Elab.async false
set_option linter.all false
set_option maxRecDepth 100000
namespace L2
open PySem PySem.Spec PyProof.Rows
abbrev Key:=Sum Int Str
def keyIs:Key->Value->Bool
 |.inl k,v=>Value.isInt k v
 |.inr x,v=>Value.isStrOf x v
def keyH(w:World):Key->Int
 |.inl k=>hashInt k
 |.inr x=>hashStr w x
theorem q1g:∀{k:Key} {v:Value},keyIs k v=true->(∃i t,k=Sum.inl i/\v=Value.int i t)\/(∃x t,k=Sum.inr x/\v=Value.str x t)
 |.inl i,v,h=>by
  obtain⟨t,e⟩:=Value.isInt_shape (k:=i) (v:=v) h;exact .inl ⟨i,t,rfl,e⟩
 |.inr x,v,h=>by
  obtain⟨t,e⟩:=Value.isStrOf_shape h;exact .inr ⟨x,t,rfl,e⟩
theorem z6a(i:Int)(t:Tok):keyIs (.inl i) (.int i t)=true:=by simp[keyIs,Value.isInt]
theorem z6b(x:Str)(t:Tok):keyIs (.inr x) (.str x t)=true:=by simp[keyIs,Value.isStrOf]
theorem key_ll(a b:Int):decide ((Sum.inl a:Key)=Sum.inl b)=(a==b):=by grind
theorem key_rr(a b:Str):decide ((Sum.inr a:Key)=Sum.inr b)=decide (a=b):=by grind
theorem key_lr(a:Int)(b:Str):decide ((Sum.inl a:Key)=Sum.inr b)=false:=decide_eq_false (fun q=>nomatch q)
theorem key_rl(a:Str)(b:Int):decide ((Sum.inr a:Key)=Sum.inl b)=false:=decide_eq_false (fun q=>nomatch q)
def mixKind(prog:Program)(w:World):PySem.KeyKind prog w Key where
 is:=keyIs
 hash:=keyH w
 inj:=fun v a b ha hb=>by
  rcases q1g ha with⟨i,t,rfl,rfl⟩|⟨x,t,rfl,rfl⟩
  ·rcases q1g hb with⟨j,u,rfl,e⟩|⟨y,u,rfl,e⟩
   ·injection e with e1 _;rw[e1]
   ·exact nomatch e
  ·rcases q1g hb with⟨j,u,rfl,e⟩|⟨y,u,rfl,e⟩
   ·exact nomatch e
   ·injection e with e1 _;rw[e1]
 byValue:=fun k v h=>by
  rcases q1g h with⟨i,t,rfl,rfl⟩|⟨x,t,rfl,rfl⟩<;>rfl
 pyHash:=fun hv h=>by
  rcases q1g hv with⟨i,t,rfl,rfl⟩|⟨x,t,rfl,rfl⟩
  ·exact wpAny_pyHash_int h
  ·exact wpAny_pyHash_str h
 eqBool:=fun hu hv h=>by
  rcases q1g hu with⟨i,t,rfl,rfl⟩|⟨x,t,rfl,rfl⟩
  ·rcases q1g hv with⟨j,u,rfl,rfl⟩|⟨y,u,rfl,rfl⟩
   ·rw[key_ll] at h;exact wpAny_eqBool_int h
   ·rw[key_lr] at h;exact Rn i t y u _ _ _ _ h
  ·rcases q1g hv with⟨j,u,rfl,rfl⟩|⟨y,u,rfl,rfl⟩
   ·rw[key_rl] at h;exact Ro x t j u _ _ _ _ h
   ·rw[key_rr] at h;exact wpAny_eqBool_str h
 «strs» := fun k x t v h=>by
  rcases q1g h with⟨i,u,rfl,e⟩|⟨y,u,rfl,e⟩
  ·exact nomatch e
  ·injection e with e1 _
   subst e1
   cases v<;>rfl
theorem z2f(prog:Program)(w:World)(i:Int)(t:Tok):(mixKind prog w).is (.inl i) (.int i t)=true:=z6a i t
theorem z2g(prog:Program)(w:World)(x:Str)(t:Tok):(mixKind prog w).is (.inr x) (.str x t)=true:=z6b x t
inductive V where
 |non|bl (b:Bool)|int (i:Int)|str (x:Str)|byt (b:Array UInt8)|flt (b:UInt64)|ref (a:Addr)|ty (n:String)
 deriving DecidableEq
def RelV:V->Value->Prop
 |.non,u=>u=Value.none
 |.bl b,u=>u=Value.bool b
 |.int i,u=>∃t,u=Value.int i t
 |.str x,u=>∃t,u=Value.str x t
 |.byt b,u=>∃t,u=Value.bytes b t
 |.flt b,u=>∃t,u=Value.float b t
 |.ref a,u=>u=Value.ref a
 |.ty n,u=>u=Value.type n
abbrev Vals:List V->List Value->Prop:=Cz RelV
theorem Vals.length(r:Vals xs us):xs.length=us.length:=Es r
theorem Vals.get:∀{xs:List V} {us:List Value} {i:Nat} {x:V},Vals xs us->xs[i]?=some x->∃u,us[i]?=some u/\RelV x u
 |_,_,_,_,.nil,e=>by simp at e
 |_,_,0,_,.cons r _,e=>by simp at e;subst e;exact⟨_,rfl,r⟩
 |_,_,i+1,x,.cons _ t,e=>by
  obtain⟨u,h1,h2⟩:=Vals.get (i:=i) (x:=x) t (by simpa using e);exact⟨u,by simpa using h1,h2⟩
theorem Vals.set{x:V}{u:Value}(r:RelV x u):∀{xs:List V} {us:List Value} (i:Nat),Vals xs us->Vals (xs.set i x) (us.set i u)
 |_,_,_,.nil=>.nil
 |_,_,0,.cons _ t=>.cons r t
 |_,_,i+1,.cons q t=>.cons q (Vals.set r i t)
theorem Vals.append:∀{xs ys:List V} {us ws:List Value},Vals xs us->Vals ys ws->Vals (xs++ys) (us++ws)
 |_,_,_,_,.nil,s=>s
 |_,_,_,_,.cons r t,s=>.cons r (Vals.append t s)
theorem Vals.take:∀{xs:List V} {us:List Value} (n:Nat),Vals xs us->Vals (xs.take n) (us.take n)
 |_,_,0,_=>.nil
 |_,_,_+1,.nil=>.nil
 |_,_,n+1,.cons r t=>.cons r (Vals.take n t)
theorem Vals.drop:∀{xs:List V} {us:List Value} (n:Nat),Vals xs us->Vals (xs.drop n) (us.drop n)
 |_,_,0,r=>r
 |_,_,_+1,.nil=>.nil
 |_,_,n+1,.cons _ t=>Vals.drop n t
theorem Vals.none_of:∀{xs:List V} {us:List Value} {i:Nat},Vals xs us->xs[i]?=none->us[i]?=none:=fun{xs us i} r e=>by
 have h1:=r.length;have h2:=Nz.mp e;exact Nz.mpr (by lia)
def RelO:Option V->Option Value->Prop
 |some v,some u=>RelV v u
 |none,none=>True
 |_,_=>False
def KV{κ:Type}:List (κ×V)->List (κ×Value)->Prop:=Cz fun(p:κ×V) (q:κ×Value)=>p.1=q.1/\RelV p.2 q.2
def kV:Key->V
 |.inl i=>.int i
 |.inr x=>.str x
inductive HO where
 |lst (xs:List V)
 |tup (xs:List V)
 |dK (kvs:List (Key×V))|dT (kvs:List (List Key×V))
 |set (S:Int->Bool) (n:Nat)
 |ins (C dx:Addr) (fs:List (Str×V))
 |own (x:Addr)
 |xd (fs:List (Str×V))
 |met (f x:Addr)
 |rng (lo hi:Int)
 |frz (o:Obj) (u:HO)
 |tbl (ps:Array Value)
 |ext (φ:Heap->Prop)
abbrev Hp:=Addr->Option HO
def upd(H:Hp)(a:Addr)(o:HO):Hp:=fun b=>if b=a then some o else H b
theorem q0b:upd H a o a=some o:=by unfold upd;rw[if_pos rfl]
theorem q0e(h:b≠a):upd H a o b=H b:=by unfold upd;rw[if_neg h]
theorem x3c:upd (upd H a o) a u=upd H a u:=by
 funext b;unfold upd;split<;>rfl
theorem z6c{H:Hp}(h:H a=some o)(h':H b=some u)(d:o≠u):a≠b:=by grind
theorem q0n{H:Hp}(h:H a=some o)(h':H b=none):a≠b:=by
 intro e;subst e;rw[h] at h';cases h'
section
variable(P:Program)(w:World)
def ObjOk(H:Hp)(h:Heap)(a:Addr):HO->Prop
 |.lst xs=>xs.length<=sizeLine/\∃(its:List Value) (n:Nat),Vals xs its/\h.get? a=some { cls:=.type "list",data:=.seq its.toArray n }
 |.tup xs=>xs.length<=sizeLine/\∃its:List Value,Vals xs its/\IsTup h a its.toArray
 |.dK kvs=>kvs.length<=sizeLine/\(a==Et)=false/\∃vs,KV kvs vs/\h.DictOf (mixKind P w) a vs
 |.dT kvs=>kvs.length<=sizeLine/\(a==Et)=false/\∃xs:List (List Key×Addr×Value),
   Cz (fun(p:List Key×V) (q:List Key×Addr×Value)=>p.1=q.1/\H q.2.1=some (.tup (p.1.map kV))/\RelV p.2 q.2.2) kvs xs /\
   ∃o es ep,h.get? a=some o/\o.ExactDict/\o.data=.dict es ep/\es.toList=xs.map (Qm (Hu (mixKind P w)))/\(xs.map (·.1)).Nodup
 |.set S n=>h.SetOf (intKind P w) a S n
 |.ins C dx fs=>H dx=some (.own a)/\fs.length<=1000/\dx≠a/\h.get? a=some (Jv C dx) /\
   ∃mA,h.Ns1 dx mA/\(∀f,RelO (fs.lookup f) (mA f))/\Lw mA (fs.map (·.1))
 |.own _=>∃o,h.get? a=some o
 |.xd fs=>∃mA,h.Ns1 a mA/\∀f,RelO (fs.lookup f) (mA f)
 |.rng lo hi=>∃t u v,h.get? a=some { cls:=.type "range",data:=.fields #[.int lo t,.int hi u,.int 1 v] }
 |.frz o u=>h.get? a=some o/\ObjOk H h a u
 |.tbl ps=>h.get? a=some { cls:=.none,data:=.fields ps }
 |.met f x=>h.get? a=some (W.methodObj (.ref f) (.ref x))
 |.ext φ=>φ h/\(∃o,h.get? a=some o)/\∀h1 h2:Heap,φ h1->(∀o,h1.get? a=some o->h2.get? a=some o)->φ h2
def HOk(H:Hp)(h:Heap):Prop:=∀a o,H a=some o->ObjOk P w H h a o
end
section
variable{P:Program}{w:World}{H H':Hp}{h h':Heap}{a:Addr}{o:HO}
theorem ObjOk.lt(x:ObjOk P w H h a o):a<h.objs.size:=by
 cases o with
 |lst xs=>obtain⟨_,_,_,_,e⟩:=x;exact Am e
 |tup xs=>obtain⟨_,_,_,p⟩:=x;exact p.lt
 |dK kvs=>obtain⟨_,_,_,_,o,_,_,e,_⟩:=x;exact Am e
 |dT kvs=>obtain⟨_,_,_,_,o,_,_,e,_⟩:=x;exact Am e
 |set S n=>obtain⟨o,_,_,_,e,_⟩:=x;exact Am e
 |ins C dx fs=>obtain⟨_,_,_,e,_⟩:=x;exact Am e
 |own y=>obtain⟨_,e⟩:=x;exact Am e
 |xd fs=>obtain⟨_,⟨_,_,_,e,_⟩,_⟩:=x;exact Am e
 |rng lo hi=>obtain⟨_,_,_,e⟩:=x;exact Am e
 |frz ob u=>obtain⟨e,_⟩:=x;exact Am e
 |tbl ps=>exact Am (show h.get? a=some _ from x)
 |met f y=>exact Am (show h.get? a=some _ from x)
 |ext φ=>obtain⟨_,⟨_,e⟩,_⟩:=x;exact Am e
theorem Cz.mapP{α β:Type}{F G:α->β->Prop}:∀{l₁:List α} {l₂:List β},Cz F l₁ l₂->(∀a b,F a b->G a b)->Cz G l₁ l₂
 |_,_,.nil,_=>.nil
 |_,_,.cons r t,f=>.cons (f _ _ r) (Cz.mapP t f)
theorem Cz.imp'{F G:α->β->Prop}(f:∀a b,F a b->G a b){l₁:List α}{l₂:List β}(r:Cz F l₁ l₂):Cz G l₁ l₂:=Cz.mapP r f
theorem ObjOk.stay(x:ObjOk P w H h a o)(k:∀b u,(b=a\/H b=some (.own a))->h.get? b=some u->h'.get? b=some u)(ho:∀b,H b=some (.own a)->H' b=some (.own a))(ht:∀b xs,H b=some (.tup xs)->H' b=some (.tup xs)):ObjOk P w H' h' a o:=by
 induction o with
 |lst xs=>obtain⟨z,its,n,r,e⟩:=x;exact⟨z,its,n,r,k _ _ (.inl rfl) e⟩
 |tup xs=>obtain⟨z,its,r,ob,e,c⟩:=x;exact⟨z,its,r,ob,k _ _ (.inl rfl) e,c⟩
 |dK kvs=>obtain⟨z,y,vs,r,ob,es,ep,e,c⟩:=x;exact⟨z,y,vs,r,ob,es,ep,k _ _ (.inl rfl) e,c⟩
 |dT kvs =>
  obtain⟨z,y,xs,r,ob,es,ep,e,c⟩:=x;exact⟨z,y,xs,Cz.mapP r fun p q z=>⟨z.1,ht _ _ z.2.1,z.2.2⟩,ob,es,ep,k _ _ (.inl rfl) e,c⟩
 |set S n=>obtain⟨ob,es,ep,t,e,c⟩:=x;exact⟨ob,es,ep,t,k _ _ (.inl rfl) e,c⟩
 |ins C dx fs =>
  obtain⟨d,z,ne,e,mA,⟨od,es,ep,e2,c⟩,r⟩:=x;exact⟨ho _ d,z,ne,k _ _ (.inl rfl) e,mA,⟨od,es,ep,k _ _ (.inr d) e2,c⟩,r⟩
 |own y=>obtain⟨ob,e⟩:=x;exact⟨ob,k _ _ (.inl rfl) e⟩
 |xd fs=>obtain⟨mA,⟨od,es,ep,e,c⟩,r⟩:=x;exact⟨mA,⟨od,es,ep,k _ _ (.inl rfl) e,c⟩,r⟩
 |rng lo hi=>obtain⟨t,u,v,e⟩:=x;exact⟨t,u,v,k _ _ (.inl rfl) e⟩
 |frz ob u ih=>obtain⟨e,q⟩:=x;exact⟨k _ _ (.inl rfl) e,ih q⟩
 |tbl ps =>
  have e:h.get? a=some { cls:=.none,data:=.fields ps }:=x;exact k a _ (.inl rfl) e
 |met f y =>
  have e:=x;exact k a _ (.inl rfl) e
 |ext φ=>obtain⟨p,⟨o,e⟩,st⟩:=x;exact⟨st _ _ p fun o q=>k _ _ (.inl rfl) q,⟨o,k _ _ (.inl rfl) e⟩,st⟩
theorem HOk.lt(x:HOk P w H h)(e:H a=some o):a<h.objs.size:=(x a o e).lt
theorem HOk.fresh(x:HOk P w H h)(e:h.objs.size<=a):H a=none:=by
 cases q:H a with
 |none=>rfl
 |some u=>exact absurd (Bj (x.lt q) e) (Fn _)
theorem HOk.kept(x:HOk P w H h)(k:∀b u,h.get? b=some u->h'.get? b=some u):HOk P w H h':=fun a o e =>
 (x a o e).stay (fun b u _ q=>k b u q) (fun _ q=>q) fun _ _ q=>q
theorem HOk.laid(x:HOk P w H h)(k:∀b u,h.get? b=some u->h'.get? b=some u)(hp:h.objs.size<=a)(new:ObjOk P w (upd H a o) h' a o):HOk P w (upd H a o) h':=fun b u e=>by
 have hn:=x.fresh hp;by_cases hb:b=a
 ·subst hb;rw[q0b] at e;cases e;exact new
 ·rw[q0e hb] at e;exact(x b u e).stay (fun c v _ q=>k c v q) (fun c q=>by rw[q0e (q0n q hn)];exact q) fun c xs q=>by rw[q0e (q0n q hn)];exact q
end
def Rd(H:Hp)(a:Addr)(u:HO):Prop:=H a=some u\/∃o,H a=some (.frz o u)
theorem Rd.of(h:H a=some u):Rd H a u:=.inl h
theorem Rd.ok(r:Rd H a u)(x:HOk P w H h):ObjOk P w H h a u:=by
 rcases r with r|⟨o,r⟩
 ·exact x a u r
 ·obtain⟨_,q⟩:=x a _ r;exact q
def Mut:Option HO->Prop
 |some (.lst _)=>True
 |some (.dK _)=>True
 |some (.dT _)=>True
 |some (.set _ _)=>True
 |some (.ins _ _ _)=>True
 |some (.ext _)=>True
 |_=>False
section
variable{P:Program}{w:World}{H:Hp}{h h':Heap}{x e:Addr}{o':HO}
theorem HOk.write(ok:HOk P w H h)(mu:Mut (H x))(he:e=x\/H e=some (.own x))(k:∀b u,b≠e->h.get? b=some u->h'.get? b=some u)(heo:∃u,h'.get? e=some u)(new:ObjOk P w (upd H x o') h' x o'):HOk P w (upd H x o') h':=fun b u q=>by
 have nown:∀c y,H c=some (.own y)->c≠x:=fun c y r z=>by subst z;rw[r] at mu;exact mu
 have ntup:∀c xs,H c=some (.tup xs)->c≠x:=fun c xs r z=>by subst z;rw[r] at mu;exact mu
 by_cases hb:b=x
 ·subst hb;rw[q0b] at q;cases q;exact new
 ·rw[q0e hb] at q;by_cases hbe:b=e
  ·have q':H b=some (.own x):=by
    rcases he with z|z
    ·grind
    ·rw[hbe];exact z
   rw[q] at q';cases q';obtain⟨v,hv⟩:=heo;exact⟨v,by rw[hbe];exact hv⟩
  ·refine(ok b u q).stay (fun c v hc r=>k c v ?_ r) (fun c r=>by rw[q0e (nown c b r)];exact r) fun c xs r=>by rw[q0e (ntup c xs r)];exact r
   rcases hc with rfl|hc
   ·exact hbe
   ·grind
end
structure Un (fs ex:List Addr) (H H':Hp) (h h':Heap):Prop where
 keep:∀b o,h.get? b=some o->H b=none->b∉fs->b∉ex->h'.get? b=some o
 slot:∀b o,h.get? b=some o->H b=none->b∈fs->b∉ex->∃sl,h'.get? b=some { o with slots:=sl }
 free:∀b o,h.get? b=some o->H b=none->b∉ex->H' b=none
 there:∀b o,h.get? b=some o->b∉ex->∃o',h'.get? b=some o'
 tups:∀b xs,H b=some (.tup xs)->H' b=some (.tup xs)
 frzs:∀b o u,H b=some (.frz o u)->H' b=some (.frz o u)
 tbls:∀b ps,H b=some (.tbl ps)->∃more,H' b=some (.tbl (ps++more))
section
variable{fs fs' ex ex':List Addr}{H H1 H2:Hp}{h h1 h2 h':Heap}{a x e:Addr}{o:HO}
theorem Un.any(u:Un fs ex H H1 h h1)(q:h.get? b=some ob)(n:H b=none)(hx:b∉ex):∃sl,h1.get? b=some { ob with slots:=sl }:=by
 by_cases hb:b∈fs
 ·exact u.slot b ob q n hb hx
 ·exact⟨ob.slots,u.keep b ob q n hb hx⟩
theorem Un.trans(a:Un fs ex H H1 h h1)(b:Un fs ex H1 H2 h1 h2):Un fs ex H H2 h h2 where
 keep:=fun c ob q n hc hx=>b.keep c ob (a.keep c ob q n hc hx) (a.free c ob q n hx) hc hx
 slot:=fun c ob q n hc hx=>by
  obtain⟨sl,e1⟩:=a.slot c ob q n hc hx;obtain⟨sl',e2⟩:=b.slot c _ e1 (a.free c ob q n hx) hc hx;exact⟨sl',e2⟩
 free:=fun c ob q n hx=>by
  obtain⟨o',e1⟩:=a.there c ob q hx;exact b.free c o' e1 (a.free c ob q n hx) hx
 there:=fun c ob q hx=>by
  obtain⟨o',e1⟩:=a.there c ob q hx;exact b.there c o' e1 hx
 tups:=fun c xs q=>b.tups c xs (a.tups c xs q)
 frzs:=fun c ob xs q=>b.frzs c ob xs (a.frzs c ob xs q)
 tbls:=fun c ps q=>by
  obtain⟨m1,e1⟩:=a.tbls c ps q;obtain⟨m2,e2⟩:=b.tbls c _ e1;exact⟨m1++m2,by rw[e2,Rp]⟩
theorem Un.kept(k:∀b u,h.get? b=some u->h'.get? b=some u):Un fs ex H H h h' :=
 ⟨fun b ob q _ _ _=>k b ob q,fun b ob q _ _ _=>⟨ob.slots,k b ob q⟩,fun _ _ _ n _=>n,fun b ob q _=>⟨ob,k b ob q⟩,fun _ _ q=>q,fun _ _ _ q=>q,fun _ ps q=>⟨#[],by rw[q];simp⟩⟩
theorem Un.refl:Un fs ex H H h h:=Un.kept fun _ _ q=>q
theorem Un.laid(k:∀b u,h.get? b=some u->h'.get? b=some u)(hp:h.objs.size<=a)(hn:H a=none):Un fs ex H (upd H a o) h h' where
 keep:=fun b u q _ _ _=>k b u q
 slot:=fun b u q _ _ _=>⟨u.slots,k b u q⟩
 free:=fun b u q n _=>by rw[q0e (Bc (Bj (Am q) hp))];exact n
 there:=fun b u q _=>⟨u,k b u q⟩
 tups:=fun b xs q=>by rw[q0e (q0n q hn)];exact q
 frzs:=fun b u xs q=>by rw[q0e (q0n q hn)];exact q
 tbls:=fun b ps q=>⟨#[],by rw[q0e (q0n q hn),q];simp⟩
theorem Un.write(mu:Mut (H x))(he:e=x\/H e=some (.own x))(k:∀b u,b≠e->h.get? b=some u->h'.get? b=some u)(heo:∃u,h'.get? e=some u):Un fs ex H (upd H x o) h h':=by
 have hx:∀b,H b=none->b≠x:=fun b n z=>by subst z;rw[n] at mu;exact mu
 have hb:∀b,H b=none->b≠e:=fun b n z=>by
  subst z;rcases he with r|r
  ·exact hx b n r
  ·rw[n] at r;cases r
 have hm:∀b u,H b=some u->¬Mut (some u)->b≠x:=fun b u q nm z=>by subst z;rw[q] at mu;exact nm mu
 refine⟨fun b u q n _ _=>k b u (hb b n) q,fun b u q n _ _=>⟨u.slots,k b u (hb b n) q⟩,fun b u q n _=>by rw[q0e (hx b n)];exact n,fun b u q _=>?_,
  fun b xs q=>by rw[q0e (hm b _ q fun z=>z)];exact q,fun b u xs q=>by rw[q0e (hm b _ q fun z=>z)];exact q,fun b ps q=>⟨#[],by rw[q0e (hm b _ q fun z=>z),q];simp⟩⟩
 by_cases hbe:b=e
 ·subst hbe;exact heo
 ·grind
theorem Un.mono(u:Un fs ex H H1 h h1)(hs:∀b∈fs,b∈fs')(hx:∀b∈ex,b∈ex'):Un fs' ex' H H1 h h1 :=
 ⟨fun b ob q n hb he=>u.keep b ob q n (fun z=>hb (hs b z)) fun z=>he (hx b z),fun _ _ q n _ he=>u.any q n fun z=>he (hx _ z),fun b ob q n he=>u.free b ob q n fun z=>he (hx b z),fun b ob q he=>u.there b ob q fun z=>he (hx b z),u.tups,u.frzs,u.tbls⟩
end
def trk(h:Heap)(H:Hp):List Addr:=(List.range h.objs.size).filter fun a=>(H a).isSome
def hidT(h:Heap)(H:Hp):Heap:=W.hideAll h (trk h H)
theorem z6d(h:Heap)(H:Hp):(hidT h H).objs.size=h.objs.size:=W.hideAll_size _ _
theorem z9x(e:h.get? b=some o)(n:H b=none):(hidT h H).get? b=some o :=
 W.hideAll_get _ e fun hm=>by
  have q:=(Tu.mp hm).2;rw[n] at q;simp at q
theorem x3d(e:(hidT h H).get? b=some o):h.get? b=some o/\H b=none:=by
 have e':=W.of_hideAll (trk h H) e;refine⟨e',?_⟩;cases q:H b with
 |none=>rfl
 |some x =>
  have hm:b∈trk h H:=Tu.mpr ⟨List.mem_range.mpr (Am e'),by simp[q]⟩;have z:(hidT h H).get? b=none:=W.hideAll_none (trk h H) hm;rw[z] at e;cases e
def allNews(g h:Heap)(L:Addr):List (Addr×Obj):=(List.range h.objs.size).filterMap fun a=>if a=L\/(g.get? a).isSome=true then none else(h.get? a).map fun o=>(a,o)
def rest(g h:Heap)(L d:Addr):List (Addr×Obj):=(allNews g h L).filter fun p=>decide (p.1≠d)
open PySem PySem.Spec PyProof.Rows
structure Mod (K:Ah) (mg:Str->Option Value) (base:Heap):Prop where
 kin:K.In base
 glob:base.Ns Ck mg
 blt:∃mb,base.Ns builtinsNs mb/\∀x:Str,x ≠ "__name__" -> mb x=Hg x
 nolimit:base.NoLimit
structure Cx where
 prog:Program
 w:World
 K:Ah
 mg:Str->Option Value
 base:Heap
 A:Around
 N:List Str
 s₀:Af
 H₀:Hp
 env:Env
 outer:List Env
 stack:List Env
 ex:List Addr
 fn:Str->Bool
 calm:Bool
 pn:List (Addr×Obj)
 xe:Value->Af->Prop
def frs(l:List Env):List Addr:=l.filterMap (·.frame)
abbrev Cx.fs(X:Cx):List Addr:=frs X.outer
def Vis(sc:Scope)(x:Str):Prop:=sc.names.lookup x=some .local\/sc.names.lookup x=some .cell\/sc.names.lookup x=some .free
def Loc(sc:Scope)(x:Str):Prop:=sc.names.lookup x=some .local\/sc.names.lookup x=some .cell
def Look(env:Env)(h:Heap)(m:Str->Option Value)(x:Str)(u:Value):Prop :=
 (env.kindOf x=some .local/\m x=some u)\/((env.kindOf x=some .cell\/env.kindOf x=some .free)/\∃c,env.cells.lookup x=some c/\h.IsCell c (some u))
structure Cx.Ok (X:Cx):Prop where
 mod:Mod X.K X.mg X.base
 kind:X.env.scope.kind=.function
 glob:X.env.globals=Ck
 blt:X.env.builtins=builtinsNs
 above:X.s₀.heap.objs.size<=X.env.locals
 inj:∀x y c,X.env.cells.lookup x=some c->X.env.cells.lookup y=some c->x=y
 has:∀x,(X.env.kindOf x=some .cell\/X.env.kindOf x=some .free)->∃c,X.env.cells.lookup x=some c
 cab:∀x c,X.fn x=true->X.env.cells.lookup x=some c->X.s₀.heap.objs.size<=c
 hd:X.calm=true->X.A.handled=none
 frames:X.A.frames=some X.stack
 stk:X.stack=X.outer\/(X.stack=X.env::X.outer/\X.env.frame=some X.env.locals)
 exf:∀b∈X.ex,b≠X.env.locals/\∀x c,X.env.cells.lookup x=some c->c≠b
 bs:∀b o,X.base.get? b=some o->X.s₀.heap.get? b=some o/\X.H₀ b=none
 bsz:X.base.objs.size<=X.s₀.heap.objs.size
 noex:∀b o,X.base.get? b=some o->b∉X.ex
 exfs:∀b∈X.ex,b∉X.fs
 funs:X.s₀.heap.FunFrames X.base X.outer
 frf:∀b∈X.fs,X.H₀ b=none
structure Inv (X:Cx) (pins:List (Addr×Obj)) (σ:List (Option V)) (H:Hp) (s:Af):Prop where
 ok:X.Ok
 os:s.os=X.s₀.os
 bare:Kj s.gens
 base:Un X.fs X.ex X.H₀ H X.s₀.heap s.heap
 loc:∃m,s.heap.Ns X.env.locals m/\∀(i:Nat) (x:Str) (v:V),X.N[i]?=some x->σ[i]?=some (some v)->Vis X.env.scope x->∃u,RelV v u/\Look X.env s.heap m x u
 cell:∀x c,X.env.cells.lookup x=some c->∃v,s.heap.IsCell c v
 free:H X.env.locals=none
 freeC:∀x c,X.env.cells.lookup x=some c->H c=none
 pin:∀p∈X.pn++pins,s.heap.get? p.1=some p.2/\H p.1=none/\p.1≠X.env.locals/\p.1∉X.fs/\∀v,p.2.data≠.cell v
 hok:HOk X.prog X.w H s.heap
 len:σ.length=X.N.length
section
variable{X:Cx}{pins:List (Addr×Obj)}{σ:List (Option V)}{H H':Hp}{s:Af}{h':Heap}
theorem Cx.Ok.nofr(ok:X.Ok)(e:X.base.get? b=some o):b∉X.fs:=fun hb=>by
 have:=(ok.funs.mem hb).1;rw[e] at this;cases this
theorem Inv.bs(I:Inv X pins σ H s):∀b o,X.base.get? b=some o->s.heap.get? b=some o/\H b=none:=fun b o e =>
 ⟨I.base.keep b o (I.ok.bs b o e).1 (I.ok.bs b o e).2 (I.ok.nofr e) (I.ok.noex b o e),I.base.free b o (I.ok.bs b o e).1 (I.ok.bs b o e).2 (I.ok.noex b o e)⟩
theorem Inv.bk(I:Inv X pins σ H s):∀b o,X.base.get? b=some o->s.heap.get? b=some o:=fun b o e=>(I.bs b o e).1
theorem Inv.mod(I:Inv X pins σ H s):Mod X.K X.mg X.base:=I.ok.mod
theorem Inv.kIn(I:Inv X pins σ H s):X.K.In s.heap:=I.ok.mod.kin.keeps I.bk
theorem Inv.nolimit(I:Inv X pins σ H s):s.heap.NoLimit:=I.ok.mod.nolimit.keeps I.bk
theorem Inv.fr(I:Inv X pins σ H s):∃m,Fr X.base X.env.locals s.heap m :=
 let ⟨m,hn,_⟩:=I.loc
 ⟨m,hn,I.bk,Cn I.ok.bsz I.ok.above⟩
theorem Inv.lt(I:Inv X pins σ H s):X.env.locals<s.heap.objs.size:=let ⟨_,hn,_⟩:=I.loc;hn.lt
theorem Inv.sz(I:Inv X pins σ H s):X.s₀.heap.objs.size<=s.heap.objs.size:=Cn I.ok.above (Hh I.lt)
theorem Inv.nofs(I:Inv X pins σ H s){a:Addr}(h:s.heap.objs.size<=a):a∉X.fs:=fun hb=>by
 obtain⟨_,o,ho,_⟩:=I.ok.funs.mem hb;exact absurd (Bj (Am ho) (Cn I.sz h)) (Fn _)
theorem Inv.cne(I:Inv X pins σ H s):∀x c,X.env.cells.lookup x=some c->c≠X.env.locals:=fun x c e z=>by
 obtain⟨v,o,ho,hd⟩:=I.cell x c e;obtain⟨m,⟨o',es,ep,ho',hd',_⟩,_⟩:=I.loc;rw[z,ho'] at ho;cases ho;rw[hd'] at hd;cases hd
theorem Inv.funs(I:Inv X pins σ H s):s.heap.FunFrames X.base X.outer:=by
 have all:∀(l:List Env),(∀b∈frs l,b∈X.fs)->X.s₀.heap.FunFrames X.base l->s.heap.FunFrames X.base l:=by
  intro l;induction l with
  |nil=>intro _ _;trivial
  |cons env r ih =>
   intro hs hl;obtain⟨hk,⟨L,o,hf,hn,ho,hd⟩,hr⟩:=hl;have hL:=hs L (by unfold frs;rw[Mq,hf];exact Ao);obtain⟨sl,e⟩:=I.base.slot L o ho (I.ok.frf L hL) hL fun z=>I.ok.exfs L z hL;exact⟨hk,⟨L,_,hf,hn,e,hd⟩,ih (fun b hb=>hs b (by unfold frs;rw[Mq,hf];exact Ak _ hb)) hr⟩
 exact all X.outer (fun _ hb=>hb) I.ok.funs
theorem Inv.stack(I:Inv X pins σ H s):s.heap.FunFrames X.base X.stack:=by
 rcases I.ok.stk with e|⟨e,hf⟩
 ·rw[e];exact I.funs
 ·rw[e];obtain⟨m,hn,_⟩:=I.loc;refine .cons (by rw[I.ok.kind];decide) hf hn ?_ I.funs;exact Lx (Cn I.ok.bsz I.ok.above)
theorem Inv.stkSub(I:Inv X pins σ H s):∀b∈frs X.stack,b∈X.env.locals::X.fs:=fun b hb=>by
 rcases I.ok.stk with e|⟨e,hf⟩
 ·grind
 ·rw[e] at hb;unfold frs at hb;rw[Mq,hf] at hb;exact hb
theorem Inv.stkFree(I:Inv X pins σ H s):∀b∈frs X.stack,H b=none:=fun b hb=>by
 rcases Bd.mp (I.stkSub b hb) with e|hb
 ·rw[e];exact I.free
 ·obtain⟨_,o,ho,_⟩:=I.ok.funs.mem hb;exact I.base.free b o ho (I.ok.frf b hb) fun z=>I.ok.exfs b z hb
theorem Inv.step{ch:List Addr}(I:Inv X pins σ H s)(hch:∀b∈ch,(b∈X.ex\/X.s₀.heap.objs.size<=b)/\b≠X.env.locals/\(∀x c,X.env.cells.lookup x=some c->c≠b)/\∀p∈X.pn++pins,p.1≠b)(keep:∀b o,b≠X.env.locals->b∉X.fs->b∉ch->s.heap.get? b=some o->H b=none->h'.get? b=some o)(slot:∀b o,b≠X.env.locals->b∈X.fs->b∉ch->s.heap.get? b=some o->H b=none->∃sl,h'.get? b=some { o with slots:=sl })(free:∀b o,b∉ch->s.heap.get? b=some o->H b=none->H' b=none)(there:∀b o,b∉ch->s.heap.get? b=some o->∃o',h'.get? b=some o')(tups:∀b xs,H b=some (.tup xs)->H' b=some (.tup xs))(frzs:∀b o u,H b=some (.frz o u)->H' b=some (.frz o u))(tbls:∀b ps,H b=some (.tbl ps)->∃more,H' b=some (.tbl (ps++more)))(ns:∀m,s.heap.Ns X.env.locals m->h'.Ns X.env.locals m)(hok:HOk X.prog X.w H' h')(hg:Kj g'):
  Inv X pins σ H' { s with heap:=h',gens:=g',drawn:=d',toks:=t' }:=by
 have neL:∀b o,X.s₀.heap.get? b=some o->b≠X.env.locals:=fun b o e=>Bc (Bj (Am e) I.ok.above);have neC:∀b o,X.s₀.heap.get? b=some o->b∉X.ex->b∉ch:=fun b o e hx hb=>by
  rcases(hch b hb).1 with z|z
  ·exact hx z
  ·exact absurd (Bj (Am e) z) (Fn _)
 have cellK:∀x c,X.env.cells.lookup x=some c->∀v,s.heap.IsCell c v->h'.IsCell c v:=fun x c e v ⟨o,ho,hd⟩=>by
  have nch:=fun z=>(hch c z).2.2.1 x c e rfl;by_cases hc:c∈X.fs
  ·obtain⟨sl,q⟩:=slot c o (I.cne x c e) hc nch ho (I.freeC x c e);exact⟨_,q,hd⟩
  ·exact⟨o,keep c o (I.cne x c e) hc nch ho (I.freeC x c e),hd⟩
 refine⟨I.ok,I.os,hg,⟨fun b o e n hb hx=>?_,fun b o e n hb hx=>?_,fun b o e n hx=>?_,fun b o e hx=>?_,fun b xs e=>tups b xs (I.base.tups b xs e),fun b o xs e=>frzs b o xs (I.base.frzs b o xs e),fun b ps e=>?_⟩,?_,fun x c e=>?_,?_,fun x c e=>?_,fun p hp=>?_,hok,I.len⟩
 ·exact keep b o (neL b o e) hb (neC b o e hx) (I.base.keep b o e n hb hx) (I.base.free b o e n hx)
 ·obtain⟨sl,e1⟩:=I.base.slot b o e n hb hx;obtain⟨sl',e2⟩:=slot b _ (neL b o e) hb (neC b o e hx) e1 (I.base.free b o e n hx);exact⟨sl',e2⟩
 ·obtain⟨o',e1⟩:=I.base.there b o e hx;exact free b o' (neC b o e hx) e1 (I.base.free b o e n hx)
 ·obtain⟨o',e1⟩:=I.base.there b o e hx;exact there b o' (neC b o e hx) e1
 ·obtain⟨m1,e1⟩:=I.base.tbls b ps e;obtain⟨m2,e2⟩:=tbls b _ e1;exact⟨m1++m2,by rw[e2,Rp]⟩
 ·obtain⟨m,hn,hl⟩:=I.loc;refine⟨m,ns m hn,fun i x v e1 e2 e3=>?_⟩;obtain⟨u,r,l⟩:=hl i x v e1 e2 e3;refine⟨u,r,?_⟩;rcases l with l|⟨k,c,e,z⟩
  ·exact .inl l
  ·exact .inr ⟨k,c,e,cellK x c e _ z⟩
 ·obtain⟨v,z⟩:=I.cell x c e;exact⟨v,cellK x c e v z⟩
 ·obtain⟨m,⟨o,_,_,ho,_⟩,_⟩:=I.loc;exact free _ o (fun z=>(hch _ z).2.1 rfl) ho I.free
 ·obtain⟨v,o,ho,hd⟩:=I.cell x c e;exact free c o (fun z=>(hch c z).2.2.1 x c e rfl) ho (I.freeC x c e)
 ·obtain⟨e,n,ne,nf,d⟩:=I.pin p hp;have nch:=fun z=>(hch p.1 z).2.2.2 p hp rfl
  exact⟨keep p.1 p.2 ne nf nch e n,free p.1 p.2 nch e n,ne,nf,d⟩
theorem Inv.un(I:Inv X pins σ H s)(u:Un X.fs [] H H' s.heap h')(hok:HOk X.prog X.w H' h'):Inv X pins σ H' { s with heap:=h',toks:=t' }:=by
 obtain⟨m,⟨o,es,ep,ho,r⟩,_⟩:=id I.loc;obtain⟨sl,hL⟩:=u.any ho I.free (by simp);exact I.step (g':=s.gens) (d':=s.drawn) (ch:=[]) (fun _ z=>nomatch z) (fun b o _ hb _ e n=>u.keep b o e n hb (by simp)) (fun b o _ hb _ e n=>u.slot b o e n hb (by simp)) (fun b o _ e n=>u.free b o e n (by simp)) (fun b o _ e=>u.there b o e (by simp)) u.tups u.frzs u.tbls (fun m' hm=>by
  obtain⟨o',es',ep',ho',r'⟩:=hm;rw[ho] at ho';cases ho';exact⟨_,es',ep',hL,r'⟩) hok I.bare
theorem Inv.call(I:Inv X pins σ H s)(u:Un (frs X.stack) ch H H' s.heap h')(hok:HOk X.prog X.w H' h')(hg:Kj g')(hch:∀b∈ch,(b∈X.ex\/X.s₀.heap.objs.size<=b)/\b≠X.env.locals/\(∀x c,X.env.cells.lookup x=some c->c≠b)/\∀p∈X.pn++pins,p.1≠b):
  Inv X pins σ H' { s with heap:=h',gens:=g',drawn:=d',toks:=t' }:=by
 obtain⟨m,⟨o,es,ep,ho,r⟩,_⟩:=id I.loc;obtain⟨sl,hL⟩:=u.any ho I.free fun z=>(hch _ z).2.1 rfl
 exact I.step hch (fun b o hL hb hc e n=>u.keep b o e n (fun z=>(Bd.mp (I.stkSub b z)).elim hL hb) hc) (fun b o _ _ hc e n=>u.any e n hc) (fun b o hc e n=>u.free b o e n hc) (fun b o hc e=>u.there b o e hc) u.tups u.frzs u.tbls (fun m' hm=>by
  obtain⟨o',es',ep',ho',r'⟩:=hm;rw[ho] at ho';cases ho';exact⟨_,es',ep',hL,r'⟩) hok hg
theorem Inv.turned(I:Inv X pins σ H s)(k:∀b o,b≠it->s.heap.get? b=some o->h'.get? b=some o)(hn:H it=none)(hL:it≠X.env.locals)(h1:it∈X.ex\/X.s₀.heap.objs.size<=it)(h2:∀x c,X.env.cells.lookup x=some c->c≠it)(h3:∀p∈X.pn++pins,p.1≠it):Inv X pins σ H { s with heap:=h',toks:=t' }:=by
 have nit:∀b u,H b=some u->b≠it:=fun b u e z=>by rw[z,hn] at e;cases e
 refine I.step (g':=s.gens) (d':=s.drawn) (ch:=[it]) (fun b hb=>?_) (fun b o _ _ hc e _=>k b o (fun z=>hc (by simp[z])) e) (fun b o _ _ hc e _=>⟨o.slots,k b o (fun z=>hc (by simp[z])) e⟩) (fun _ _ _ _ n=>n)
  (fun b o hc e=>⟨o,k b o (fun z=>hc (by simp[z])) e⟩) (fun _ _ e=>e) (fun _ _ _ e=>e) (fun b ps e=>⟨#[],by rw[e];simp⟩) (fun m hm=>?_) (fun b u e=>?_) I.bare
 ·have e:b=it:=by simpa using hb
  subst e;exact⟨h1,hL,h2,h3⟩
 ·obtain⟨o,es,ep,ho,r⟩:=hm;exact⟨o,es,ep,k _ o (Cv hL) ho,r⟩
 ·refine(I.hok b u e).stay (fun c v hc q=>k c v ?_ q) (fun _ q=>q) fun _ _ q=>q;rcases hc with z|z
  ·rw[z];exact nit b u e
  ·exact nit c _ z
theorem Inv.tok(I:Inv X pins σ H s)(t:Nat):Inv X pins σ H { s with toks:=t }:=I.un (h':=s.heap) (t':=t) Un.refl I.hok
theorem Inv.kept(I:Inv X pins σ H s)(k:∀b u,s.heap.get? b=some u->h'.get? b=some u):Inv X pins σ H { s with heap:=h',toks:=t' }:=I.un (Un.kept k) (I.hok.kept k)
theorem Inv.laid{a:Addr}(I:Inv X pins σ H s)(k:∀b u,s.heap.get? b=some u->h'.get? b=some u)(hp:s.heap.objs.size<=a)(new:ObjOk X.prog X.w (upd H a o) h' a o):
  Inv X pins σ (upd H a o) { s with heap:=h',toks:=t' }:=I.un (Un.laid k hp (I.hok.fresh hp)) (I.hok.laid k hp new)
theorem Inv.write(I:Inv X pins σ H s)(mu:Mut (H x))(he:e=x\/H e=some (.own x))(k:∀b u,b≠e->s.heap.get? b=some u->h'.get? b=some u)(heo:∃u,h'.get? e=some u)(new:ObjOk X.prog X.w (upd H x o) h' x o):Inv X pins σ (upd H x o) { s with heap:=h',toks:=t' }:=I.un (Un.write mu he k heo) (I.hok.write mu he k heo new)
theorem Inv.weak(I:Inv X pins σ H s)(hl:σ'.length=σ.length)(w:∀(i:Nat) v,σ'[i]?=some (some v)->σ[i]?=some (some v)):Inv X pins σ' H s :=
 ⟨I.ok,I.os,I.bare,I.base,let ⟨m,hn,hl'⟩:=I.loc;⟨m,hn,fun i x v e1 e2 e3=>hl' i x v e1 (w i v e2) e3⟩,I.cell,I.free,I.freeC,I.pin,I.hok,hl.trans I.len⟩
theorem Inv.pins_of(I:Inv X pins σ H s)(h:∀p∈pins',s.heap.get? p.1=some p.2/\H p.1=none/\p.1≠X.env.locals/\p.1∉X.fs/\∀v,p.2.data≠.cell v):Inv X pins' σ H s :=
 ⟨I.ok,I.os,I.bare,I.base,I.loc,I.cell,I.free,I.freeC,fun p hp=>(Aw.mp hp).elim (fun z=>I.pin p (Dc _ z)) (h p),I.hok,I.len⟩
theorem q9b{N:List Str}(hN:N.Nodup){j:Nat}(a:N[i]?=some x)(b:N[j]?=some x):i=j:=by
 obtain⟨h1,e1⟩:=Bb.mp a;obtain⟨h2,e2⟩:=Bb.mp b;exact(List.getElem_inj hN).mp (e1.trans e2.symm)
theorem q6u(I:Inv X pins σ H s)(hN:X.N.Nodup)(hi:X.N[i]?=some x)(hx:Loc X.env.scope x)(r:RelV v u)(h:∀s',Inv X pins (σ.set i (some v)) H s'->(∃a,Ep a s.heap s'.heap/\(a=X.env.locals\/X.env.cells.lookup x=some a))->Q () s')(hf:X.fn x=true\/X.env.scope.names.lookup x=some .local:=by first|exact .inl rfl|exact .inr rfl|assumption):wpAny M A (storeName X.env x u) Q E s:=by
 obtain⟨m,hn,hl⟩:=id I.loc;have hcls:(X.env.scope.kind==.class||(X.env.scope.kind==.module&&X.env.locals != X.env.globals))=false:=by rw[I.ok.kind];rfl
 have hiσ:i<σ.length:=by rw[I.len];exact(Bb.mp hi).1
 have cne:=I.cne;have tracked:∀{a:Addr} {h':Heap},(∃o,s.heap.get? a=some o/\H a=none)->Ep a s.heap h'->HOk X.prog X.w H h':=fun{a h'} ha hs b ob e=>by
  obtain⟨_,_,hfree⟩:=ha;refine(I.hok b ob e).stay (fun c w' hc q=>(hs.2 c ?_).trans q) (fun _ q=>q) fun _ _ q=>q
  rcases hc with rfl|hc
  ·grind
  ·grind
 rcases hx with hk|hk
 ·refine wpAny_storeName_local hk hn (fun h' hn' hs=>?_) hcls;obtain⟨oL,_,_,hoL,_⟩:=id hn;refine h _ ⟨I.ok,I.os,I.bare,⟨fun b o e n hb hx=>?_,fun b o e n hb hx=>?_,I.base.free,fun b o e hx=>?_,I.base.tups,I.base.frzs,I.base.tbls⟩,⟨_,hn',fun j y v' e1 e2 e3=>?_⟩,fun y c e=>?_,I.free,I.freeC,fun p hp=>?_,tracked ⟨oL,hoL,I.free⟩ hs,by simpa using I.len⟩ ⟨_,hs,.inl rfl⟩
  ·exact(hs.2 b (Bc (Bj (Am e) I.ok.above))).trans (I.base.keep b o e n hb hx)
  ·obtain⟨sl,e1⟩:=I.base.slot b o e n hb hx;exact⟨sl,(hs.2 b (Bc (Bj (Am e) I.ok.above))).trans e1⟩
  ·obtain⟨o',e1⟩:=I.base.there b o e hx;exact⟨o',(hs.2 b (Bc (Bj (Am e) I.ok.above))).trans e1⟩
  ·by_cases hj:j=i
   ·subst hj;rw[hi] at e1;cases e1;rw[Pg hiσ] at e2;cases e2;exact⟨u,r,.inl ⟨hk,by simp⟩⟩
   ·rw[Ly (Cv hj)] at e2;obtain⟨u',r',q⟩:=hl j y v' e1 e2 e3;refine⟨u',r',?_⟩;rcases q with⟨k,e⟩|⟨k,c,e,z⟩
    ·refine .inl ⟨k,?_⟩;have:y≠x:=fun e=>hj (q9b hN e1 (e▸hi));simp[this,e]
    ·exact .inr ⟨k,c,e,z.sameBut hs (cne y c e)⟩
  ·obtain⟨w',z⟩:=I.cell y c e;exact⟨w',z.sameBut hs (cne y c e)⟩
  ·obtain⟨e,n,ne,nf,d⟩:=I.pin p hp;exact⟨(hs.2 p.1 ne).trans e,n,ne,nf,d⟩
 ·have hfn:X.fn x=true:=by
   rcases hf with z|z
   ·exact z
   ·grind
  obtain⟨c,hc⟩:=I.ok.has x (.inl hk);obtain⟨w',z⟩:=I.cell x c hc;refine wpAny_storeName_cell I.ok.kind hk hc z (fun h' hc' hs=>?_);obtain⟨oc,hoc,hocd⟩:=id z;refine h { s with heap:=h' } ⟨I.ok,I.os,I.bare,⟨fun b o e n hb hx=>?_,fun b o e n hb hx=>?_,I.base.free,fun b o e hx=>?_,I.base.tups,I.base.frzs,I.base.tbls⟩,⟨m,hn.sameBut hs (Cv (cne x c hc)),fun j y v' e1 e2 e3=>?_⟩,fun y c' e=>?_,I.free,I.freeC,fun p hp=>?_,tracked ⟨oc,hoc,I.freeC x c hc⟩ hs,by simpa using I.len⟩ ⟨c,hs,.inr hc⟩
  ·exact(hs.2 b (Bc (Bj (Am e) (I.ok.cab x c hfn hc)))).trans (I.base.keep b o e n hb hx)
  ·obtain⟨sl,e1⟩:=I.base.slot b o e n hb hx;exact⟨sl,(hs.2 b (Bc (Bj (Am e) (I.ok.cab x c hfn hc)))).trans e1⟩
  ·obtain⟨o',e1⟩:=I.base.there b o e hx;exact⟨o',(hs.2 b (Bc (Bj (Am e) (I.ok.cab x c hfn hc)))).trans e1⟩
  ·by_cases hj:j=i
   ·subst hj;rw[hi] at e1;cases e1;rw[Pg hiσ] at e2;cases e2;exact⟨u,r,.inr ⟨.inl hk,c,hc,hc'⟩⟩
   ·rw[Ly (Cv hj)] at e2;obtain⟨u',r',q⟩:=hl j y v' e1 e2 e3;refine⟨u',r',?_⟩;rcases q with q|⟨k,c',e,z'⟩
    ·exact .inl q
    ·refine .inr ⟨k,c',e,z'.sameBut hs ?_⟩;rintro rfl;exact hj (q9b hN e1 (I.ok.inj _ _ _ e hc▸hi))
  ·by_cases hcc:c'=c
   ·grind
   ·obtain⟨w2,z2⟩:=I.cell y c' e;exact⟨w2,z2.sameBut hs hcc⟩
  ·obtain⟨e,n,ne,nf,d⟩:=I.pin p hp;refine⟨(hs.2 p.1 ?_).trans e,n,ne,nf,d⟩;intro q;rw[q,hoc] at e;have q':=Dy e;exact d w' (by rw[<- q'];exact hocd)
theorem q9c(I:Inv X pins σ H s)(hN:X.N.Nodup)(hi:X.N[i]?=some x)(hx:Loc X.env.scope x)(r:RelV v u)(h:∀s',Inv X pins (σ.set i (some v)) H s'->Q () s')(hf:X.fn x=true\/X.env.scope.names.lookup x=some .local:=by first|exact .inl rfl|exact .inr rfl|assumption):wpAny M A (storeName X.env x u) Q E s :=
 q6u I hN hi hx r (fun s' I' _=>h s' I') hf
theorem Inv.call'(I:Inv X pins σ H s)(ho:s'.os=s.os)(u:Un (frs X.stack) ch H H' s.heap s'.heap)(hok:HOk X.prog X.w H' s'.heap)(hg:Kj s'.gens)(hch:∀b∈ch,(b∈X.ex\/X.s₀.heap.objs.size<=b)/\b≠X.env.locals/\(∀x c,X.env.cells.lookup x=some c->c≠b)/\∀p∈X.pn++pins,p.1≠b):Inv X pins σ H' s':=by
 obtain⟨h',g',d',t',o'⟩:=s';have e:=ho;subst e;exact I.call (g':=g') (t':=t') (d':=d') u hok hg hch
end
abbrev XK:=Value->Option Addr->Hp->Prop
abbrev St:=List (Option V)
abbrev VK:=V->Hp->Prop
abbrev TE:=St->Hp->VK->Prop
abbrev TT:=St->Hp->(Bool->Hp->Prop)->Prop
abbrev TA:=St->Hp->(List V->Hp->Prop)->Prop
structure Ends where
 nx:St->Hp->Prop
 rt:VK
 bk:St->Hp->Prop:=fun _ _=>False
 ct:St->Hp->Prop:=fun _ _=>False
abbrev TS:=Ends->St->Hp->Prop
def EP(X:Cx)(pins:List (Addr×Obj))(σ:St)(Q:VK)(u:Value)(s':Af):Prop:=∃v H',Inv X pins σ H' s'/\RelV v u/\Q v H'
def TP(X:Cx)(pins:List (Addr×Obj))(σ:St)(Q:Bool->Hp->Prop)(b:Bool)(s':Af):Prop:=∃H',Inv X pins σ H' s'/\Q b H'
def AP(X:Cx)(pins:List (Addr×Obj))(σ:St)(Q:List V->Hp->Prop)(us:List Value)(s':Af):Prop:=∃vs H',Inv X pins σ H' s'/\Vals vs us/\Q vs H'
def SP(X:Cx)(pins:List (Addr×Obj))(D:Ends)(f:Flow)(s':Af):Prop :=
 match f with
 |.next=>∃σ' H',Inv X pins σ' H' s'/\D.nx σ' H'
 |.brk=>∃σ' H',Inv X pins σ' H' s'/\D.bk σ' H'
 |.cont=>∃σ' H',Inv X pins σ' H' s'/\D.ct σ' H'
 |.ret u=>∃v σ' H',Inv X pins σ' H' s'/\RelV v u/\D.rt v H'
def PE(X:Cx)(e:Expr)(t:TE):Prop :=
 ∀(pins:List (Addr×Obj)) (s:Af) (σ:St) (H:Hp) (Q:VK),Inv X pins σ H s->t σ H Q->wpAny (model X.prog X.w) X.A (eval e X.env) (EP X pins σ Q) X.xe s
def PT(X:Cx)(e:Expr)(t:TT):Prop :=
 ∀(pins:List (Addr×Obj)) (s:Af) (σ:St) (H:Hp) (Q:Bool->Hp->Prop),Inv X pins σ H s->t σ H Q->wpAny (model X.prog X.w) X.A (isTrue e X.env (eval e X.env)) (TP X pins σ Q) X.xe s
def PW(X:Cx)(e:Expr)(t:TT):Prop :=
 ∀(whole:Sem Value) (pins:List (Addr×Obj)) (s:Af) (σ:St) (H:Hp) (Q:Bool->Hp->Prop),Inv X pins σ H s->t σ H Q->wpAny (model X.prog X.w) X.A (isTrue e X.env whole) (TP X pins σ Q) X.xe s
theorem PW.pt{X:Cx}{e:Expr}{t:TT}(h:PW X e t):PT X e t:=h _
def PA(X:Cx)(es:List Expr)(t:TA):Prop :=
 ∀(pos:Pos) (pins:List (Addr×Obj)) (s:Af) (σ:St) (H:Hp) (Q:List V->Hp->Prop),Inv X pins σ H s->t σ H Q->wpAny (model X.prog X.w) X.A (spliced (Eh pos (Be es X.env))) (AP X pins σ Q) X.xe s
def PS(X:Cx)(st:Stmt)(t:TS):Prop :=
 ∀(pins:List (Addr×Obj)) (s:Af) (σ:St) (H:Hp) (D:Ends),Inv X pins σ H s->t D σ H->wpAny (model X.prog X.w) X.A (exec st X.env) (SP X pins D) X.xe s
def PSs(X:Cx)(st:List Stmt)(t:TS):Prop :=
 ∀(pins:List (Addr×Obj)) (s:Af) (σ:St) (H:Hp) (D:Ends),Inv X pins σ H s->t D σ H->wpAny (model X.prog X.w) X.A (execs st X.env) (SP X pins D) X.xe s
theorem thn{t:Sem α}{Q Q':α->Af->Prop}(h:wpAny M A t Q E s)(hQ:∀a s,Q a s->Q' a s):wpAny M A t Q' E s:=Bu h hQ fun _ _ x=>x
open PySem PySem.Spec PyProof.Rows
section
variable{X:Cx}
def tVar(i:Nat):TE:=fun σ H Q=>∃v,σ[i]?=some (some v)/\Q v H
def tC(v:V):TE:=fun _ H Q=>Q v H
theorem pe_var{pos:Pos}(hN:X.N[i]?=some x)(hv:Vis X.env.scope x)(hd:(x==("__debug__" : Str))=false:=by decide)(hcd:(x==("__classdict__" : Str))=false:=by decide):PE X (.Name x pos) (tVar i):=by
 intro pins s σ H Q I h;obtain⟨v,e,h⟩:=h;obtain⟨m,hn,hl⟩:=I.loc;obtain⟨u,r,l⟩:=hl i x v hN e hv;have fin:EP X pins σ Q u s:=⟨v,H,I,r,h⟩
 rcases l with⟨hk,hm⟩|⟨hk,c,hc,hcell⟩
 ·exact Tv (wpAny_loadName_local I.ok.kind hk hn hm fin) hd
 ·rcases hk with hk|hk
  ·exact Tv (wpAny_loadName_cell I.ok.kind hk hc hcell fin) hd
  ·exact Tv (wpAny_loadName_free I.ok.kind hk hc hcell fin hcd) hd
theorem q0g{i j pos}:PE X (.Constant (.int i) j pos) (tC (.int i)):=fun _ _ _ H _ I h=>wpAny_Constant_int ⟨.int i,H,I.tok _,⟨_,rfl⟩,h⟩
theorem q3d{b j pos}:PE X (.Constant (.bool b) j pos) (tC (.bl b)):=fun _ _ _ H _ I h=>Constant_bool ⟨.bl b,H,I,rfl,h⟩
theorem q3e{j pos}:PE X (.Constant .none j pos) (tC .non):=fun _ _ _ H _ I h=>Qw ⟨.non,H,I,rfl,h⟩
theorem q0t{x j pos}:PE X (.Constant (.str x) j pos) (tC (.str x)):=fun _ _ _ H _ I h=>Calls.Constant_str ⟨.str x,H,I.tok _,⟨_,rfl⟩,h⟩
def Gl(X:Cx)(x:Str):Prop:=X.env.kindOf x=some .globalImplicit
theorem q5o{σ:St}(I:Inv X pins σ H s)(hg:Gl X x)(hm:X.mg x=some u)(h:Q u s)(hd:(x==("__debug__" : Str))=false:=by decide):wpAny (model X.prog X.w) X.A (eval (.Name x pos) X.env) Q E s :=
 Nl I.ok.kind hg (Calls.loadGlobal_global (by rw[I.ok.glob];exact I.mod.glob.keeps I.bk) hm h) hd
theorem q8j{E:Value->Af->Prop}{σ:St}{pos:Pos}(I:Inv X pins σ H s)(hg:Gl X x)(hm:X.mg x=none)(hv:Hg x=some u)(h:Q u s)(hn:x ≠ "__name__" := by decide)(hd:(x==("__debug__" : Str))=false:=by decide):wpAny (model X.prog X.w) X.A (eval (.Name x pos) X.env) Q E s:=by
 obtain⟨mb,h1,h2⟩:=I.mod.blt;exact Nl I.ok.kind hg (Calls.loadGlobal_builtin (by rw[I.ok.glob];exact I.mod.glob.keeps I.bk) hm (by rw[I.ok.blt];exact h1.keeps I.bk) ((h2 x hn).trans hv) h) hd
theorem q0w{x:Str}{v:V}{u:Value}{pos:Pos}(hg:Gl X x)(hm:X.mg x=some u)(r:RelV v u)(hd:(x==("__debug__" : Str))=false:=by decide):PE X (.Name x pos) (tC v) :=
 fun _ _ _ H _ I h=>q5o I hg hm ⟨v,H,I,r,h⟩ hd
theorem q4m{x:Str}{v:V}{u:Value}{pos:Pos}(hg:Gl X x)(hm:X.mg x=none)(hv:Hg x=some u)(r:RelV v u)(hn:x ≠ "__name__" := by decide)(hd:(x==("__debug__" : Str))=false:=by decide):PE X (.Name x pos) (tC v) :=
 fun _ _ _ H _ I h=>q8j I hg hm hv ⟨v,H,I,r,h⟩ hn hd
variable{a b:Expr}{ta tb:TE}{pos:Pos}
def PC(X:Cx)(op:CmpOp)(a b:Expr)(t:TE):Prop :=
 ∀(pins:List (Addr×Obj)) (s:Af) (σ:St) (H:Hp) (Q:VK),Inv X pins σ H s->t σ H Q ->
  wpAny (model X.prog X.w) X.A (eval a X.env) (fun v s₁=>wpAny (model X.prog X.w) X.A (eval b X.env) (fun u s₂=>wpAny (model X.prog X.w) X.A (Ca op v u) (EP X pins σ Q) X.xe s₂) X.xe s₁) X.xe s
theorem nobehind(b:Expr)(h:op≠.In)(h2:op≠.NotIn):Gp op b=false:=by
 have e1:(op==CmpOp.In)=false:=by grind
 have e2:(op==CmpOp.NotIn)=false:=by grind
 cases b<;>simp[Gp,e1,e2]
def tIsN(ta:TE):TE:=fun σ H Q=>ta σ H fun x H1=>Q (.bl (decide (x=.non))) H1
def tNotN(ta:TE):TE:=fun σ H Q=>ta σ H fun x H1=>Q (.bl (!decide (x=.non))) H1
theorem RelV.none_iff(r:RelV x v):(v==Value.none)=decide (x=.non):=by
 cases x with
 |non=>cases r;rfl
 |bl _=>cases r;rfl
 |int _=>obtain⟨t,rfl⟩:=r;rfl
 |str _=>obtain⟨t,rfl⟩:=r;rfl
 |byt _=>obtain⟨t,rfl⟩:=r;rfl
 |flt _=>obtain⟨t,rfl⟩:=r;rfl
 |ref _=>cases r;rfl
 |ty _=>cases r;rfl
theorem q4k{j pos'}(ha:PE X a ta):PC X .Is a (.Constant .none j pos') (tIsN ta):=by
 intro pins s σ H Q I h;refine thn (ha pins s σ H _ I h) fun v s1 ⟨x,H1,I1,r1,q1⟩=>?_;exact Qw (is_none_gen ⟨.bl _,H1,I1,by rw[r1.none_iff];rfl,q1⟩)
theorem q9d{j pos'}(ha:PE X a ta):PC X .IsNot a (.Constant .none j pos') (tNotN ta):=by
 intro pins s σ H Q I h;refine thn (ha pins s σ H _ I h) fun v s1 ⟨x,H1,I1,r1,q1⟩=>?_;exact Qw (isnot_none_gen ⟨.bl _,H1,I1,by rw[r1.none_iff];rfl,q1⟩)
def tB(t:TE):TT:=fun σ H Q=>t σ H fun x H1=>∃c,x=.bl c/\Q c H1
theorem x2e{op:CmpOp}{t:TE}(h:PC X op a b t)(h1:Gp op b=false:=by first|exact nobehind _ (by decide) (by decide)|rfl):PE X (.Compare a [op] [b] pos) t:=fun pins s σ H Q I hw=>wpAny_Compare1 (h pins s σ H Q I hw) h1
theorem q2b{op:CmpOp}{t:TE}(h:PC X op a b t)(h1:Gp op b=false:=by first|exact nobehind _ (by decide) (by decide)|rfl):PT X (.Compare a [op] [b] pos) (tB t):=by
 intro pins s σ H Q I hw;refine Py (thn (h pins s σ H _ I hw) fun v s1 h1=>thn h1 fun u s2 h2=>thn h2 fun c s3 ⟨x,H1,I1,r1,q1⟩=>?_) h1;obtain⟨d,rfl,q⟩:=q1;cases r1;exact Ei ⟨H1,I1,q⟩
variable{tA tB':TT}{rest:List Expr}
def tAnd(t u:TT):TT:=fun σ H Q=>t σ H fun c H1=>if c=true then u σ H1 Q else Q false H1
def tOr(t u:TT):TT:=fun σ H Q=>t σ H fun c H1=>if c=true then Q true H1 else u σ H1 Q
def tNot(t:TT):TT:=fun σ H Q=>t σ H fun c H1=>Q (!c) H1
theorem q2u(ha:PT X a tA):PW X (.BoolOp .And [a] pos) tA:=by
 intro wh pins s σ H Q I h;refine isTrue_and (thn (ha pins s σ H Q I h) fun c s1 e=>?_);cases c with
 |true=>exact isTrue_and_nil e
 |false=>exact e
theorem q3f(ha:PT X a tA):PW X (.BoolOp .Or [a] pos) tA:=by
 intro wh pins s σ H Q I h;refine isTrue_or (thn (ha pins s σ H Q I h) fun c s1 e=>?_);cases c with
 |false=>exact isTrue_or_nil e
 |true=>exact e
theorem q5a(ha:PT X a tA)(hb:PW X (.BoolOp .And (b::rest) pos) tB'):PW X (.BoolOp .And (a::b::rest) pos) (tAnd tA tB'):=by
 intro wh pins s σ H Q I h;refine isTrue_and (thn (ha pins s σ H _ I h) fun c s1 ⟨H1,I1,q1⟩=>?_);cases c with
 |true=>exact hb wh pins s1 σ H1 Q I1 q1
 |false=>exact⟨H1,I1,q1⟩
theorem q5b(ha:PT X a tA)(hb:PW X (.BoolOp .Or (b::rest) pos) tB'):PW X (.BoolOp .Or (a::b::rest) pos) (tOr tA tB'):=by
 intro wh pins s σ H Q I h;refine isTrue_or (thn (ha pins s σ H _ I h) fun c s1 ⟨H1,I1,q1⟩=>?_);cases c with
 |true=>exact⟨H1,I1,q1⟩
 |false=>exact hb wh pins s1 σ H1 Q I1 q1
theorem q3a(ha:PT X a tA):PT X (.UnaryOp .Not a pos) (tNot tA):=by
 intro pins s σ H Q I h;exact isTrue_not (ha pins s σ H (fun c H1=>Q (!c) H1) I h)
def tAndV(ta tb:TE):TE:=fun σ H Q=>ta σ H fun x H1=>∃c,x=.bl c/\if c=true then tb σ H1 Q else Q (.bl false) H1
def tOrV(ta tb:TE):TE:=fun σ H Q=>ta σ H fun x H1=>∃c,x=.bl c/\if c=true then Q (.bl true) H1 else tb σ H1 Q
theorem q6c{op}{t:TE}(h:PE X a t):PE X (.BoolOp op [a] pos) t:=fun pins s σ H Q I hw=>BoolOp_one (h pins s σ H Q I hw)
theorem q8k(ha:PE X a ta)(hb:PE X (.BoolOp .And (b::rest) pos) tb):PE X (.BoolOp .And (a::b::rest) pos) (tAndV ta tb):=by
 intro pins s σ H Q I h;refine BoolOp_and (thn (ha pins s σ H _ I h) fun v s1 ⟨x,H1,I1,r1,q1⟩=>?_);obtain⟨c,rfl,q1⟩:=q1;cases r1;refine Ei ?_;cases c with
 |true=>exact hb pins s1 σ H1 Q I1 q1
 |false=>exact⟨.bl false,H1,I1,rfl,q1⟩
theorem pe_or(ha:PE X a ta)(hb:PE X (.BoolOp .Or (b::rest) pos) tb):PE X (.BoolOp .Or (a::b::rest) pos) (tOrV ta tb):=by
 intro pins s σ H Q I h;refine BoolOp_or (thn (ha pins s σ H _ I h) fun v s1 ⟨x,H1,I1,r1,q1⟩=>?_);obtain⟨c,rfl,q1⟩:=q1;cases r1;refine Ei ?_;cases c with
 |false=>exact hb pins s1 σ H1 Q I1 q1
 |true=>exact⟨.bl true,H1,I1,rfl,q1⟩
end
open PySem PySem.Spec PyProof.Rows
def SqL(K:Ah)(H:Hp)(a:Addr)(xs:List V):Prop :=
 Rd H a (.lst xs) \/
  ∃(o:Obj) (its:Array Value) (n:Nat),K.lookup a=some o/\o.cls=.type "list" /\ o.dict=none/\o.data=.seq its n/\its.size<=sizeLine/\Vals xs its.toList
def SqT(K:Ah)(H:Hp)(a:Addr)(xs:List V):Prop :=
 Rd H a (.tup xs) \/
  ∃(o:Obj) (its:Array Value) (n:Nat),K.lookup a=some o/\o.cls=.type "tuple" /\ o.data=.seq its n/\its.size<=sizeLine/\Vals xs its.toList
def absV:Value->Option V
 |.none=>some .non
 |.bool b=>some (.bl b)
 |.int i _=>some (.int i)
 |.str x _=>some (.str x)
 |.bytes b _=>some (.byt b)
 |.float b _=>some (.flt b)
 |.ref a=>some (.ref a)
 |.type n=>some (.ty n)
 |_=>none
theorem RelV.abs(r:RelV x u):absV u=some x:=by
 cases x with
 |non=>cases r;rfl
 |bl _=>cases r;rfl
 |int _=>obtain⟨t,rfl⟩:=r;rfl
 |str _=>obtain⟨t,rfl⟩:=r;rfl
 |byt _=>obtain⟨t,rfl⟩:=r;rfl
 |flt _=>obtain⟨t,rfl⟩:=r;rfl
 |ref _=>cases r;rfl
 |ty _=>cases r;rfl
theorem RelV.inj(r:RelV x u)(q:RelV y u):x=y:=Dy (r.abs.symm.trans q.abs)
theorem Vals.inj:∀{xs ys:List V} {us:List Value},Vals xs us->Vals ys us->xs=ys
 |_,_,_,.nil,.nil=>rfl
 |_,_,_,.cons r t,.cons r' t'=>by rw[r.inj r',Vals.inj t t']
section
variable{X:Cx}{pins:List (Addr×Obj)}{σ:St}{H:Hp}{s:Af}{a:Addr}{xs ys:List V}
theorem SqL.of{K:Ah}(h:H a=some (.lst xs)):SqL K H a xs:=.inl (.inl h)
theorem SqT.of{K:Ah}(h:H a=some (.tup xs)):SqT K H a xs:=.inl (.inl h)
theorem Inv.list(I:Inv X pins σ H s)(h:SqL X.K H a xs):∃its:List Value,Vals xs its/\PlainL s.heap a its.toArray/\xs.length<=sizeLine:=by
 rcases h with h|⟨o,its,n,hk,hc,hd,hs,hz,r⟩
 ·obtain⟨z,its,n,r,e⟩:=h.ok I.hok;exact⟨its,r,⟨_,n,e,rfl,rfl,rfl⟩,z⟩
 ·refine⟨its.toList,r,⟨o,n,I.kIn a o hk,hc,hd,by simpa using hs⟩,?_⟩;have e:=r.length;simp only[El] at e;lia
theorem Inv.tuple(I:Inv X pins σ H s)(h:SqT X.K H a xs):∃its:List Value,Vals xs its/\IsTup s.heap a its.toArray/\xs.length<=sizeLine:=by
 rcases h with h|⟨o,its,n,hk,hc,hs,hz,r⟩
 ·obtain⟨z,its,r,p⟩:=h.ok I.hok;exact⟨its,r,p,z⟩
 ·refine⟨its.toList,r,⟨o,I.kIn a o hk,hc,n,by simpa using hs⟩,?_⟩;have e:=r.length;simp only[El] at e;lia
theorem Inv.list_inj(I:Inv X pins σ H s)(h:SqL X.K H a xs)(h':SqL X.K H a ys):xs=ys:=by
 obtain⟨its,r,⟨o,n,e,_,_,d⟩,_⟩:=I.list h;obtain⟨its',r',⟨o',n',e',_,_,d'⟩,_⟩:=I.list h';have:its=its':=by grind
 subst this;exact r.inj r'
theorem Inv.tuple_inj(I:Inv X pins σ H s)(h:SqT X.K H a xs)(h':SqT X.K H a ys):xs=ys:=by
 obtain⟨its,r,⟨o,e,_,n,d⟩,_⟩:=I.tuple h;obtain⟨its',r',⟨o',e',_,n',d'⟩,_⟩:=I.tuple h';have:its=its':=by grind
 subst this;exact r.inj r'
end
abbrev Cx.wish(X:Cx)(E:Value->Af->Prop):Cx:={ X with xe:=E }
abbrev Cx.nox(X:Cx):Cx:=X.wish fun _ _=>False
theorem Cx.Ok.wish{X:Cx}(ok:X.Ok)(E:Value->Af->Prop):(X.wish E).Ok :=
 ⟨ok.mod,ok.kind,ok.glob,ok.blt,ok.above,ok.inj,ok.has,ok.cab,ok.hd,ok.frames,ok.stk,ok.exf,ok.bs,ok.bsz,ok.noex,ok.exfs,ok.funs,ok.frf⟩
theorem Cx.Ok.unwish{X:Cx}(ok:(X.wish E).Ok):X.Ok :=
 ⟨ok.mod,ok.kind,ok.glob,ok.blt,ok.above,ok.inj,ok.has,ok.cab,ok.hd,ok.frames,ok.stk,ok.exf,ok.bs,ok.bsz,ok.noex,ok.exfs,ok.funs,ok.frf⟩
section
variable{X:Cx}{pins:List (Addr×Obj)}{σ:St}{H:Hp}{s:Af}{E:Value->Af->Prop}
theorem Inv.wish(I:Inv X pins σ H s)(E:Value->Af->Prop):Inv (X.wish E) pins σ H s:=⟨I.ok.wish E,I.os,I.bare,I.base,I.loc,I.cell,I.free,I.freeC,I.pin,I.hok,I.len⟩
theorem Inv.unwish(I:Inv (X.wish E) pins σ H s):Inv X pins σ H s:=⟨I.ok.unwish,I.os,I.bare,I.base,I.loc,I.cell,I.free,I.freeC,I.pin,I.hok,I.len⟩
theorem SP.unwish(h:SP (X.wish E) pins D f s'):SP X pins D f s':=by
 cases f with
 |next=>obtain⟨σ',H',I,q⟩:=h;exact⟨σ',H',I.unwish,q⟩
 |brk=>obtain⟨σ',H',I,q⟩:=h;exact⟨σ',H',I.unwish,q⟩
 |cont=>obtain⟨σ',H',I,q⟩:=h;exact⟨σ',H',I.unwish,q⟩
 |ret u=>obtain⟨v,σ',H',I,r,q⟩:=h;exact⟨v,σ',H',I.unwish,r,q⟩
theorem PE.nox(h:PE X.nox e t):PE X e t:=fun pins s σ H Q I hw =>
 Bu (h pins s σ H Q (I.wish _) hw) (fun _ _ ⟨v,H',I',r,q⟩=>⟨v,H',I'.unwish,r,q⟩) fun _ _ z=>False.elim z
theorem PT.nox(h:PT X.nox e t):PT X e t:=fun pins s σ H Q I hw =>
 Bu (h pins s σ H Q (I.wish _) hw) (fun _ _ ⟨H',I',q⟩=>⟨H',I'.unwish,q⟩) fun _ _ z=>False.elim z
theorem PSs.nox{st:List Stmt}(h:PSs X.nox st t):PSs X st t:=fun pins s σ H D I hw =>
 Bu (h pins s σ H D (I.wish _) hw) (fun _ _ q=>q.unwish) fun _ _ z=>False.elim z
end
section
variable{X:Cx}{st:Stmt}{rest:List Stmt}{t u:TS}{e:Expr}{te:TE}{pos:Pos}
def tNext:TS:=fun D σ H=>D.nx σ H
def tSeq(t u:TS):TS:=fun D σ H=>t { D with nx:=u D } σ H
theorem q0k:PSs X [] tNext:=fun _ _ σ H _ I h=>Hv ⟨σ,H,I,h⟩
theorem q0d(h1:PS X st t)(h2:PSs X rest u):PSs X (st::rest) (tSeq t u):=by
 intro pins s σ H D I h;refine Of (thn (h1 pins s σ H { D with nx:=u D } I h) fun f s1 q=>?_);cases f with
 |next =>
  obtain⟨σ',H',I',q⟩:=q;exact h2 pins s1 σ' H' D I' q
 |ret v=>exact q
 |brk=>exact q
 |cont=>exact q
theorem q0f(h1:PS X st t):PSs X [st] t:=by
 intro pins s σ H D I h;refine Of (thn (h1 pins s σ H D I h) fun f s1 q=>?_);cases f with
 |next=>exact Hv q
 |ret v=>exact q
 |brk=>exact q
 |cont=>exact q
theorem Inv.quiet{σ:St}(I:Inv X pins σ H s):interactive X.env=false:=by simp[interactive,I.ok.kind]
def tDrop(te:TE):TS:=fun D σ H=>te σ H fun _ H1=>D.nx σ H1
theorem q1c(he:PE X e te)(hs:Lp e none pos.line X.env=pure false:=by rfl):PS X (.Expr e pos) (tDrop te):=by
 intro pins s σ H D I h;exact wpAny_Expr_any (thn (he pins s σ H _ I h) fun v s1 ⟨x,H1,I1,r1,q1⟩=>⟨σ,H1,I1,q1⟩) I.quiet hs
def tRet(te:TE):TS:=fun D σ H=>te σ H D.rt
theorem q0j(he:PE X e te):PS X (.Return (some e) pos) (tRet te):=by
 intro pins s σ H D I h;exact wpAny_Return_some (thn (he pins s σ H _ I h) fun v s1 ⟨x,H1,I1,r1,q1⟩=>⟨x,σ,H1,I1,r1,q1⟩)
def tIfS(c:TT)(t u:TS):TS:=fun D σ H=>c σ H fun b H1=>if b=true then t D σ H1 else u D σ H1
theorem q0v{c:Expr}{a b:List Stmt}{tc:TT}(hc:PT X c tc)(ha:PSs X a t)(hb:PSs X b u):PS X (.If c a b pos) (tIfS tc t u):=by
 intro pins s σ H D I h;refine wpAny_If (thn (hc pins s σ H _ I h) fun d s1 ⟨H1,I1,q1⟩=>?_);cases d with
 |true=>exact ha pins s1 σ H1 D I1 q1
 |false=>exact hb pins s1 σ H1 D I1 q1
def tNever:TS:=fun _ _ _=>False
theorem q2a:PS X st tNever:=fun _ _ _ _ _ _ h=>h.elim
end
abbrev TG:=V->St->Hp->(St->Hp->Prop)->Prop
abbrev TGs:=List V->St->Hp->(St->Hp->Prop)->Prop
def PG(X:Cx)(target:Expr)(t:TG):Prop :=
 ∀(pins:List (Addr×Obj)) (s:Af) (σ:St) (H:Hp) (v:V) (u:Value) (Q:St->Hp->Prop),Inv X pins σ H s->RelV v u->t v σ H Q ->
  wpAny (model X.prog X.w) X.A (assign target X.env u) (fun _ s'=>∃σ' H',Inv X pins σ' H' s'/\Q σ' H') X.xe s
def PGs(X:Cx)(ts:List Expr)(t:TGs):Prop :=
 ∀(pins:List (Addr×Obj)) (s:Af) (σ:St) (H:Hp) (vs:List V) (us:List Value) (Q:St->Hp->Prop),Inv X pins σ H s->Vals vs us->t vs σ H Q ->
  wpAny (model X.prog X.w) X.A (assignInOrder ((Iz ts X.env).map (·.2)) us) (fun _ s'=>∃σ' H',Inv X pins σ' H' s'/\Q σ' H') X.xe s
abbrev TSet:=V->V->V->Hp->(Hp->Prop)->Prop
def PSet(X:Cx)(t:TSet):Prop :=
 ∀(pins:List (Addr×Obj)) (s:Af) (σ:St) (H:Hp) (o i v:V) (ov iv u:Value) (Q:Hp->Prop),Inv X pins σ H s->RelV o ov->RelV i iv->RelV v u->t o i v H Q ->
  wpAny (model X.prog X.w) X.A (setItem ov iv u) (fun _ s'=>∃H',Inv X pins σ H' s'/\Q H') X.xe s
section
variable{X:Cx}{pos:Pos}
def gName(i:Nat):TG:=fun v σ H Q=>Q (σ.set i (some v)) H
theorem q0i{i:Nat}{x:Str}(hN:X.N.Nodup)(hi:X.N[i]?=some x)(hx:Loc X.env.scope x)(hf:X.fn x=true\/X.env.scope.names.lookup x=some .local:=by first|exact .inl rfl|exact .inr rfl|assumption):PG X (.Name x pos) (gName i):=by
 intro pins s σ H v u Q I r h;exact Nt (q9c I hN hi hx r (fun s' I'=>⟨_,H,I',h⟩) hf)
def gNil:TGs:=fun vs σ H Q=>vs=[]/\Q σ H
def gCons(t:TG)(u:TGs):TGs:=fun vs σ H Q=>∃v r,vs=v::r/\t v σ H fun σ' H'=>u r σ' H' Q
theorem q1j:PGs X [] gNil:=by
 intro pins s σ H vs us Q I r h;obtain⟨e,h⟩:=h;exact assignInOrder_nil ⟨σ,H,I,h⟩
theorem q0l{e:Expr}{es:List Expr}{t:TG}{u:TGs}(h1:PG X e t)(h2:PGs X es u)(hs:(Iz (e::es) X.env).map (·.2)=assign e X.env::(Iz es X.env).map (·.2):=by rfl):PGs X (e::es) (gCons t u):=by
 intro pins s σ H vs us Q I r h;obtain⟨v,vr,e1,h⟩:=h;subst e1;cases r with
 |cons r rr =>
  rw[hs];refine assignInOrder_cons (thn (h1 pins s σ H _ _ _ I r h) fun _ s1 ⟨σ1,H1,I1,q1⟩=>?_);exact h2 pins s1 σ1 H1 _ _ Q I1 rr q1
def gTup(K:Ah)(n:Nat)(t:TGs):TG:=fun v σ H Q=>∃a xs,v=.ref a/\SqT K H a xs/\xs.length=n/\t xs σ H Q
theorem pg_tup{k:Nat}(hc:X.calm=true)(h:PGs X es t)(hn:(Iz es X.env).length=n:=by rfl)(hst:(Iz es X.env).findIdx? (·.1)=none:=by rfl):PG X (.Tuple es k pos) (gTup X.K n t):=by
 intro pins s σ H v u Q I r hw;obtain⟨a,xs,e1,hq,hl,hw⟩:=hw;subst e1;cases r;obtain⟨its,rv,ht,hz⟩:=I.tuple hq;refine assign_Tuple_tuple (I.ok.hd hc) ht (by simp[hn,<- hl,rv.length]) hst fun h' hx=>?_;have I1:Inv X pins σ H { s with heap:=h' }:=I.kept (t':=s.toks) fun b o e=>hx b o (Bc (Am e)) e;exact h pins _ σ H xs _ Q I1 (by simpa using rv) hw
def gSub(to ti:TE)(t:TSet):TG:=fun v σ H Q=>to σ H fun o H1=>ti σ H1 fun i H2=>t o i v H2 fun H3=>Q σ H3
theorem z6e{o i:Expr}{to ti:TE}{t:TSet}(ho:PE X o to)(hi:PE X i ti)(hs:PSet X t)(ha:∀v,assign (.Subscript o i pos) X.env v=(do
   let ov<-Lq [v] (eval o X.env);let iv<-Lq [v,ov] (eval i X.env)
   Oc pos
   Lq [v,ov,iv] (setItem ov iv v)
   release [v,ov,iv] []):=by intro _;rfl):PG X (.Subscript o i pos) (gSub to ti t):=by
 intro pins s σ H v u Q I r h;refine Ab (Cc (thn (ho pins s σ H _ I h) fun ov s1 ⟨x,H1,I1,r1,q1⟩=>?_));refine Ab (Cc (thn (hi pins s1 σ H1 _ I1 q1) fun iv s2 ⟨y,H2,I2,r2,q2⟩=>?_));refine Ab (Dm (Ab (Cc (thn (hs pins s2 σ H2 x y v ov iv u _ I2 r1 r2 r q2) fun _ s3 ⟨H3,I3,q3⟩=>?_))));exact wpAny_release ⟨σ,H3,I3,q3⟩
def tAsg(te:TE)(g:TG):TS:=fun D σ H=>te σ H fun x H1=>g x σ H1 D.nx
theorem q3g{tg e:Expr}{te:TE}{g:TG}(he:PE X e te)(hg:PG X tg g)(hs:swapsWithSole [tg] e pos.line X.env=pure false:=by rfl)(hw:swappedStores [tg] e X.env=pure none:=by rfl)(h1:(Iz [tg] X.env).map (·.2)=[assign tg X.env]:=by rfl):PS X (.Assign [tg] e pos) (tAsg te g):=by
 intro pins s σ H D I h;refine wpAny_Assign_stores (thn (he pins s σ H _ I h) fun v s1 ⟨x,H1,I1,r1,q1⟩=>?_) hs hw;rw[h1];exact thn (hg pins s1 σ H1 x v _ I1 r1 q1) fun _ s2 q=>q
theorem q0m{i:Nat}{x:Str}{e:Expr}{te:TE}{pos':Pos}(hN:X.N.Nodup)(hi:X.N[i]?=some x)(hx:Loc X.env.scope x)(he:PE X e te)(hs:Lp e (some (.Name x pos')) pos.line X.env=pure false:=by rfl)(hf:X.fn x=true\/X.env.scope.names.lookup x=some .local:=by first|exact .inl rfl|exact .inr rfl|assumption):
  PS X (.Assign [.Name x pos'] e pos) (tAsg te (gName i)):=by
 intro pins s σ H D I h;refine wpAny_Assign_Name (thn (he pins s σ H _ I h) fun v s1 ⟨y,H1,I1,r1,q1⟩=>?_) hs;exact q9c I1 hN hi hx r1 (fun s2 I2=>⟨_,H1,I2,q1⟩) hf
end
section
variable{X:Cx}{pos:Pos}
def tWhile(c:TT)(tb:TS):TS:=fun D σ H=>∃W:Nat->St->Hp->Prop,(∃m,W m σ H)/\∀m σ H,W m σ H ->
 c σ H fun b H1=>if b=true then ∃N:St->Hp->Prop,(∀σ' H',N σ' H'->∃m',m'<m/\W m' σ' H')/\tb { D with nx:=N,ct:=N,bk:=D.nx } σ H1 else D.nx σ H1
theorem z9y{c:Expr}{body:List Stmt}{tc:TT}{tb:TS}(hp:PassesOwn (model X.prog X.w) X.A X.env X.xe)(hc:PT X c tc)(hb:PSs X body tb):PS X (.While c body [] pos) (tWhile tc tb):=by
 intro pins s σ H D I h;obtain⟨W,⟨m0,w0⟩,turn⟩:=h;refine wpAny_While (codeAny_whileLoop (fun n s'=>∃σ' H',Inv X pins σ' H' s'/\W n σ' H') ?_ m0 ⟨σ,H,I,w0⟩);rintro n s1 ⟨σ1,H1,I1,w1⟩;refine Gg hp (thn (hc pins s1 σ1 H1 _ I1 (turn n σ1 H1 w1)) fun b s2 ⟨H2,I2,q2⟩=>?_);cases b with
 |true =>
  obtain⟨N,hN,q2⟩:=q2;refine Gg hp (thn (hb pins s2 σ1 H2 _ I2 q2) fun f s3 q3=>?_);cases f with
  |next =>
   obtain⟨σ3,H3,I3,n3⟩:=q3;obtain⟨m',hm,w3⟩:=hN σ3 H3 n3;exact⟨m',hm,σ3,H3,I3,w3⟩
  |cont =>
   obtain⟨σ3,H3,I3,n3⟩:=q3;obtain⟨m',hm,w3⟩:=hN σ3 H3 n3;exact⟨m',hm,σ3,H3,I3,w3⟩
  |brk=>exact q3
  |ret v=>exact q3
 |false =>
  exact Hv ⟨σ1,H2,I2,q2⟩
end
structure It where
 go:Nat->Hp->Prop
 yld:Nat->Hp->V->Hp->Prop
 stop:Nat->Hp->Prop
def FpOk(X:Cx)(pins:List (Addr×Obj))(H:Hp)(b:Addr):Prop :=
 H b=none/\b≠X.env.locals/\b∉X.fs/\(b∈X.ex\/X.s₀.heap.objs.size<=b)/\(∀x c,X.env.cells.lookup x=some c->c≠b)/\∀p∈X.pn++pins,p.1≠b
theorem Inv.fpOk{σ:St}{b:Addr}(I:Inv X pins σ H s)(hb:s.heap.objs.size<=b)(hn:H' b=none):FpOk X pins H' b:=by
 refine⟨hn,Fb (Bj I.lt hb),I.nofs hb,.inr (Cn I.sz hb),fun x c e z=>?_,fun p hp z=>?_⟩
 ·obtain⟨v,q⟩:=I.cell x c e;exact absurd (Bj q.lt (by rw[z];exact hb)) (Fn _)
 ·exact absurd (Bj (Am (I.pin p hp).1) (by rw[z];exact hb)) (Fn _)
structure Turn (P:Program) (w:World) (K:Ah) (tg:Expr) (J:It) (fp:List Addr) (it:Addr) (tn:Nat->Heap->Prop):Prop where
 mem:it∈fp
 obj:∀i h,tn i h->∀b∈fp,∃o,h.get? b=some o/\∀v,o.data≠.cell v
 keep:∀i h h',tn i h->(∀b∈fp,∀o,h.get? b=some o->h'.get? b=some o)->tn i h'
 item:∀(X:Cx),X.prog=P->X.w=w->X.K=K->X.calm=true->∀(i:Nat) (pins:List (Addr×Obj)) (s:Af) (σ:St) (H:Hp) (E:Value->Af->Prop),Inv X pins σ H s->(∀b∈fp,FpOk X pins H b)->tn i s.heap->J.go i H ->
  wpAny (model P w) X.A (Im (.ref it)) (fun r s1=>∃u,r=some u /\
   wpAny (model P w) X.A (Jr tg (.ref it) u) (fun _ s2=>∃x H',Inv X pins σ H' s2/\RelV x u/\J.yld i H x H'/\tn (i+1) s2.heap/\∀b∈fp,H' b=none) E s1) E s
 done:∀(X:Cx),X.prog=P->X.w=w->X.K=K->X.calm=true->∀(i:Nat) (pins:List (Addr×Obj)) (s:Af) (σ:St) (H:Hp) (E:Value->Af->Prop),Inv X pins σ H s->(∀b∈fp,FpOk X pins H b)->tn i s.heap->J.stop i H ->
  wpAny (model P w) X.A (Im (.ref it)) (fun r s1=>r=none/\Inv X pins σ H s1) E s
 self:∀(A:Around) (i:Nat) (s:Af) (Q:Value->Af->Prop) (E:Value->Af->Prop),tn i s.heap->Q (.ref it) s->wpAny (model P w) A (Na (.ref it)) Q E s
abbrev TI:=St->Hp->(It->Hp->Prop)->Prop
def PIE(X:Cx)(pins:List (Addr×Obj))(σ:St)(tg:Expr)(R:It->Hp->Prop)(itv:Value)(s2:Af):Prop :=
 ∃(it:Addr) (fp:List Addr) (tn:Nat->Heap->Prop) (J:It) (H':Hp),itv=.ref it/\Inv X pins σ H' s2/\Turn X.prog X.w X.K tg J fp it tn/\tn 0 s2.heap/\(∀b∈fp,FpOk X pins H' b)/\R J H'
def PI(X:Cx)(tg iter:Expr)(wi:TI):Prop :=
 ∀(pins:List (Addr×Obj)) (s:Af) (σ:St) (H:Hp) (R:It->Hp->Prop),Inv X pins σ H s->wi σ H R ->
  wpAny (model X.prog X.w) X.A (eval iter X.env) (fun v s1=>wpAny (model X.prog X.w) X.A (Na v) (PIE X pins σ tg R) X.xe s1) X.xe s
theorem z2h (ho : s.heap.get? it = some o) (hc : o.cls = .type n) (hd : o.data = .fields vs)
    (hn : ["enumerate", "zip", "dict_itemiterator", "dict_reverseitemiterator", "odict_iterator", "itertools.zip_longest", "itertools.pairwise"].contains n = false) (hQ : Q () s) : wpAny M A (Jr tg (.ref it) u) Q E s := by
  cases tg <;> first
    | exact Ae hQ
    | (cases u <;> first
        | exact Ae hQ
        | (refine Ab (Qn ho ?_)
           rw [hc, hd]
           show wpAny M A (if (["enumerate", "zip", "dict_itemiterator", "dict_reverseitemiterator", "odict_iterator", "itertools.zip_longest", "itertools.pairwise"].contains n && vs[0]? == some (Di _)) = true then _ else _) Q E s
           rw [if_neg (by intro h; rw [hn, Mt] at h; cases h)]
           exact Ae hQ))
def Itl(K:Ah)(a:Addr):It :=
 ⟨fun i H=>∃xs x,SqL K H a xs/\xs[i]?=some x,fun i H x H'=>H'=H/\∀xs,SqL K H a xs->xs[i]?=some x,fun i H=>∃xs,SqL K H a xs/\xs.length<=i⟩
def Itt(K:Ah)(a:Addr):It :=
 ⟨fun i H=>∃xs x,SqT K H a xs/\xs[i]?=some x,fun i H x H'=>H'=H/\∀xs,SqT K H a xs->xs[i]?=some x,fun i H=>∃xs,SqT K H a xs/\xs.length<=i⟩
def Itr(lo:Int)(n:Nat):It:=⟨fun i _=>i<n,fun i H x H'=>H'=H/\x=.int (lo+i),fun i _=>n<=i⟩
theorem z6f{K:Ah}(a it:Addr):Turn P w K tg (Itl K a) [it] it (fun i h=>h.IsListIter it a i) where
 mem:=by simp
 obj:=fun i h st b hb=>by
  have e:b=it:=by grind
  subst e;obtain⟨o,e,c,d⟩:=st;exact⟨o,e,fun v z=>by rw[d] at z;cases z⟩
 keep:=fun i h h' st k=>st.at fun o e=>k it (by simp) o e
 item:=by
  intro X hP hw hK hc i pins s σ H E I hf st hg;subst hP hw hK;obtain⟨xs,x,hq,hx⟩:=hg;obtain⟨its,rv,p,hz⟩:=I.list hq;obtain⟨u,hu,ru⟩:=rv.get hx;obtain⟨f0,f1,f2,f3,f4,f5⟩:=hf it (by simp);refine Ph st p.isList (by simpa using hu) fun h' st' sb=>?_;have I1:Inv X pins σ H { s with heap:=h' }:=I.turned (t':=s.toks) (fun b o hb e=>(sb.2 b hb).trans e) f0 f1 f3 f4 f5;obtain⟨o,e,c,d⟩:=id st';exact⟨u,rfl,z2h e c d (by decide) ⟨x,H,I1,ru,⟨rfl,fun ys hy=>by rw[I.list_inj hy hq];exact hx⟩,st',fun b hb=>(hf b hb).1⟩⟩
 done:=by
  intro X hP hw hK hc i pins s σ H E I hf st hg;subst hP hw hK;obtain⟨xs,hq,hx⟩:=hg;obtain⟨its,rv,p,hz⟩:=I.list hq;obtain⟨f0,f1,f2,f3,f4,f5⟩:=hf it (by simp);have hl:=rv.length;exact Pz (I.ok.hd hc) st p.isList (by simp;lia) fun h' eb=>⟨rfl,I.turned (t':=s.toks) (fun b o hb e=>eb b o hb e) f0 f1 f3 f4 f5⟩
 self:=fun _ _ _ _ _ st h=>wpAny_pyIter_listiter st h
theorem z4u{K:Ah}(a it:Addr):Turn P w K tg (Itt K a) [it] it (fun i h=>h.IsTupleIter it a i) where
 mem:=by simp
 obj:=fun i h st b hb=>by
  have e:b=it:=by grind
  subst e;obtain⟨o,e,c,d⟩:=st;exact⟨o,e,fun v z=>by rw[d] at z;cases z⟩
 keep:=fun i h h' st k=>st.at fun o e=>k it (by simp) o e
 item:=by
  intro X hP hw hK hc i pins s σ H E I hf st hg;subst hP hw hK;obtain⟨xs,x,hq,hx⟩:=hg;obtain⟨its,rv,p,hz⟩:=I.tuple hq;obtain⟨u,hu,ru⟩:=rv.get hx;obtain⟨f0,f1,f2,f3,f4,f5⟩:=hf it (by simp);refine wpAny_pyNext_tuple_item st (show s.heap.IsTuple a its.toArray from p) (by simpa using hu) fun h' st' sb=>?_;have I1:Inv X pins σ H { s with heap:=h' }:=I.turned (t':=s.toks) (fun b o hb e=>(sb.2 b hb).trans e) f0 f1 f3 f4 f5;obtain⟨o,e,c,d⟩:=id st';exact⟨u,rfl,z2h e c d (by decide) ⟨x,H,I1,ru,⟨rfl,fun ys hy=>by rw[I.tuple_inj hy hq];exact hx⟩,st',fun b hb=>(hf b hb).1⟩⟩
 done:=by
  intro X hP hw hK hc i pins s σ H E I hf st hg;subst hP hw hK;obtain⟨xs,hq,hx⟩:=hg;obtain⟨its,rv,p,hz⟩:=I.tuple hq;obtain⟨f0,f1,f2,f3,f4,f5⟩:=hf it (by simp);have hl:=rv.length;exact wpAny_pyNext_tuple_end (I.ok.hd hc) st (show s.heap.IsTuple a its.toArray from p) (by simp;lia) fun h' eb=>⟨rfl,I.turned (t':=s.toks) (fun b o hb e=>eb b o hb e) f0 f1 f3 f4 f5⟩
 self:=fun _ _ _ _ _ st h=>wpAny_pyIter_tupleiter st h
theorem z4v{K:Og}(it:Addr)(lo:Int)(n:Nat):Turn P w K tg (Itr lo n) [it] it (fun i h=>IsRangeIter h it (lo+(i:Nat)*1) ((n:Int)-(i:Nat)) 1) where
 mem:=by simp
 obj:=fun i h st b hb=>by
  have e:b=it:=by grind
  subst e;exact⟨_,st,fun v z=>by
   have z':=z;cases z'⟩
 keep:=fun i h h' st k=>k it (by simp) _ st
 item:=by
  intro X hP hw hK hc i pins s σ H E I hf st hg;subst hP hw hK;obtain⟨f0,f1,f2,f3,f4,f5⟩:=hf it (by simp);have W:=Walks.range (prog:=X.prog) (w:=X.w) (I.ok.hd hc) it lo 1 n;refine W.item i s _ _ hg st fun v h' tk hv st' kk=>?_;obtain⟨t,rfl⟩:=hv;have I1:Inv X pins σ H { s with heap:=h',toks:=tk }:=I.turned (fun b o hb e=>kk b o (by simpa using hb) e) f0 f1 f3 f4 f5;refine⟨_,rfl,z2h st' rfl rfl (by decide) ⟨.int (lo+i),H,I1,⟨t,?_⟩,⟨rfl,rfl⟩,st',fun b hb=>(hf b hb).1⟩⟩;rw[Int.mul_one]
 done:=by
  intro X hP hw hK hc i pins s σ H E I hf st hg;obtain⟨f0,f1,f2,f3,f4,f5⟩:=hf it (by simp);exact wpAny_pyNext_range_end (I.ok.hd hc) st (by have:n<=i:=hg;lia) fun h' eb=>⟨rfl,I.turned (t':=s.toks) (fun b o hb e=>eb b o hb e) f0 f1 f3 f4 f5⟩
 self:=fun _ _ _ _ _ st h=>wpAny_pyIter_rangeiter st h
open PySem PySem.Spec PyProof.Rows
section
variable{X:Cx}{tg:Expr}
theorem z9z{σ:St}{lo:Int}(I:Inv X pins σ H s)(h1 : -(2^62)<=lo)(h2:lo<2^62)(h3 : -(2^62)<=hi)(h4:hi<2^62)(q:R (Itr lo (hi-lo).toNat) H):wpAny (model X.prog X.w) X.A (Na (.ref s.heap.objs.size)) (PIE X pins σ tg R) E { s with heap:=s.heap.push { cls:=.type "range",data:=.fields #[.int lo t,.int hi u,.int 1 v] },toks:=tk }:=by
 refine wpAny_pyIter_range (IsRange.new ..) (small_one h1 h2 h3 h4) ?_;have I1:Inv X pins σ H { s with heap:=s.heap.push { cls:=.type "range",data:=.fields #[.int lo t,.int hi u,.int 1 v] },toks:=tk }:=I.kept fun b o e=>Ag _ e;refine⟨(s.heap.push { cls:=.type "range",data:=.fields #[.int lo t,.int hi u,.int 1 v] }).objs.size,[(s.heap.push { cls:=.type "range",data:=.fields #[.int lo t,.int hi u,.int 1 v] }).objs.size],_,_,H,rfl,
  I1.kept (t':=tk) fun b o e=>Ag _ e,z4v _ lo (hi-lo).toNat,?_,fun b hb=>?_,q⟩
 ·have e1:lo+((0:Nat):Int)*1=lo:=by simp
  have e2:(((hi-lo).toNat:Nat):Int)-((0:Nat):Int)=Dp.Range.rangeSize lo hi 1:=by rw[rangeSize_one];split<;>lia
  rw[e1,e2];exact Ar _ rfl
 ·have e:b=(s.heap.push { cls:=.type "range",data:=.fields #[.int lo t,.int hi u,.int 1 v] }).objs.size:=by simpa using hb
  subst e;exact I1.fpOk (Aj _) (I1.hok.fresh (Aj _))
def iRng1(ta:TA):TI:=fun σ H R=>ta σ H fun vs H1=>∃j:Int,vs=[.int j] /\ -(2^62)<=j/\j<2^62/\R (Itr 0 j.toNat) H1
theorem q1p{a:Expr}{ta:TA}{p pos:Pos}(hg:Gl X "range")(hm:X.mg "range" = none)(ha:PA X [a] ta)(hs:Be [a] X.env=[(false,eval a X.env)]:=by rfl):PI X tg (.Call (.Name "range" p) [a] [] pos) (iRng1 ta):=by
 intro pins s σ H R I h;refine Call_ (q8j I hg hm boot_range (Gd (thn (ha pos pins s σ H _ I h) fun us s1 ⟨vs,H1,I1,r1,q1⟩=>?_) hs rfl));obtain⟨j,e,q1,q2,q⟩:=q1;subst e;cases r1 with
 |cons r rr =>
  cases rr;obtain⟨t,rfl⟩:=r;exact call_range_1 (z9z I1 (by lia) (by lia) q1 q2 (by simpa using q))
def tFor(wi:TI)(g:TG)(tb:TS):TS:=fun D σ H=>wi σ H fun J H1=>∃W:Nat->Nat->St->Hp->Prop,(∃m,W 0 m σ H1)/\∀i m σ H,W i m σ H ->
 (J.stop i H/\D.nx σ H)\/(J.go i H/\∃N:St->Hp->Prop,(∀σ' H',N σ' H'->∃m',m'<m/\W (i+1) m' σ' H')/\∀x H',J.yld i H x H'->g x σ H' fun σ2 H2=>tb { D with nx:=N,ct:=N,bk:=D.nx } σ2 H2)
def pinsAt(fp:List Addr)(h:Heap):List (Addr×Obj):=fp.filterMap fun b=>(h.get? b).map fun o=>(b,o)
theorem q2h(hb:b∈fp)(e:h.get? b=some o):(b,o)∈pinsAt fp h:=Rq.mpr ⟨b,hb,by rw[e];rfl⟩
theorem z6g(hp:p∈pinsAt fp h):p.1∈fp/\h.get? p.1=some p.2:=by
 obtain⟨b,hb,e⟩:=Rq.mp hp;cases q:h.get? b with
 |none=>rw[q] at e;cases e
 |some o =>
  rw[q] at e;have e':=Dy e;subst e';exact⟨hb,q⟩
theorem Inv.pinned{σ:St}(I:Inv X pins σ H s)(hf:∀b∈fp,FpOk X pins H b)(ho:∀b∈fp,∃o,s.heap.get? b=some o/\∀v,o.data≠.cell v):Inv X (pins++pinsAt fp s.heap) σ H s :=
 I.pins_of fun p hp=>(Aw.mp hp).elim (fun z=>I.pin p (Bq _ z)) fun z=>by
  obtain⟨hb,e⟩:=z6g z;obtain⟨f0,f1,f2,_⟩:=hf p.1 hb;obtain⟨o,e',d⟩:=ho p.1 hb;rw[e] at e';cases e';exact⟨e,f0,f1,f2,d⟩
theorem Inv.unpinned{σ:St}(I:Inv X (pins++pl) σ H s):Inv X pins σ H s:=I.pins_of fun p hp=>I.pin p (Bq _ (Dc _ hp))
theorem q3b{iter:Expr}{body:List Stmt}{wi:TI}{g:TG}{tb:TS}{pos:Pos}(hp:PassesOwn (model X.prog X.w) X.A X.env X.xe)(hc:X.calm=true)(hi:PI X tg iter wi)(hg:PG X tg g)(hb:PSs X body tb)(hs:∀x,Ik iter X.env x=pure x:=by intro _;rfl):PS X (.For tg iter body [] pos) (tFor wi g tb):=by
 intro pins s σ H D I h;refine wpAny_For (thn (hi pins s σ H _ I h) fun v s1 h1=>thn h1 fun itv s2 h2=>?_) hs;obtain⟨it,fp,tn,J,H2,e,I2,T,st2,f2,W,⟨m0,w0⟩,turn⟩:=h2;subst e;have stat:∀{H':Hp},(∀b∈fp,H' b=none)->∀b∈fp,FpOk X pins H' b:=fun hn b hb=>⟨hn b hb,(f2 b hb).2⟩
 refine codeAny_forLoop_any (fun n s'=>∃i σ' H',Inv X pins σ' H' s'/\tn i s'.heap/\(∀b∈fp,H' b=none)/\W i n σ' H') ?_ m0 ⟨0,σ,H2,I2,st2,fun b hb=>(f2 b hb).1,w0⟩;rintro n s3 ⟨i,σ3,H3,I3,st3,fr3,w3⟩;rcases turn i n σ3 H3 w3 with⟨stop,qn⟩|⟨go,N,hN,step⟩
 ·refine Gg hp (thn (T.done X rfl rfl rfl hc i pins s3 σ3 H3 X.xe I3 (stat fr3) st3 stop) fun r s4 ⟨hr,I4⟩=>?_);subst hr;exact Hv ⟨σ3,H3,I4,qn⟩
 ·refine Gg hp (thn (T.item X rfl rfl rfl hc i pins s3 σ3 H3 X.xe I3 (stat fr3) st3 go) fun r s4 ⟨u,hr,h4⟩=>?_);subst hr;refine Gg hp (thn h4 fun _ s5 ⟨x,H5,I5,r5,y5,st5,fr5⟩=>?_);have I5':=I5.pinned (stat fr5) (T.obj _ _ st5);refine Gg hp (thn (hg _ s5 σ3 H5 x u _ I5' r5 (step x H5 y5)) fun _ s6 ⟨σ6,H6,I6,q6⟩=>?_);refine Gg hp (thn (hb _ s6 σ6 H6 _ I6 q6) fun f s7 q7=>?_);have again:∀{σ7:St} {H7:Hp},Inv X (pins++pinsAt fp s5.heap) σ7 H7 s7->N σ7 H7->∃m,m<n/\∃i σ' H',Inv X pins σ' H' s7/\tn i s7.heap/\(∀b∈fp,H' b=none)/\W i m σ' H':=fun{σ7 H7} I7 n7=>by
   obtain⟨m',hm,w7⟩:=hN σ7 H7 n7;refine⟨m',hm,i+1,σ7,H7,I7.unpinned,T.keep _ _ _ st5 fun b hb o e=>(I7.pin (b,o) (Bq _ (Bq _ (q2h hb e)))).1,fun b hb=>?_,w7⟩;obtain⟨o,e,d⟩:=T.obj _ _ st5 b hb;exact(I7.pin (b,o) (Bq _ (Bq _ (q2h hb e)))).2.1
  cases f with
  |next=>obtain⟨σ7,H7,I7,n7⟩:=q7;exact again I7 n7
  |cont=>obtain⟨σ7,H7,I7,n7⟩:=q7;exact again I7 n7
  |brk=>obtain⟨σ7,H7,I7,q7⟩:=q7;exact⟨σ7,H7,I7.unpinned,q7⟩
  |ret v=>obtain⟨x7,σ7,H7,I7,r7,q7⟩:=q7;exact⟨x7,σ7,H7,I7.unpinned,r7,q7⟩
end
theorem x0a{K:Og}{g:TG}{tb:TS}{D:Ends}(Pv:Nat->St->Hp->Prop)(h0:Pv 0 σ H)(hl:∀i σ H,i<=xs.length->Pv i σ H->SqL K H a xs)(hs:∀i x σ H,xs[i]?=some x->Pv i σ H->g x σ H fun σ2 H2=>tb { D with nx:=Pv (i+1),ct:=Pv (i+1),bk:=D.nx } σ2 H2)(hd:∀σ H,Pv xs.length σ H->D.nx σ H):
  ∃W:Nat->Nat->St->Hp->Prop,(∃m,W 0 m σ H)/\∀i m σ H,W i m σ H ->
   ((Itl K a).stop i H/\D.nx σ H)\/((Itl K a).go i H/\∃N:St->Hp->Prop,(∀σ' H',N σ' H'->∃m',m'<m/\W (i+1) m' σ' H')/\∀x H',(Itl K a).yld i H x H'->g x σ H' fun σ2 H2=>tb { D with nx:=N,ct:=N,bk:=D.nx } σ2 H2):=by
 refine⟨fun i m σ H=>m=xs.length-i/\i<=xs.length/\Pv i σ H,⟨xs.length,by simp,Br _,h0⟩,?_⟩;rintro i m σ H ⟨rfl,hi,p⟩;have q:=hl i σ H hi p;by_cases hlt:i<xs.length
 ·refine .inr ⟨⟨xs,xs[i],q,by simp[hlt]⟩,Pv (i+1),fun σ' H' p'=>⟨xs.length-(i+1),by lia,rfl,hlt,p'⟩,fun x H' y=>?_⟩;obtain⟨e,y⟩:=y;subst e;exact hs i x σ _ (y xs q) p
 ·have e:i=xs.length:=by lia
  subst e;exact .inl ⟨⟨xs,q,Aj _⟩,hd σ H p⟩
theorem x3e{K:Og}{g:TG}{tb:TS}{D:Ends}(Pv:Nat->St->Hp->Prop)(h0:Pv 0 σ H)(hl:∀i σ H,i<=xs.length->Pv i σ H->SqT K H a xs)(hs:∀i x σ H,xs[i]?=some x->Pv i σ H->g x σ H fun σ2 H2=>tb { D with nx:=Pv (i+1),ct:=Pv (i+1),bk:=D.nx } σ2 H2)(hd:∀σ H,Pv xs.length σ H->D.nx σ H):
  ∃W:Nat->Nat->St->Hp->Prop,(∃m,W 0 m σ H)/\∀i m σ H,W i m σ H ->
   ((Itt K a).stop i H/\D.nx σ H)\/((Itt K a).go i H/\∃N:St->Hp->Prop,(∀σ' H',N σ' H'->∃m',m'<m/\W (i+1) m' σ' H')/\∀x H',(Itt K a).yld i H x H'->g x σ H' fun σ2 H2=>tb { D with nx:=N,ct:=N,bk:=D.nx } σ2 H2):=by
 refine⟨fun i m σ H=>m=xs.length-i/\i<=xs.length/\Pv i σ H,⟨xs.length,by simp,Br _,h0⟩,?_⟩;rintro i m σ H ⟨rfl,hi,p⟩;have q:=hl i σ H hi p;by_cases hlt:i<xs.length
 ·refine .inr ⟨⟨xs,xs[i],q,by simp[hlt]⟩,Pv (i+1),fun σ' H' p'=>⟨xs.length-(i+1),by lia,rfl,hlt,p'⟩,fun x H' y=>?_⟩;obtain⟨e,y⟩:=y;subst e;exact hs i x σ _ (y xs q) p
 ·have e:i=xs.length:=by lia
  subst e;exact .inl ⟨⟨xs,q,Aj _⟩,hd σ H p⟩
theorem q3h{lo:Int}{g:TG}{tb:TS}{D:Ends}(Pv:Nat->St->Hp->Prop)(h0:Pv 0 σ H)(hs:∀i σ H,i<n->Pv i σ H->g (.int (lo+i)) σ H fun σ2 H2=>tb { D with nx:=Pv (i+1),ct:=Pv (i+1),bk:=D.nx } σ2 H2)(hd:∀σ H,Pv n σ H->D.nx σ H):
  ∃W:Nat->Nat->St->Hp->Prop,(∃m,W 0 m σ H)/\∀i m σ H,W i m σ H ->
   ((Itr lo n).stop i H/\D.nx σ H)\/((Itr lo n).go i H/\∃N:St->Hp->Prop,(∀σ' H',N σ' H'->∃m',m'<m/\W (i+1) m' σ' H')/\∀x H',(Itr lo n).yld i H x H'->g x σ H' fun σ2 H2=>tb { D with nx:=N,ct:=N,bk:=D.nx } σ2 H2):=by
 refine⟨fun i m σ H=>m=n-i/\i<=n/\Pv i σ H,⟨n,by simp,Br _,h0⟩,?_⟩;rintro i m σ H ⟨rfl,hi,p⟩;by_cases hlt:i<n
 ·refine .inr ⟨hlt,Pv (i+1),fun σ' H' p'=>⟨n-(i+1),by lia,rfl,hlt,p'⟩,fun x H' y=>?_⟩;obtain⟨e,y⟩:=y;subst e y;exact hs i σ _ hlt p
 ·have e:i=n:=by lia
  subst e;exact .inl ⟨Aj _,hd σ H p⟩
theorem x0b(Pv:St->Hp->Prop)(μ:St->Hp->Nat)(h0:Pv σ H)(hs:∀σ H,Pv σ H->c σ H fun b H1=>if b=true then tb { D with nx:=fun σ' H'=>Pv σ' H'/\μ σ' H'<μ σ H,ct:=fun σ' H'=>Pv σ' H'/\μ σ' H'<μ σ H,bk:=D.nx } σ H1 else D.nx σ H1)(mono:∀σ H Q Q',(∀b H1,Q b H1->Q' b H1)->c σ H Q->c σ H Q'):tWhile c tb D σ H:=by
 refine⟨fun m σ H=>m=μ σ H/\Pv σ H,⟨_,rfl,h0⟩,?_⟩;rintro m σ H ⟨rfl,p⟩;refine mono σ H _ _ (fun b H1 q=>?_) (hs σ H p);cases b with
 |true=>exact⟨_,fun σ' H' ⟨p',l⟩=>⟨_,l,rfl,p'⟩,q⟩
 |false=>exact q
open PySem PySem.Spec PyProof.Rows
abbrev R2:=V->V->Hp->VK->Prop
def OpR(X:Cx)(f:Value->Value->Sem Value)(r:R2):Prop :=
 ∀(pins:List (Addr×Obj)) (s:Af) (σ:St) (H:Hp) (x y:V) (v u:Value) (Q:VK),Inv X pins σ H s->RelV x v->RelV y u->r x y H Q ->
  wpAny (model X.prog X.w) X.A (f v u) (EP X pins σ Q) X.xe s
def UnR(X:Cx)(f:Value->Sem Value)(r:V->Hp->VK->Prop):Prop :=
 ∀(pins:List (Addr×Obj)) (s:Af) (σ:St) (H:Hp) (x:V) (v:Value) (Q:VK),Inv X pins σ H s->RelV x v->r x H Q ->
  wpAny (model X.prog X.w) X.A (f v) (EP X pins σ Q) X.xe s
def CallR(X:Cx)(f:Value)(r:List V->Hp->VK->Prop):Prop :=
 ∀(pins:List (Addr×Obj)) (s:Af) (σ:St) (H:Hp) (xs:List V) (us:List Value) (Q:VK),Inv X pins σ H s->Vals xs us->r xs H Q ->
  wpAny (model X.prog X.w) X.A (call f us) (EP X pins σ Q) X.xe s
def TruR(X:Cx)(r:V->Hp->(Bool->Hp->Prop)->Prop):Prop :=
 ∀(pins:List (Addr×Obj)) (s:Af) (σ:St) (H:Hp) (x:V) (v:Value) (Q:Bool->Hp->Prop),Inv X pins σ H s->RelV x v->r x H Q ->
  wpAny (model X.prog X.w) X.A (truthy v) (TP X pins σ Q) X.xe s
def tOp(r:R2)(ta tb:TE):TE:=fun σ H Q=>ta σ H fun x H1=>tb σ H1 fun y H2=>r x y H2 Q
def tUn(r:V->Hp->VK->Prop)(ta:TE):TE:=fun σ H Q=>ta σ H fun x H1=>r x H1 Q
def rI(C:Int->Int->Prop)(g:Int->Int->V):R2:=fun x y H Q=>∃i j,x=.int i/\y=.int j/\C i j/\Q (g i j) H
def rI0(g:Int->Int->V):R2:=fun x y H Q=>∃i j,x=.int i/\y=.int j/\Q (g i j) H
def rU(g:Int->V):V->Hp->VK->Prop:=fun x H Q=>∃i,x=.int i/\Q (g i) H
section
variable{X:Cx}{a b c:Expr}{ta tb tc:TE}{pos:Pos}
theorem binT(ha:PE X a ta)(hb:PE X b tb){σ:St}{R:V->V->Hp->Prop}(I:Inv X pins σ H s)(h:ta σ H fun x H1=>tb σ H1 fun y H2=>R x y H2){f:Value->Value->Sem Value}(hf:∀v u s2 x y H2,Inv X pins σ H2 s2->RelV x v->RelV y u->R x y H2->wpAny (model X.prog X.w) X.A (f v u) Q X.xe s2):
  wpAny (model X.prog X.w) X.A (eval a X.env) (fun v s₁=>wpAny (model X.prog X.w) X.A (eval b X.env) (fun u s₂=>wpAny (model X.prog X.w) X.A (f v u) Q X.xe s₂) X.xe s₁) X.xe s:=by
 refine thn (ha pins s σ H _ I h) fun v s1 ⟨x,H1,I1,r1,q1⟩=>?_;refine thn (hb pins s1 σ H1 _ I1 q1) fun u s2 ⟨y,H2,I2,r2,q2⟩=>?_;exact hf v u s2 x y H2 I2 r1 r2 q2
theorem q0p{op:Operator}{r:R2}(ho:OpR X (Fe op) r)(ha:PE X a ta)(hb:PE X b tb):PE X (.BinOp a op b pos) (tOp r ta tb):=by
 intro pins s σ H Q I h;exact wpAny_BinOp (binT ha hb I h fun v u s2 x y H2 I2 rx ry q=>ho pins s2 σ H2 x y v u Q I2 rx ry q)
theorem q2c{op:UnaryOp}{r:V->Hp->VK->Prop}(ho:UnR X (unaryOp op) r)(ha:PE X a ta):PE X (.UnaryOp op a pos) (tUn r ta):=by
 intro pins s σ H Q I h;exact UnaryOp_ (thn (ha pins s σ H _ I h) fun v s1 ⟨x,H1,I1,r1,q1⟩=>ho pins s1 σ H1 x v Q I1 r1 q1)
theorem opI{g:Int->Int->Int}(rule:∀(i j:Int) (t u:Tok) (s:Af) (Q:Value->Af->Prop) (E:Value->Af->Prop),C i j->Q (.int (g i j) s.toks) { s with toks:=s.toks+1 }->wpAny (model X.prog X.w) X.A (f (.int i t) (.int j u)) Q E s):
  OpR X f (rI C fun i j=>.int (g i j)):=by
 intro pins s σ H x y v u Q I rx ry h;obtain⟨i,j,rfl,rfl,hc,q⟩:=h;obtain⟨t,rfl⟩:=rx;obtain⟨t',rfl⟩:=ry;exact rule i j t t' s _ _ hc ⟨.int (g i j),H,I.tok _,⟨_,rfl⟩,q⟩
theorem opI0{g:Int->Int->Int}(rule:∀(i j:Int) (t u:Tok) (s:Af) (Q:Value->Af->Prop) (E:Value->Af->Prop),Q (.int (g i j) s.toks) { s with toks:=s.toks+1 }->wpAny (model X.prog X.w) X.A (f (.int i t) (.int j u)) Q E s):
  OpR X f (rI0 fun i j=>.int (g i j)):=by
 intro pins s σ H x y v u Q I rx ry h;obtain⟨i,j,rfl,rfl,q⟩:=h;obtain⟨t,rfl⟩:=rx;obtain⟨t',rfl⟩:=ry;exact rule i j t t' s _ _ ⟨.int (g i j),H,I.tok _,⟨_,rfl⟩,q⟩
theorem opB0{g:Int->Int->Bool}(rule:∀(i j:Int) (t u:Tok) (s:Af) (Q:Value->Af->Prop) (E:Value->Af->Prop),Q (.bool (g i j)) s->wpAny (model X.prog X.w) X.A (f (.int i t) (.int j u)) Q E s):
  OpR X f (rI0 fun i j=>.bl (g i j)):=by
 intro pins s σ H x y v u Q I rx ry h;obtain⟨i,j,rfl,rfl,q⟩:=h;obtain⟨t,rfl⟩:=rx;obtain⟨t',rfl⟩:=ry;exact rule i j t t' s _ _ ⟨.bl (g i j),H,I,rfl,q⟩
def CDiv(i j:Int):Prop:=0<j/\j<1073741824
def CPow(i j:Int):Prop:=0<=j/\j<=1000000/\i.natAbs<2^64
def CMul(i j:Int):Prop:=(-(2^64)<i/\i<2^64)\/(-(2^64)<j/\j<2^64)
theorem CMul.ok(h:CMul i j):IntMulOk i j:=by
 rcases h with⟨h1,h2⟩|⟨h1,h2⟩
 ·exact .of_left (intBits_le_64 h1 h2)
 ·exact .of_right (intBits_le_64 h1 h2)
theorem op_add:OpR X (Fe .Add) (rI0 fun i j=>.int (i+j)):=opI0 fun _ _ _ _ _ _ _ q=>add_int q
theorem q5c:OpR X (Fe .Sub) (rI0 fun i j=>.int (i-j)):=opI0 fun _ _ _ _ _ _ _ q=>sub_int q
theorem op_mul:OpR X (Fe .Mult) (rI CMul fun i j=>.int (i*j)):=opI fun _ _ _ _ _ _ _ hc q=>mul_int q hc.ok
theorem q5p:OpR X (Fe .FloorDiv) (rI CDiv fun i j=>.int (i / j)):=opI fun i j _ _ _ _ _ hc q=>by
 have h1:=hc.1;have h2:=hc.2;exact floordiv_int (by lia) (by rw[Int.fdiv_eq_ediv_of_nonneg i (by lia)];exact q) (.inl (PyProof.noPylong_small (by lia)))
theorem q6v:OpR X (Fe .Mod) (rI (fun _ j=>0<j) fun i j=>.int (i%j)):=opI fun i j _ _ _ _ _ hc q=>by
 exact mod_int' (by lia) (by rw[Int.fmod_eq_emod_of_nonneg i (by lia)];exact q)
theorem x2f:OpR X (Fe .Pow) (rI CPow fun i j=>.int (i^j.toNat)):=opI fun _ _ _ _ _ _ _ hc q=>pow_int_small hc.1 hc.2.1 hc.2.2 q
theorem unI{g:Int->Int}(rule:∀(i:Int) (t:Tok) (s:Af) (Q:Value->Af->Prop) (E:Value->Af->Prop),Q (.int (g i) s.toks) { s with toks:=s.toks+1 }->wpAny (model X.prog X.w) X.A (f (.int i t)) Q E s):
  UnR X f (rU fun i=>.int (g i)):=by
 intro pins s σ H x v Q I rx h;obtain⟨i,rfl,q⟩:=h;obtain⟨t,rfl⟩:=rx;exact rule i t s _ _ ⟨.int (g i),H,I.tok _,⟨_,rfl⟩,q⟩
theorem q1e:UnR X (unaryOp .USub) (rU fun i=>.int (-i)):=unI fun _ _ _ _ _ q=>neg_int q
end
def scal:V->V->Bool
 |.non,.non=>true|.non,.int _=>true|.int _,.non=>true|.non,.bl _=>true|.bl _,.non=>true|.non,.str _=>true|.str _,.non=>true
 |.int _,.int _=>true|.bl _,.bl _=>true|.str _,.str _=>true|.byt _,.byt _=>true
 |.int _,.str _=>true|.str _,.int _=>true|.bl _,.str _=>true|.str _,.bl _=>true
 |_,_=>false
def rEq:R2:=fun x y H Q=>scal x y=true/\Q (.bl (decide (x=y))) H
def rNe:R2:=fun x y H Q=>scal x y=true/\Q (.bl (!decide (x=y))) H
theorem z6h:decide (V.int i=V.int j)=(i==j):=by
 rw[Lz];simp
theorem x2g:decide (V.bl i=V.bl j)=(i==j):=by
 rw[Lz];simp
theorem dec_str:decide (V.str i=V.str j)=(i==j):=by
 rw[Lz];simp
theorem z6i:decide (V.byt i=V.byt j)=(i.toList==j.toList):=by
 rw[Lz];cases i;cases j;simp
section
variable{X:Cx}{a b c:Expr}{ta tb tc:TE}{pos:Pos}
theorem q1b{σ:St}(I:Inv X pins σ H s)(q:Q (.bl k) H)(e:k=k'):EP X pins σ Q (.bool k') s:=by
 subst e;exact⟨.bl k,H,I,rfl,q⟩
theorem op_eq:OpR X (Ca .Eq) rEq:=by
 intro pins s σ H x y v u Q I rx ry h;obtain⟨hs,q⟩:=h;cases x with
 |non =>
  cases rx;cases y with
  |non=>cases ry;exact PySem.EqNone.eq_none_none (q1b I q (by simp))
  |bl j=>cases ry;exact PySem.EqNone.eq_none_bool (q1b I q (by simp))
  |int j=>obtain⟨t',rfl⟩:=ry;exact PySem.EqNone.eq_none_int (q1b I q (by simp))
  |str j=>obtain⟨t',rfl⟩:=ry;exact PySem.EqNone.eq_none_str (q1b I q (by simp))
  |_=>exact absurd (show false=true from hs) Bl
 |bl i =>
  cases rx;cases y with
  |non=>cases ry;exact PySem.EqNone.eq_bool_none (q1b I q (by simp))
  |bl j=>cases ry;exact eq_bool (q1b I q x2g)
  |str j=>obtain⟨t',rfl⟩:=ry;exact PySem.EqMixed.eq_bool_str (q1b I q (by simp))
  |_=>exact absurd (show false=true from hs) Bl
 |int i =>
  obtain⟨t,rfl⟩:=rx;cases y with
  |non=>cases ry;exact PySem.EqNone.eq_int_none (q1b I q (by simp))
  |int j=>obtain⟨t',rfl⟩:=ry;exact eq_int (q1b I q z6h)
  |str j=>obtain⟨t',rfl⟩:=ry;exact PySem.EqMixed.eq_int_str (q1b I q (by simp))
  |_=>exact absurd (show false=true from hs) Bl
 |str i =>
  obtain⟨t,rfl⟩:=rx;cases y with
  |non=>cases ry;exact PySem.EqNone.eq_str_none (q1b I q (by simp))
  |bl j=>cases ry;exact PySem.EqMixed.eq_str_bool (q1b I q (by simp))
  |int j=>obtain⟨t',rfl⟩:=ry;exact PySem.EqMixed.eq_str_int (q1b I q (by simp))
  |str j=>obtain⟨t',rfl⟩:=ry;exact eq_str (q1b I q dec_str)
  |_=>exact absurd (show false=true from hs) Bl
 |byt i =>
  obtain⟨t,rfl⟩:=rx;cases y with
  |byt j=>obtain⟨t',rfl⟩:=ry;exact W.eq_bytes (q1b I q z6i)
  |_=>exact absurd (show false=true from hs) Bl
 |_=>cases y<;>exact absurd (show false=true from hs) Bl
theorem op_ne:OpR X (Ca .NotEq) rNe:=by
 intro pins s σ H x y v u Q I rx ry h;obtain⟨hs,q⟩:=h;cases x with
 |non =>
  cases rx;cases y with
  |non=>cases ry;exact PySem.EqNone.ne_none_none (q1b I q (by simp))
  |bl j=>cases ry;exact PySem.EqNone.ne_none_bool (q1b I q (by simp))
  |int j=>obtain⟨t',rfl⟩:=ry;exact PySem.EqNone.ne_none_int (q1b I q (by simp))
  |str j=>obtain⟨t',rfl⟩:=ry;exact PySem.EqNone.ne_none_str (q1b I q (by simp))
  |_=>exact absurd (show false=true from hs) Bl
 |bl i =>
  cases rx;cases y with
  |non=>cases ry;exact PySem.EqNone.ne_bool_none (q1b I q (by simp))
  |bl j=>cases ry;exact ne_bool (q1b I q (congrArg not x2g))
  |str j=>obtain⟨t',rfl⟩:=ry;exact PySem.EqMixed.ne_bool_str (q1b I q (by simp))
  |_=>exact absurd (show false=true from hs) Bl
 |int i =>
  obtain⟨t,rfl⟩:=rx;cases y with
  |non=>cases ry;exact PySem.EqNone.ne_int_none (q1b I q (by simp))
  |int j=>obtain⟨t',rfl⟩:=ry;exact ne_int (q1b I q (congrArg not z6h))
  |str j=>obtain⟨t',rfl⟩:=ry;exact PySem.EqMixed.ne_int_str (q1b I q (by simp))
  |_=>exact absurd (show false=true from hs) Bl
 |str i =>
  obtain⟨t,rfl⟩:=rx;cases y with
  |non=>cases ry;exact PySem.EqNone.ne_str_none (q1b I q (by simp))
  |bl j=>cases ry;exact PySem.EqMixed.ne_str_bool (q1b I q (by simp))
  |int j=>obtain⟨t',rfl⟩:=ry;exact PySem.EqMixed.ne_str_int (q1b I q (by simp))
  |str j=>obtain⟨t',rfl⟩:=ry;exact ne_str (q1b I q (congrArg not dec_str))
  |_=>exact absurd (show false=true from hs) Bl
 |byt i =>
  obtain⟨t,rfl⟩:=rx;cases y with
  |byt j=>obtain⟨t',rfl⟩:=ry;exact W.ne_bytes (q1b I q (congrArg not z6i))
  |_=>exact absurd (show false=true from hs) Bl
 |_=>cases y<;>exact absurd (show false=true from hs) Bl
theorem x3f:OpR X (Ca .Lt) (rI0 fun i j=>.bl (decide (i<j))):=opB0 fun _ _ _ _ _ _ _ q=>lt_int q
theorem op_le:OpR X (Ca .LtE) (rI0 fun i j=>.bl (decide (i<=j))):=opB0 fun _ _ _ _ _ _ _ q=>le_int q
theorem x0c:OpR X (Ca .Gt) (rI0 fun i j=>.bl (decide (j<i))):=opB0 fun _ _ _ _ _ _ _ q=>gt_int q
theorem op_ge:OpR X (Ca .GtE) (rI0 fun i j=>.bl (decide (j<=i))):=opB0 fun _ _ _ _ _ _ _ q=>ge_int q
theorem op_in_str:OpR X (Ca .In) (fun x y H Q=>∃i j,x=.str i/\y=.str j/\Q (.bl (!(Cy j i 0 j.length 1).isEmpty)) H):=by
 intro pins s σ H x y v u Q I rx ry h;obtain⟨i,j,rfl,rfl,q⟩:=h;obtain⟨t,rfl⟩:=rx;obtain⟨t',rfl⟩:=ry;exact in_str (q1b I q rfl)
theorem OpR.or(h:OpR X f r)(h':OpR X f r'):OpR X f (fun x y H Q=>r x y H Q\/r' x y H Q):=by
 intro pins s σ H x y v u Q I rx ry q;rcases q with q|q
 ·exact h pins s σ H x y v u Q I rx ry q
 ·exact h' pins s σ H x y v u Q I rx ry q
theorem nomark(b:Expr)(h:op≠.In:=by decide)(h2:op≠.NotIn:=by decide):Gp op b=false:=by
 have e1:(op==CmpOp.In)=false:=by grind
 have e2:(op==CmpOp.NotIn)=false:=by grind
 cases b<;>simp[Gp,e1,e2]
theorem q2m{op:CmpOp}{r:R2}(ho:OpR X (Ca op) r)(ha:PE X a ta)(hb:PE X b tb)(hm:Gp op b=false):PE X (.Compare a [op] [b] pos) (tOp r ta tb):=by
 intro pins s σ H Q I h;exact wpAny_Compare1 (binT ha hb I h fun v u s2 x y H2 I2 rx ry q=>ho pins s2 σ H2 x y v u Q I2 rx ry q) hm
def tTest(t:TE):TT:=fun σ H Q=>t σ H fun x H'=>∃k,x=.bl k/\Q k H'
theorem q0o{op:CmpOp}{r:R2}(ho:OpR X (Ca op) r)(ha:PE X a ta)(hb:PE X b tb)(hm:Gp op b=false):PT X (.Compare a [op] [b] pos) (tTest (tOp r ta tb)):=by
 intro pins s σ H Q I h;refine Py (thn (ha pins s σ H _ I h) fun v s1 ⟨x,H1,I1,r1,q1⟩=>thn (hb pins s1 σ H1 _ I1 q1) fun u s2 ⟨y,H2,I2,r2,q2⟩ =>
  thn (ho pins s2 σ H2 x y v u _ I2 r1 r2 q2) fun c s3 ⟨z,H3,I3,r3,k,e,q3⟩=>?_) hm
 subst e;cases r3;exact Ei ⟨H3,I3,q3⟩
def TruV(K:Ah)(x:V)(H:Hp)(k:Bool):Prop :=
 match x with
 |.non=>k=false
 |.bl b=>k=b
 |.int i=>k=(i != 0)
 |.str y=>y.length<=sizeLine/\k=((y.length:Int) != 0)
 |.byt y=>y.size<=sizeLine/\k=((y.size:Int) != 0)
 |.ref p=>(∃xs,SqL K H p xs/\k = !xs.isEmpty)\/(∃xs,SqT K H p xs/\k = !xs.isEmpty)\/∃kvs,H p=some (.dK kvs)/\k = !kvs.isEmpty
 |_=>False
theorem z4w{kvs:List (κ×V)}{vs:List (κ×Value)}(r:KV kvs vs):(!vs.isEmpty) = !kvs.isEmpty:=by
 cases r<;>rfl
theorem q8l(r:Vals xs its):(!its.toArray.isEmpty) = !xs.isEmpty:=by
 cases r<;>simp
theorem line63:(sizeLine:Nat)<2^63:=by rw[Er];decide
theorem tru_ok:TruR X (fun x H Q=>∃k,TruV X.K x H k/\Q k H):=by
 intro pins s σ H x v Q I rx h;obtain⟨k,e,q⟩:=h;have hs:=Er;cases x with
 |non =>
  cases rx;have e':=e;subst e';exact truthy_none ⟨H,I,q⟩
 |bl b =>
  cases rx;have e':=e;subst e';exact Ei ⟨H,I,q⟩
 |int i =>
  obtain⟨t,rfl⟩:=rx;have e':=e;subst e';exact PySem.P.truthy_int ⟨H,I,q⟩
 |str y =>
  obtain⟨t,rfl⟩:=rx;obtain⟨hy,e'⟩:y.length<=sizeLine/\k=((y.length:Int) != 0):=e;subst e';exact PySem.P.truthy_str (by lia) ⟨H,I.tok _,q⟩
 |byt y =>
  obtain⟨t,rfl⟩:=rx;obtain⟨hy,e'⟩:y.size<=sizeLine/\k=((y.size:Int) != 0):=e;subst e';exact W.truthy_bytes (by lia) ⟨H,I.tok _,q⟩
 |ref p =>
  cases rx;have e':=e;rcases e' with⟨xs,hx,e'⟩|⟨xs,hx,e'⟩|⟨kvs,hx,e'⟩
  ·subst e';obtain⟨its,r,pl,hz⟩:=I.list hx;have hlen:=r.length;exact wpAny_truthy_list pl.isList (by simp only[Av];lia) ⟨H,I.tok _,by rw[q8l r];exact q⟩
  ·subst e';obtain⟨its,r,pl,hz⟩:=I.tuple hx;have hlen:=r.length;exact truthy_tuple pl (by simp only[Av];lia) ⟨H,I.tok _,by rw[q8l r];exact q⟩
  ·subst e';obtain⟨hz,hS,vs,r,m⟩:kvs.length<=sizeLine/\(p==Et)=false/\∃vs,KV kvs vs/\s.heap.DictOf (mixKind X.prog X.w) p vs:=I.hok p _ hx;have hlen:=Es r;exact wpAny_truthy_dict hS m (by lia) ⟨H,I.tok _,by rw[z4w r];exact q⟩
 |_=>exact(show False from e).elim
theorem x0d(ha:PE X a ta)(he:∀whole,isTrue a X.env whole=(do let v<-whole;Oc a.pos;Lq [v] (truthy v))):
  PT X a (fun σ H Q=>ta σ H fun x H'=>∃k,TruV X.K x H' k/\Q k H'):=by
 intro pins s σ H Q I h;exact isTrue_plain (thn (ha pins s σ H _ I h) fun v s1 ⟨x,H1,I1,r1,q1⟩=>tru_ok pins s1 σ H1 x v Q I1 r1 q1) (he _)
theorem op_add_str:OpR X (Fe .Add) (fun x y H Q=>∃i j,x=.str i/\y=.str j/\i.length+j.length<=sizeLine/\Q (.str (i++j)) H):=by
 intro pins s σ H x y v u Q I rx ry h;obtain⟨i,j,rfl,rfl,hz,q⟩:=h;obtain⟨t,rfl⟩:=rx;obtain⟨t',rfl⟩:=ry;exact add_str (fun t' tk=>⟨.str (i++j),H,I.tok _,⟨_,rfl⟩,q⟩) hz
theorem vals1(r:Vals [x] us):∃u,us=[u]/\RelV x u:=by
 cases r with
 |cons r1 r2=>cases r2;exact⟨_,rfl,r1⟩
theorem vals2(r:Vals [x,y] us):∃u w',us=[u,w']/\RelV x u/\RelV y w':=by
 cases r with
 |cons r1 r2 =>
  cases r2 with
  |cons r3 r4=>cases r4;exact⟨_,_,rfl,r1,r3⟩
theorem q6w(hc:X.calm=true):CallR X (.builtin "max") (fun xs H Q=>∃i j,xs=[.int i,.int j]/\Q (.int (if j>i then j else i)) H):=by
 intro pins s σ H xs us Q I r h;obtain⟨i,j,rfl,q⟩:=h;obtain⟨u,w',rfl,⟨t,rfl⟩,⟨t',rfl⟩⟩:=vals2 r;refine max_two_ints (I.ok.hd hc) fun h' tk k=>⟨_,H,I.kept k,?_,q⟩
 by_cases hj:j>i
 ·rw[if_pos hj,if_pos hj];exact⟨_,rfl⟩
 ·rw[if_neg hj,if_neg hj];exact⟨_,rfl⟩
theorem q6x(hc:X.calm=true):CallR X (.builtin "min") (fun xs H Q=>∃i j,xs=[.int i,.int j]/\Q (.int (if j<i then j else i)) H):=by
 intro pins s σ H xs us Q I r h;obtain⟨i,j,rfl,q⟩:=h;obtain⟨u,w',rfl,⟨t,rfl⟩,⟨t',rfl⟩⟩:=vals2 r;refine min_two_ints (I.ok.hd hc) fun h' tk k=>⟨_,H,I.kept k,?_,q⟩
 by_cases hj:j<i
 ·rw[if_pos hj,if_pos hj];exact⟨_,rfl⟩
 ·rw[if_neg hj,if_neg hj];exact⟨_,rfl⟩
def LenV(K:Ah)(x:V)(H:Hp)(n:Nat):Prop :=
 match x with
 |.str y=>y.length<=sizeLine/\n=y.length
 |.byt y=>y.size<=sizeLine/\n=y.size
 |.ref p=>(∃xs,SqL K H p xs/\n=xs.length)\/∃xs,SqT K H p xs/\n=xs.length
 |_=>False
theorem x0e:CallR X (.builtin "len") (fun xs H Q=>∃x n,xs=[x]/\LenV X.K x H n/\Q (.int n) H):=by
 intro pins s σ H xs us Q I r h;obtain⟨x,n,rfl,e,q⟩:=h;obtain⟨u,rfl,rx⟩:=vals1 r;have hs:=Er;cases x with
 |str y =>
  obtain⟨t,rfl⟩:=rx;obtain⟨hy,e'⟩:y.length<=sizeLine/\n=y.length:=e;subst e';exact len_str (by lia) ⟨.int _,H,I.tok _,⟨_,rfl⟩,q⟩
 |byt y =>
  obtain⟨t,rfl⟩:=rx;obtain⟨hy,e'⟩:y.size<=sizeLine/\n=y.size:=e;subst e';exact W.len_bytes (by lia) ⟨.int _,H,I.tok _,⟨_,rfl⟩,q⟩
 |ref p =>
  cases rx;have e':=e;rcases e' with⟨xs,hx,e'⟩|⟨xs,hx,e'⟩
  ·subst e';obtain⟨its,r',pl,hz⟩:=I.list hx;have hlen:=r'.length;exact Calls.call_len_list pl.isList (by simp only[Av];lia) ⟨.int xs.length,H,I.tok _,⟨_,by simp only[Av];rw[hlen]⟩,q⟩
  ·subst e';obtain⟨its,r',pl,hz⟩:=I.tuple hx;have hlen:=r'.length;exact len_tuple pl (by simp only[Av];lia) ⟨.int xs.length,H,I.tok _,⟨_,by simp only[Av];rw[hlen]⟩,q⟩
 |_=>exact(show False from e).elim
end
open PySem PySem.Spec PyProof.Rows
structure ObjM (h:Heap) (x dx C:Addr) (mA:Str->Option Value):Prop where
 obj:h.get? x=some (Jv C dx)
 ns:h.Ns1 dx mA
 ne:dx≠x
theorem z0j{h:Heap}(n:h.Ns1 dx mA):∃od,h.get? dx=some od/\∀name,Td name od=some (mA name):=by
 obtain⟨o,es,ep,ho,hd,hk,_,hm⟩:=n;refine⟨o,ho,fun name=>?_⟩;have e:=hm name;unfold nsFind findBy at e;rw[<- Rr] at e;unfold Td;rw[hd];dsimp only;split
 ·grind
 ·rename_i q;rw[q] at e;have a:es.toList.any (·.refKey)=false:=by
   rw[Sn];intro y hy;obtain⟨z,t,hkey⟩:=hk y (Qo.mp hy);simp[Iv.refKey,hkey]
  have a':¬es.toList.any (·.refKey)=true:=by grind
  rw[if_neg a'];exact congrArg some e
theorem ObjM.look(I:ObjM h x dx C mA):∃od,Oh h x (Jv C dx) C (some od)/\∀name,Td name od=some (mA name) :=
 let ⟨od,ho,hl⟩:=z0j I.ns
 ⟨od,⟨I.obj,rfl,rfl,ho⟩,hl⟩
section
variable{prog:Program}{w:World}{A:Around}{E:Value->Af->Prop}{s:Af}{K:Ah}{x dx C f:Addr}{mA:Str->Option Value}{name:Str}{v:Value}
theorem x3g(X:K.In s.heap)(I:ObjM s.heap x dx C mA)(hg:Ma K C name=true)(hh:Jk K C=true)(ha:Cd K (.ref C) name=some none)(hv:mA name=some v)(hv':Tw v=true)(h:Q v { s with toks:=s.toks+1 }):
  wpAny (model prog w) A (Uj (.ref x) name expr) Q E s:=by
 obtain⟨od,J,hl⟩:=I.look;exact W.get_value X J (Qx hg).1 (W.findObj_own hh ha rfl (by rw[hl,hv])) hv' h
theorem x0f(X:K.In s.heap)(I:ObjM s.heap x dx C mA)(hg:Ma K C name=true)(hf:Cd K (.ref C) name=some (some (.ref f)))(ht:Rt K (.ref f)=true)(hv:mA name=none)(h:Q (.ref f,[.ref x]) s):
  wpAny (model prog w) A (Nb (.ref x) name pl) Q E s:=by
 obtain⟨od,J,hl⟩:=I.look;exact W.method_fn X J (Qx hg).1 (Qx hg).2 hf (beq_iff_eq.mp ht) (by show(Td name od).map (·.isSome)=some false;rw[hl,hv];rfl) h
theorem x3h(X:K.In s.heap)(I:ObjM s.heap x dx C mA)(hs:Cd K (.ref C) "__setattr__" = some (some (.builtin "object.__setattr__")))(hp:Pj K C=true)(ht:Ul K C name=some none)(hh:Jk K C=true)(hw:Lw mA ns)(hsz:ns.length<=sizeLine)(h:∀h',ObjM h' x dx C (fun y=>if y=name then some v else mA y)->Ep dx s.heap h'->Q () { s with heap:=h',toks:=s.toks+2 }):
  wpAny (model prog w) A (setAttr (.ref x) name v) Q E s:=by
 obtain⟨od,J,hl⟩:=I.look;refine W.set_plain X J hs (W.osa_open X J hp ht fun b=>?_);obtain⟨cd,hc,hd'⟩:=W.any_some hh;have hx:=I.obj;refine Ab (Ae (Ab (Ab (wpAny_loadPart hx (Ab (W.Looks.here (W.looks_clsIn X hc) ?_))))));rw[hd'];refine Ae (Ab (Ae (Ab ?_)));refine wpAny_nsSet1 I.ns fun h' hn2 hs2=>?_
 obtain⟨oD,esD,epD,hoD,hdD,hcD⟩:=hn2.count (Lw.cons name v hw);refine Ab (wpAny_lookBehind hoD (by rw[hdD];exact pastItsLine_dict (Cn hcD (by rw[Bm];lia))) ?_);exact Ae (h _ ⟨(hs2.2 _ (Cv I.ne)).trans I.obj,hn2,I.ne⟩ hs2)
theorem x0g(X:K.In s.heap)(hm:Ru K C=true)(hi:Cd K (.ref C) "__init__" = some (some (.ref f)))(hf:W.typeIn K (.ref f)=some (.type "function"))(h:Fv (model prog w) (A.under (.builtin "type.__call__" ⟨.ref C::vs,kw⟩)) (.call (.ref f) ⟨.ref (s.heap.objs.size+1)::vs,kw⟩) (W.InitBack (s.heap.objs.size+1) R)
   { s with heap:=(s.heap.push Hc).push (Jv C s.heap.objs.size) }):
  Fv (model prog w) A (.call (.ref C) ⟨vs,kw⟩) R s:=by
 exact W.make_core (W.makes_of X hm) (Kk X hi) (fun self=>W.bind_fn X self hf) (.inl rfl) h
end
def putF(f:Str)(v:V):List (Str×V)->List (Str×V)
 |[]=>[(f,v)]
 |(g,x)::r=>if g=f then(g,v)::r else(g,x)::putF f v r
theorem q6y(f g:Str)(v:V):∀fs:List (Str×V),(putF f v fs).lookup g=if g=f then some v else fs.lookup g
 |[]=>by
  show List.lookup g [(f,v)]=_;by_cases h:g=f
  ·have hb:(g==f)=true:=beq_iff_eq.mpr h;simp only[List.lookup,hb,if_pos h]
  ·simp_all
 |(k,x)::r=>by
  have ih:=q6y f g v r;rw[show putF f v ((k,x)::r)=(if k=f then(k,v)::r else(k,x)::putF f v r) from rfl];by_cases hk:k=f
  ·rw[if_pos hk];by_cases h:g=k
   ·simp_all
   ·have hb:(g==k)=false:=beq_eq_false_iff_ne.mpr h;simp only[List.lookup,hb,if_neg (fun e:g=f=>h (e.trans hk.symm))]
  ·rw[if_neg hk];by_cases h:g=k
   ·simp_all
   ·have hb:(g==k)=false:=beq_eq_false_iff_ne.mpr h;simp only[List.lookup,hb];exact ih
theorem q6z(f:Str)(v:V):∀fs:List (Str×V),f∈(putF f v fs).map (·.1)/\∀g,g∈fs.map (·.1)->g∈(putF f v fs).map (·.1)
 |[]=>⟨by simp[putF],fun g h=>by simp at h⟩
 |(k,x)::r=>by
  obtain⟨i1,i2⟩:=q6z f v r;rw[show putF f v ((k,x)::r)=(if k=f then(k,v)::r else(k,x)::putF f v r) from rfl];by_cases hk:k=f
  ·grind
  ·grind
theorem q7a(f:Str)(v:V):∀fs:List (Str×V),(putF f v fs).length<=fs.length+1
 |[]=>by simp[putF]
 |(k,x)::r=>by
  have ih:=q7a f v r;rw[show putF f v ((k,x)::r)=(if k=f then(k,v)::r else(k,x)::putF f v r) from rfl];by_cases hk:k=f
  ·grind
  ·grind
theorem RelO.some_of(r:RelO (some v) o):∃u,o=some u/\RelV v u:=by
 cases o with
 |none=>exact(show False from r).elim
 |some u=>exact⟨u,rfl,r⟩
theorem RelO.none_of(r:RelO none o):o=none:=by
 cases o with
 |none=>rfl
 |some u=>exact(show False from r).elim
theorem z0k(r:RelV v u):Tw u=true:=by
 cases v with
 |non=>cases(show u=Value.none from r);rfl
 |bl b=>cases(show u=Value.bool b from r);rfl
 |int i=>obtain⟨t,e⟩:=(show ∃t,u=Value.int i t from r);cases e;rfl
 |str x=>obtain⟨t,e⟩:=(show ∃t,u=Value.str x t from r);cases e;rfl
 |byt b=>obtain⟨t,e⟩:=(show ∃t,u=Value.bytes b t from r);cases e;rfl
 |flt b=>obtain⟨t,e⟩:=(show ∃t,u=Value.float b t from r);cases e;rfl
 |ref a=>cases(show u=Value.ref a from r);rfl
 |ty n=>cases(show u=Value.type n from r);rfl
section
variable{P:Program}{w:World}{H H':Hp}{h h':Heap}{a C dx:Addr}{fs fs':List (Str×V)}
theorem q9e(hok:HOk P w H h)(e:H a=some (.ins C dx fs)):∃mA,ObjM h a dx C mA/\(∀f,RelO (fs.lookup f) (mA f))/\Lw mA (fs.map (·.1))/\fs.length<=1000/\H dx=some (.own a):=by
 obtain⟨d,z,ne,ob,mA,n,r,q⟩:=(show ObjOk P w H h a (.ins C dx fs) from hok a _ e)
 exact⟨mA,⟨ob,n,ne⟩,r,q,z,d⟩
end
structure Cls (K:Ah) (C:Addr):Prop where
 pg:Ma K C Hd=true
 hd:Jk K C=true
 po:Pj K C=true
 sa:Cd K (.ref C) "__setattr__" = some (some (.builtin "object.__setattr__"))
theorem Cls.get{K:Ah}(c:Cls K C)(f:Str):Ma K C f=true:=c.pg
def NoAttr(K:Ah)(C:Addr)(f:Str):Prop:=Cd K (.ref C) f=some none
theorem NoAttr.taker{K:Ah}(n:NoAttr K C f):Ul K C f=some none:=by
 unfold Ul;rw[show Cd K (.ref C) f=some none from n];rfl
structure Meth (K:Ah) (C:Addr) (m:Str) (f:Addr):Prop where
 at_:Cd K (.ref C) m=some (some (.ref f))
 fn:Rt K (.ref f)=true
 kp:Ew K (.ref f)=true
section
variable{X:Cx}{pins:List (Addr×Obj)}{σ:St}{H:Hp}{s:Af}{a C dx:Addr}{fs:List (Str×V)}{f:Str}{v:V}{A:Around}{E:Value->Af->Prop}
theorem q8m(I:Inv X pins σ H s)(e:H a=some (.ins C dx fs))(c:Cls X.K C)(n:NoAttr X.K C f)(l:fs.lookup f=some v)(h:∀u s',Inv X pins σ H s'->RelV v u->Q u s'):wpAny (model X.prog X.w) A (Uj (.ref a) f b) Q E s:=by
 obtain⟨mA,O,r,_,_,_⟩:=q9e I.hok e;obtain⟨u,hu,ru⟩:=RelO.some_of (by rw[<- l];exact r f);exact x3g I.kIn O (c.get f) c.hd n hu (z0k ru) (h u _ (I.tok _) ru)
theorem q8n(I:Inv X pins σ H s)(e:H a=some (.ins C dx fs))(c:Cls X.K C)(k:Meth X.K C m g)(l:fs.lookup m=none)(h:Q (.ref g,[.ref a]) s):wpAny (model X.prog X.w) A (Nb (.ref a) m pl) Q E s:=by
 obtain⟨mA,O,r,_,_,_⟩:=q9e I.hok e;have hn:=RelO.none_of (by rw[<- l];exact r m);exact x0f I.kIn O (c.get m) k.at_ k.fn hn h
theorem q8o(I:Inv X pins σ H s)(e:H a=some (.ins C dx fs))(c:Cls X.K C)(n:NoAttr X.K C f)(hl:fs.length<1000)(ry:RelV y u)(h:∀s',Inv X pins σ (upd H a (.ins C dx (putF f y fs))) s'->Q () s'):wpAny (model X.prog X.w) A (setAttr (.ref a) f u) Q E s:=by
 obtain⟨mA,O,r,wi,_,ho⟩:=q9e I.hok e;have hz:(fs.map (·.1)).length<=sizeLine:=by rw[Ac,Er];lia
 refine x3h I.kIn O c.sa c.po n.taker c.hd wi hz fun h' O' sb=>h _ ?_;have hd:∃o,h'.get? dx=some o:=let ⟨o,_,_,e',_⟩:=O'.ns;⟨o,e'⟩;refine I.write (by rw[e];exact True.intro) (.inr ho) (fun b q hb z=>(sb.2 b hb).trans z) hd ?_;refine⟨by rw[q0e O.ne];exact ho,?_,O.ne,O'.obj,_,O'.ns,fun g=>?_,fun g hg=>?_⟩
 ·have:=q7a f y fs;lia
 ·show RelO ((putF f y fs).lookup g) (if g=f then some u else mA g);rw[q6y];by_cases q:g=f
  ·rw[if_pos q,if_pos q];exact ry
  ·grind
 ·by_cases q:g=f
  ·rw[q];exact(q6z f y fs).1
  ·refine(q6z f y fs).2 g (wi g fun z=>hg ?_);show(if g=f then some u else mA g)=none;rw[if_neg q];exact z
theorem Inv.made(I:Inv X pins σ H s):Inv X pins σ (upd (upd H s.heap.objs.size (.own (s.heap.objs.size+1))) (s.heap.objs.size+1) (.ins C s.heap.objs.size []))
  { s with heap:=(s.heap.push Hc).push (Jv C s.heap.objs.size) }:=by
 have e1:(s.heap.push Hc).get? s.heap.objs.size=some Hc:=Ar s.heap rfl;have e2:((s.heap.push Hc).push (Jv C s.heap.objs.size)).get? (s.heap.objs.size+1)=some (Jv C s.heap.objs.size):=by
  have:=Ar (s.heap.push Hc) (o:=Jv C s.heap.objs.size) rfl
  rwa [He] at this
 have e3:(s.heap.push Hc).Ns s.heap.objs.size (fun _=>none):=⟨Hc,#[],_,e1,rfl,(fun e he=>absurd he (by simp)),fun _=>rfl⟩
 have I1:=I.laid (o:=.own (s.heap.objs.size+1)) (h':=s.heap.push Hc) (t':=s.toks) (fun b u q=>Ag _ q) (Aj _) ⟨_,e1⟩;refine I1.laid (t':=s.toks) (fun b u q=>Ag _ q) (Jw (He _ _)) ?_;have ne:s.heap.objs.size≠s.heap.objs.size+1:=Bc (Hi _);refine⟨by rw[q0e ne,q0b],Br _,ne,e2,fun _=>none,(Heap.Ns1.of_empty e3).at fun o q=>Ag _ q,fun _=>True.intro,fun y hy=>absurd rfl hy⟩
theorem z6j(hb:Fo e f env (eval e env)=eval e env)(h:wpAny (model prog w) A (eval e env) (fun o s₁=>wpAny (model prog w) A (Uj o f true) Q E s₁) E s):wpAny (model prog w) A (eval (.Attribute e f pos) env) Q E s :=
 Attribute_any_ h (by rw[arm_eval_Attribute,hb])
end
def tFld(K:Ah)(ta:TE)(f:Str):TE:=fun σ H Q=>ta σ H fun x H1=>∃a C dx fs v,x=.ref a/\H1 a=some (.ins C dx fs)/\Cls K C/\NoAttr K C f/\fs.lookup f=some v/\Q v H1
def sFld(K:Ah)(ta tv:TE)(f:Str):TS:=fun D σ H=>tv σ H fun y H1=>ta σ H1 fun x H2=>∃a C dx fs,x=.ref a/\H2 a=some (.ins C dx fs)/\Cls K C/\NoAttr K C f/\fs.length<1000 /\
 D.nx σ (upd H2 a (.ins C dx (putF f y fs)))
def InOp(X:Cx)(op:Operator)(rd:V->V->Hp->VK->Prop):Prop :=
 ∀(pins:List (Addr×Obj)) (s:Af) (σ:St) (H:Hp) (x y:V) (u v:Value) (Q:VK),Inv X pins σ H s->RelV x u->RelV y v->rd x y H Q->wpAny (model X.prog X.w) X.A (inplaceOp op u v) (EP X pins σ Q) X.xe s
def sFldAug(K:Ah)(ta tv:TE)(rd:V->V->Hp->VK->Prop)(f:Str):TS:=fun D σ H=>ta σ H fun x H1=>∃a C dx fs v,x=.ref a/\H1 a=some (.ins C dx fs)/\Cls K C/\NoAttr K C f/\fs.lookup f=some v /\
 tv σ H1 fun y H2=>rd v y H2 fun z H3=>∃dx' fs',H3 a=some (.ins C dx' fs')/\fs'.length<1000/\D.nx σ (upd H3 a (.ins C dx' (putF f z fs')))
section
variable{X:Cx}{o e value:Expr}{f:Str}{pos pos' tpos:Pos}{ta tv:TE}
theorem pe_fld(he:PE X e ta)(hb:Fo e f X.env (eval e X.env)=eval e X.env):PE X (.Attribute e f pos) (tFld X.K ta f):=by
 intro pins s σ H Q I h;refine z6j hb (thn (he pins s σ H _ I h) fun u s1 ⟨x,H1,I1,rx,a,C,dx,fs,v,ex,ea,c,n,l,q⟩=>?_);subst ex;obtain rfl:u=Value.ref a:=rx;exact q8m I1 ea c n l fun u' s2 I2 ru=>⟨v,H1,I2,ru,q⟩
theorem ps_fld(ha:PE X o ta)(hv:PE X value tv)(hs:Lp value (some (.Attribute o f pos')) pos.line X.env=pure false):PS X (.Assign [.Attribute o f pos'] value pos) (sFld X.K ta tv f):=by
 intro pins s σ H D I h;refine plainObj_wpAny_Assign_Attribute (thn (hv pins s σ H _ I h) fun u s1 ⟨y,H1,I1,ry,q⟩=>thn (ha pins s1 σ H1 _ I1 q) fun ov s2 ⟨x,H2,I2,rx,a,C,dx,fs,ex,ea,c,n,l,q2⟩=>?_) hs;subst ex;obtain rfl:ov=Value.ref a:=rx;exact q8o I2 ea c n l ry fun s3 I3=>⟨σ,_,I3,q2⟩
theorem z6k(ha:PE X o ta)(hv:PE X value tv)(hop:InOp X op rd):PS X (.AugAssign (.Attribute o f tpos) op value pos) (sFldAug X.K ta tv rd f):=by
 intro pins s σ H D I h;refine wpAny_AugAssign_AttributeAny (thn (ha pins s σ H _ I h) fun ov s1 ⟨x,H1,I1,rx,a,C,dx,fs,v,ex,ea,c,n,l,q⟩=>?_);subst ex;obtain rfl:ov=Value.ref a:=rx;refine q8m I1 ea c n l fun u s2 I2 ru=>thn (hv pins s2 σ H1 _ I2 q) fun w3 s3 ⟨y,H2,I3,ry,q3⟩=>thn (hop pins s3 σ H2 v y u w3 _ I3 ru ry q3) fun w4 s4 ⟨z,H3,I4,rz,dx',fs',ea',l',q4⟩=>?_;exact q8o I4 ea' c n l' rz fun s5 I5=>⟨σ,_,I5,q4⟩
def rAdd:V->V->Hp->VK->Prop:=fun x y H Q=>∃i j,x=.int i/\y=.int j/\Q (.int (i+j)) H
theorem in_add:InOp X .Add rAdd:=by
 rintro pins s σ H x y u v Q I rx ry ⟨i,j,rfl,rfl,q⟩;obtain⟨t,rfl⟩:=(show ∃t,u=Value.int i t from rx)
 obtain⟨t',rfl⟩:=(show ∃t',v=Value.int j t' from ry)
 exact PyProof.Rows.iadd_int ⟨.int (i+j),H,I.tok _,⟨_,rfl⟩,q⟩
end
section
variable{X:Cx}{pins:List (Addr×Obj)}{σ:St}{H:Hp}{s:Af}{A:Around}{E:Value->Af->Prop}{Q:Value->Af->Prop}{c:Value}{b:Bool}
inductive TyOf (K:Ah) (H:Hp):V->Value->Prop where
 |non:TyOf K H .non (.type "NoneType")
 |bl (x:Bool):TyOf K H (.bl x) (.type "bool")
 |int (i:Int):TyOf K H (.int i) (.type "int")
 |str (x:Str):TyOf K H (.str x) (.type "str")
 |flt (x:UInt64):TyOf K H (.flt x) (.type "float")
 |lst {a:Addr} {xs:List V} (e:H a=some (.lst xs)):TyOf K H (.ref a) (.type "list")
 |frz {a:Addr} {o:Obj} {xs:List V} (e:H a=some (.frz o (.lst xs))):TyOf K H (.ref a) (.type "list")
 |tup {a:Addr} {xs:List V} (e:H a=some (.tup xs)):TyOf K H (.ref a) (.type "tuple")
 |dK {a:Addr} {kvs:List (Key×V)} (e:H a=some (.dK kvs)):TyOf K H (.ref a) (.type "dict")
 |dT {a:Addr} {kvs:List (List Key×V)} (e:H a=some (.dT kvs)):TyOf K H (.ref a) (.type "dict")
 |ins {a C dx:Addr} {fs:List (Str×V)} (e:H a=some (.ins C dx fs)) (cl:Cls K C) (ha:Cd K (.ref C) "__class__" = some (some (.builtin "object.__class__")))
   (hn:Kz K (.builtin "object.__class__") "__get__" = some (some (.builtin "getset_descriptor.__get__"))) (htk:Rx K (.builtin "object.__class__")=some true)
   (hm:Sk K C (.type "object")=some true):TyOf K H (.ref a) (.ref C)
theorem z6l(I:Inv X pins σ H s)(rx:RelV x u)(ty:TyOf X.K H x t)(e:Ff X.K t c=some b)(h:∀tk,Q (.bool b) { s with toks:=tk }):
  wpAny (model X.prog X.w) A (call (.builtin "isinstance") [u,c]) Q E s:=by
 cases ty with
 |non=>cases(show u=Value.none from rx);exact Fp W.kitx_none I.kIn True.intro e (fun z=>nomatch z) h
 |bl y=>cases(show u=Value.bool y from rx);exact Fp W.kitx_bool I.kIn True.intro e (fun z=>nomatch z) h
 |int i=>obtain⟨t,q⟩:=(show ∃t,u=Value.int i t from rx);cases q;exact Fp W.kitx_int I.kIn True.intro e (fun z=>nomatch z) h
 |str y=>obtain⟨t,q⟩:=(show ∃t,u=Value.str y t from rx);cases q;exact Fp W.kitx_str I.kIn True.intro e (fun z=>nomatch z) h
 |flt y=>obtain⟨t,q⟩:=(show ∃t,u=Value.float y t from rx);cases q;exact Fp W.kitx_float I.kIn True.intro e (fun z=>nomatch z) h
 | @lst a xs ea =>
  cases(show u=Value.ref a from rx);obtain⟨_,_,n,_,h1⟩:=(show ObjOk X.prog X.w H s.heap a (.lst xs) from I.hok a _ ea)
  exact Fp W.kitx_list I.kIn ⟨_,h1,rfl⟩ e (fun z=>nomatch z) h
 | @frz a ob xs ea =>
  cases(show u=Value.ref a from rx);obtain⟨_,_,_,n,_,h1⟩:=(show ObjOk X.prog X.w H s.heap a (.frz ob (.lst xs)) from I.hok a _ ea)
  exact Fp W.kitx_list I.kIn ⟨_,h1,rfl⟩ e (fun z=>nomatch z) h
 | @tup a xs ea =>
  cases(show u=Value.ref a from rx);obtain⟨_,_,_,p⟩:=(show ObjOk X.prog X.w H s.heap a (.tup xs) from I.hok a _ ea)
  obtain⟨o,h1,h2,_⟩:=p;exact Fp W.kitx_tuple I.kIn ⟨o,h1,h2⟩ e (fun z=>nomatch z) h
 | @dK a kvs ea =>
  cases(show u=Value.ref a from rx);obtain⟨_,_,vs,_,p⟩:=(show ObjOk X.prog X.w H s.heap a (.dK kvs) from I.hok a _ ea)
  obtain⟨o,es,ep,h1,h2,_⟩:=p;exact Fp W.kitx_dict I.kIn ⟨o,h1,h2.1⟩ e (fun z=>nomatch z) h
 | @dT a kvs ea =>
  cases(show u=Value.ref a from rx);obtain⟨_,_,xs,_,o,es,ep,h1,h2,_⟩:=(show ObjOk X.prog X.w H s.heap a (.dT kvs) from I.hok a _ ea)
  exact Fp W.kitx_dict I.kIn ⟨o,h1,h2.1⟩ e (fun z=>nomatch z) h
 | @ins a C dx fs ea cl ha hn htk hm =>
  cases(show u=Value.ref a from rx);obtain⟨mA,O,_⟩:=q9e I.hok ea;obtain⟨od,J,_⟩:=O.look;exact Fp (W.kitx_own (cl.get _) cl.hd ha hn htk hm) I.kIn J e (fun z=>nomatch z) h
end
open PySem PySem.Spec PyProof.Rows
structure Room (k:Nat) (A:Around):Prop where
 hd:A.handled=none
 dp:A.depth+3*k+5<recursionLimit
 un:A.units+16*k+200<cLine
 gd:A.guards=some []
theorem Room.mono(r:Room k A)(h:j<=k):Room j A:=⟨r.hd,by have:=r.dp;lia,by have:=r.un;lia,r.gd⟩
theorem Room.deeper(r:Room (k+1) A)(env:Env):Room k (A.deeper env) :=
 ⟨r.hd,by have:=r.dp;show A.depth+1+3*k+5<_;lia,by have:=r.un;show A.units+3+16*k+200<_;lia,r.gd⟩
theorem Room.in1(r:Room (k+1) A):Room k A.in1 :=
 ⟨r.hd,by have:=r.dp;show A.depth+3*k+5<_;lia,by have:=r.un;show A.units+1+16*k+200<_;lia,r.gd⟩
theorem z4x{A:Around}:(A.under (.builtin "type.__call__" ⟨.ref C::us,kw⟩)).depth=A.depth+1:=by
 first|rfl|simp[Oi,Code.weight,Code.isCreation,Code.isGuard,Code.isCaller,Code.frames,Ry,guardIds]
theorem z4y{A:Around}:(A.under (.builtin "type.__call__" ⟨.ref C::us,kw⟩)).units=A.units+1:=by
 first|rfl|simp[Oi,Code.cUnits,Code.frames,Ry]
theorem make_guards{A:Around}:(A.under (.builtin "type.__call__" ⟨.ref C::us,kw⟩)).guards=A.guards:=by
 have:(Code.builtin "type.__call__" ⟨.ref C::us,kw⟩).guards=[]:=by simp[Code.guards,Code.isGuard,guardIds]
 unfold Oi;rw[this];cases e:A.guards<;>simp[pushGuards,e]
theorem Room.make(r:Room (k+1) A)(C:Addr)(us:List Value)(kw:List (Str×Value)):Room k (A.under (.builtin "type.__call__" ⟨.ref C::us,kw⟩)) :=
 ⟨r.hd,by have:=r.dp;rw[z4x];lia,by have:=r.un;rw[z4y];lia,make_guards.trans r.gd⟩
theorem Room.depth(r:Room k A):A.depth<recursionLimit:=by have:=r.dp;lia
theorem Room.units(r:Room k A):A.units+64<cLine:=by have:=r.un;lia
def tNil:TA:=fun _ H Q=>Q [] H
def tCons(ta:TE)(tr:TA):TA:=fun σ H Q=>ta σ H fun x H1=>tr σ H1 fun xs H2=>Q (x::xs) H2
section
variable{X:Cx}{e:Expr}{es:List Expr}{te:TE}{t:TA}{pos:Pos}
theorem q0c:PA X [] tNil:=fun _ _ _ _ H Q I h=>So ⟨[],H,I,.nil,h⟩
theorem q0a(ha:PE X e te)(hr:PA X es t)(hs:Be (e::es) X.env=(false,eval e X.env)::Be es X.env:=by rfl):PA X (e::es) (tCons te t):=by
 intro pos pins s σ H Q I h;rw[hs];refine Nc (thn (ha pins s σ H _ I h) fun u s1 ⟨x,H1,I1,r1,q1⟩=>?_);exact thn (hr pos pins s1 σ H1 _ I1 q1) fun us s2 ⟨xs,H2,I2,r2,q2⟩=>⟨x::xs,H2,I2,.cons r1 r2,q2⟩
def tTup(t:TA):TE:=fun σ H Q=>t σ H fun xs H1=>xs.length<=sizeLine/\∀p,H1 p=none->Q (.ref p) (upd H1 p (.tup xs))
def tLst(t:TA):TE:=fun σ H Q=>t σ H fun xs H1=>xs.length<=sizeLine/\∀p,H1 p=none->Q (.ref p) (upd H1 p (.lst xs))
theorem q0z{x1}(h:PA X es t):PE X (.Tuple es x1 pos) (tTup t):=by
 intro pins s σ H Q I hq;refine wpAny_Tuple_spliced (thn (h pos pins s σ H _ I hq) fun us s1 ⟨xs,H1,I1,r,z,q⟩=>⟨by rw[<- r.length];exact z,?_⟩);have hf:=I1.hok.fresh (Aj _);refine⟨.ref s1.heap.objs.size,upd H1 s1.heap.objs.size (.tup xs),I1.laid (t':=s1.toks) (fun b u e=>Ag _ e) (Aj _) ?_,rfl,q _ hf⟩;exact⟨z,us,r,⟨_,Ar _ rfl,rfl,_,rfl⟩⟩
theorem q2l(h:PA X es t):PE X (.List es pos) (tLst t):=by
 intro pins s σ H Q I hq;refine wpAny_List_spliced (thn (h pos pins s σ H _ I hq) fun us s1 ⟨xs,H1,I1,r,z,q⟩=>⟨by rw[<- r.length];exact z,?_⟩);have hf:=I1.hok.fresh (Aj _);refine⟨.ref s1.heap.objs.size,upd H1 s1.heap.objs.size (.lst xs),I1.laid (t':=s1.toks) (fun b u e=>Ag _ e) (Aj _) ?_,rfl,q _ hf⟩;exact⟨z,us,0,r,Ar _ rfl⟩
end
abbrev Sp:=List V->Hp->VK->XK->Prop
abbrev CXT:=List Env->Hp->Af->XK->Value->Af->Prop
structure Env0 (P:Program) (w:World) (K:Ah) (mg:Str->Option Value) (base:Heap) (A:Around) (outer:List Env) (s:Af) (H:Hp):Prop where
 frames:A.frames=some outer
 mod:Mod K mg base
 bs:∀b o,base.get? b=some o->s.heap.get? b=some o/\H b=none
 bsz:base.objs.size<=s.heap.objs.size
 funs:s.heap.FunFrames base outer
 frf:∀b∈frs outer,H b=none
 hok:HOk P w H s.heap
 bare:Kj s.gens
def CE(outer:List Env)(P:Program)(w:World)(H:Hp)(s:Af)(Q:VK)(u:Value)(s':Af):Prop :=
 ∃v H',s'.os=s.os/\Kj s'.gens/\Un (frs outer) [] H H' s.heap s'.heap/\HOk P w H' s'.heap/\RelV v u/\Q v H'
def CR(CX:CXT)(outer:List Env)(P:Program)(w:World)(H:Hp)(s:Af)(Q:VK)(E:XK)(r:Result)(s':Af):Prop :=
 match r with
 |.ok (.ret u)=>CE outer P w H s Q u s'
 |.ok _=>False
 |.error e=>CX outer H s E e s'
structure FnOk (P:Program) (w:World) (K:Ah) (mg:Str->Option Value) (base:Heap) (CX:CXT) (k:Nat) (f:Addr) (fd:Ja) (ps:List Str) (sp:Sp):Prop where
 len:∀vs H Q E,sp vs H Q E->vs.length=ps.length
 run:∀(A:Around) (outer:List Env) (s:Af) (H:Hp) (args:Args) (us:List Value) (vs:List V) (Q:VK) (E:XK),Room k A->Env0 P w K mg base A outer s H->Qa s fd args (ps.zip us)->Vals vs us->sp vs H Q E ->
  Fv (model P w) A (.call (.ref f) args) (CR CX outer P w H s Q E) s
theorem FnOk.mono{K:Ah}(F:FnOk P w K mg base CX j f fd ps sp)(h:j<=k):
  FnOk P w K mg base CX k f fd ps sp:=⟨F.len,fun A outer s H args us vs Q E hr=>F.run A outer s H args us vs Q E (hr.mono h)⟩
theorem FnOk.imp{K:Ah}(F:FnOk P w K mg base CX k f fd ps sp)(h:∀vs H Q E,sp' vs H Q E->sp vs H Q E):FnOk P w K mg base CX k f fd ps sp' :=
 ⟨fun vs H Q E q=>F.len vs H Q E (h _ _ _ _ q),fun A outer s H args us vs Q E hr he hb hv hs=>F.run A outer s H args us vs Q E hr he hb hv (h _ _ _ _ hs)⟩
theorem Env0.make{K:Ah}(e:Env0 P w K mg base A outer s H)(C:Addr)(us:List Value)(kw:List (Str×Value)):
  Env0 P w K mg base (A.under (.builtin "type.__call__" ⟨.ref C::us,kw⟩)) outer s H:=⟨by first|exact e.frames|(simpa[Oi,Code.envs,Ry,pushEnvs] using e.frames),e.mod,e.bs,e.bsz,e.funs,e.frf,e.hok,e.bare⟩
theorem Env0.in1{K:Ah}(e:Env0 P w K mg base A outer s H):
  Env0 P w K mg base A.in1 outer s H:=⟨e.frames,e.mod,e.bs,e.bsz,e.funs,e.frf,e.hok,e.bare⟩
section
variable{X:Cx}{pins:List (Addr×Obj)}{σ:St}{H:Hp}{s s':Af}
theorem Inv.env0(I:Inv X pins σ H s):Env0 X.prog X.w X.K X.mg X.base X.A X.stack s H :=
 ⟨I.ok.frames,I.ok.mod,I.bs,Cn I.ok.bsz I.sz,I.stack,I.stkFree,I.hok,I.bare⟩
theorem Inv.after(I:Inv X pins σ H s)(h:CE X.stack X.prog X.w H s Q u s'):EP X pins σ Q u s':=by
 obtain⟨v,H',os,bare,un,hok,r,q⟩:=h;obtain⟨hh,g,d,t,os'⟩:=s';obtain rfl:os'=s.os:=os;exact⟨v,H',I.call (h':=hh) (g':=g) (d':=d) (t':=t) un hok bare (fun b z=>absurd z (by simp)),r,q⟩
end
def tCall(sp:Sp)(dvs:List V)(E:XK)(t:TA):TE:=fun σ H Q=>t σ H fun vs H1=>sp (vs++dvs) H1 Q E
def tMeth(C:Addr)(m:Str)(sp:Sp)(dvs:List V)(E:XK)(ta:TE)(t:TA):TE:=fun σ H Q=>ta σ H fun x H1=>∃a dx fs,x=.ref a/\H1 a=some (.ins C dx fs)/\fs.lookup m=none /\
 t σ H1 fun vs H2=>sp (x::(vs++dvs)) H2 Q E
def tMake(C:Addr)(sp:Sp)(dvs:List V)(E:XK)(t:TA):TE:=fun σ H Q=>t σ H fun vs H1=>∀x dx,H1 x=none->H1 dx=none->dx≠x ->
 sp (.ref x::(vs++dvs)) (upd (upd H1 dx (.own x)) x (.ins C dx [])) (fun v H2=>v=.non/\Q (.ref x) H2) E
def Binds(K:Ah)(fd:Ja)(ps:List Str)(ds:List Value):Prop :=
 ∀(s:Af) (us:List Value),K.In s.heap->(us++ds).length=ps.length->Qa s fd ⟨us,[]⟩ (ps.zip (us++ds))
theorem Binds.all{K:Ah}(h:∀us:List Value,us.length=ps.length->bindArgs fd ⟨us,[]⟩=pure (ps.zip us)):Binds K fd ps []:=fun s us _ hl=>by
 rw[Bt] at hl ⊢;exact .of_eq (h us hl)
def Passes(CX:CXT)(X:Cx)(E:XK):Prop:=∀(pins:List (Addr×Obj)) (σ:St) (H:Hp) (s:Af) (e:Value) (s':Af),Inv X pins σ H s->CX X.stack H s E e s'->X.xe e s'
section
variable{X:Cx}{CX:CXT}{k:Nat}{f C:Addr}{fd:Ja}{ps:List Str}{sp:Sp}{dvs:List V}{ds:List Value}{E:XK}{x m:Str}{p pos apos:Pos}{e o:Expr}{es:List Expr}{ta:TE}{t:TA}
theorem z6m{σ:St}(F:FnOk X.prog X.w X.K X.mg X.base CX k f fd ps sp)(hr:Room k X.A)(hb:Binds X.K fd ps ds)(hd:Vals dvs ds)(hx:Passes CX X E)(I:Inv X pins σ H s)(r:Vals vs us)(h:sp (vs++dvs) H Q E):wpAny (model X.prog X.w) X.A (call (.ref f) us) (EP X pins σ Q) X.xe s:=by
 have r2:=r.append hd;have hl:(us++ds).length=ps.length:=by rw[<- r2.length];exact F.len _ _ _ _ h
 refine Hw (Hj (F.run X.A X.stack s H ⟨us,[]⟩ (us++ds) (vs++dvs) Q E hr I.env0 (hb s us I.kIn hl) r2 h) fun r s' hq=>?_);cases r with
 |error e=>exact hx pins σ H s e s' I hq
 |ok fl =>
  cases fl with
  |ret u=>exact I.after hq
  |next=>exact False.elim hq
  |brk=>exact False.elim hq
  |cont=>exact False.elim hq
theorem x3i(F:FnOk X.prog X.w X.K X.mg X.base CX k f fd ps sp)(hr:Room k X.A)(hg:Gl X x)(hm:X.mg x=some (.ref f))(hk:Ew X.K (.ref f)=true)(hb:Binds X.K fd ps ds)(hd:Vals dvs ds)(hx:Passes CX X E)(ha:PA X (e::es) t)(hdb:(x==("__debug__" : Str))=false:=by decide)(he:Be (e::es) X.env=(false,eval e X.env)::Be es X.env:=by rfl)(hpl:(Eh pos (Be es X.env)).any (·.1)=false:=by rfl):
  PE X (.Call (.Name x p) (e::es) [] pos) (tCall sp dvs E t):=by
 intro pins s σ H Q I h;refine Ge (q5o I hg hm ?_ hdb);refine Mb I.ok.mod.kin hk (thn (ha pos pins s σ H _ I h) fun us s1 ⟨vs,H1,I1,r,q⟩=>⟨I1.kIn,?_⟩) he hpl;exact z6m F hr hb hd hx I1 r q
theorem x3j{pl:Sem Bool}(he:PE X o ta)(c:Cls X.K C)(hm:Meth X.K C m f)(F:FnOk X.prog X.w X.K X.mg X.base CX k f fd ps sp)(hr:Room k X.A)(hb:Binds X.K fd ps ds)(hd:Vals dvs ds)(hx:Passes CX X E)(ha:PA X (e::es) t)(hst:Be (e::es) X.env=(false,eval e X.env)::Be es X.env:=by rfl)(hpl:(Eh pos (Be es X.env)).any (·.1)=false:=by rfl)(ht:eval (.Call (.Attribute o m apos) (e::es) [] pos) X.env=(do
   let ov<-eval o X.env
   Oc apos.atName
   let (f,first)<-Lq [ov] (Nb ov m pl)
   Te pos f first (Eh pos (Be (e::es) X.env)) (Mu pos (Jl [] X.env))):=by rfl):
  PE X (.Call (.Attribute o m apos) (e::es) [] pos) (tMeth C m sp dvs E ta t):=by
 intro pins s σ H Q I h;refine Tx (thn (he pins s σ H _ I h) fun u s1 ⟨x,H1,I1,rx,a,dx,fs,ex,ea,l,q⟩=>?_) ht;subst ex;obtain rfl:u=Value.ref a:=rx;refine q8n I1 ea c hm l ?_;refine Mb I.ok.mod.kin hm.kp (thn (ha pos pins s1 σ H1 _ I1 q) fun us s2 ⟨vs,H2,I2,r,q2⟩=>⟨I2.kIn,?_⟩) hst hpl;exact z6m (vs:=.ref a::vs) F hr hb hd hx I2 (.cons rfl r) q2
theorem x0h(he:PE X o ta)(c:Cls X.K C)(hm:Meth X.K C m f)(F:FnOk X.prog X.w X.K X.mg X.base CX k f fd ps sp)(hr:Room k X.A)(hb:Binds X.K fd ps ds)(hd:Vals dvs ds)(hx:Passes CX X E)(ht:eval (.Call (.Attribute o m apos) [] [] pos) X.env=(do
   let ov<-eval o X.env
   Oc apos.atName
   let (f,first)<-Lq [ov] (Nb ov m pl)
   Te pos f first (Eh pos (Be [] X.env)) (Mu pos (Jl [] X.env))):=by rfl):
  PE X (.Call (.Attribute o m apos) [] [] pos) (tMeth C m sp dvs E ta tNil):=by
 intro pins s σ H Q I h;refine Tx (thn (he pins s σ H _ I h) fun u s1 ⟨x,H1,I1,rx,a,dx,fs,ex,ea,l,q⟩=>?_) ht;subst ex;obtain rfl:u=Value.ref a:=rx;refine q8n I1 ea c hm l ?_;exact W.callWith_K0 I1.kIn hm.kp (z6m (vs:=[.ref a]) F hr hb hd hx I1 (.cons rfl .nil) q)
structure Mk (K:Ah) (C f:Addr):Prop where
 makes:Ru K C=true
 init:Cd K (.ref C) "__init__" = some (some (.ref f))
 fn:Rt K (.ref f)=true
 kp:Ew K (.ref C)=true
theorem x0i{σ:St}(M:Mk X.K C f)(F:FnOk X.prog X.w X.K X.mg X.base CX k f fd ps sp)(hr:Room (k+1) X.A)(hb:Binds X.K fd ps ds)(hd:Vals dvs ds)(hx:Passes CX X E)(I:Inv X pins σ H s)(r:Vals vs us)(h:∀x dx,H x=none->H dx=none->dx≠x->sp (.ref x::(vs++dvs)) (upd (upd H dx (.own x)) x (.ins C dx [])) (fun v H2=>v=.non/\Q (.ref x) H2) E):
  wpAny (model X.prog X.w) X.A (call (.ref C) us) (EP X pins σ Q) X.xe s:=by
 have hq:=h (s.heap.objs.size+1) s.heap.objs.size (I.hok.fresh (Ig _)) (I.hok.fresh (Aj _)) (Bc (Hi _));have I2:=Inv.made (C:=C) I;have r2:Vals (V.ref (s.heap.objs.size+1)::(vs++dvs)) (Value.ref (s.heap.objs.size+1)::(us++ds)):=.cons rfl (r.append hd);have hl:(Value.ref (s.heap.objs.size+1)::us++ds).length=ps.length:=by
  have e:=r2.length;rw[F.len _ _ _ _ hq] at e;exact e.symm
 refine Hw (x0g I.kIn M.makes M.init (beq_iff_eq.mp M.fn) (Hj (F.run _ X.stack _ _ ⟨Value.ref (s.heap.objs.size+1)::us,[]⟩ (Value.ref (s.heap.objs.size+1)::(us++ds)) _ _ E (hr.make C us [])
  (I2.env0.make C us []) (hb _ (Value.ref (s.heap.objs.size+1)::us) I2.kIn hl) r2 hq) fun r s' hq'=>?_))
 cases r with
 |error e=>exact hx pins σ _ _ e s' I2 hq'
 |ok fl =>
  cases fl with
  |ret u =>
   obtain⟨v,H',I3,rv,ev,q3⟩:=I2.after hq';subst ev;exact⟨rv,⟨V.ref (s.heap.objs.size+1),H',I3,rfl,q3⟩⟩
  |next=>exact False.elim hq'
  |brk=>exact False.elim hq'
  |cont=>exact False.elim hq'
theorem z6n(M:Mk X.K C f)(F:FnOk X.prog X.w X.K X.mg X.base CX k f fd ps sp)(hr:Room (k+1) X.A)(hg:Gl X x)(hm:X.mg x=some (.ref C))(hb:Binds X.K fd ps ds)(hd:Vals dvs ds)(hx:Passes CX X E)(ha:PA X (e::es) t)(hdb:(x==("__debug__" : Str))=false:=by decide)(he:Be (e::es) X.env=(false,eval e X.env)::Be es X.env:=by rfl)(hpl:(Eh pos (Be es X.env)).any (·.1)=false:=by rfl):
  PE X (.Call (.Name x p) (e::es) [] pos) (tMake C sp dvs E t):=by
 intro pins s σ H Q I h;refine Ge (q5o I hg hm ?_ hdb);refine Mb I.ok.mod.kin M.kp (thn (ha pos pins s σ H _ I h) fun us s1 ⟨vs,H1,I1,r,q⟩=>⟨I1.kIn,?_⟩) he hpl;exact x0i M F hr hb hd hx I1 r q
end
structure FnScope (N P:List Str) (sc:Scope):Prop where
 kind:sc.kind=.function
 co:sc.isCoroutine=false
 gen:sc.isGenerator=false
 nd:N.Nodup
 pre:N.take P.length=P
 par:∀x∈P,sc.names.lookup x=some .local\/sc.names.lookup x=some .cell
 nofree:∀y∈sc.names,y.2≠.free
theorem z0l{kindOf:Str->Option Bh}:∀{binds:List (Str×Value)} {m:Str->Option Value},(∀v,(x,v)∉binds)->bindL kindOf binds m x=m x
 |[],_,_=>rfl
 |(n,v)::r,m,h=>by
  unfold bindL;rw[z0l fun w hw=>h w (Ak _ hw)];split
  ·have:x≠n:=by rintro rfl;exact h v Ao
   simp[this]
  ·rfl
theorem z0m{kindOf:Str->Option Bh}:∀{binds:List (Str×Value)} {m:Str->Option Value},(∀v,(x,v)∉binds)->bindC kindOf binds m x=m x
 |[],_,_=>rfl
 |(n,v)::r,m,h=>by
  unfold bindC;rw[z0m fun w hw=>h w (Ak _ hw)];split
  ·rfl
  ·have:x≠n:=by rintro rfl;exact h v Ao
   simp[this]
theorem z0n{kindOf:Str->Option Bh}{x:Str}{v:Value}:∀{P:List Str} {vs:List Value} {i:Nat} {m:Str->Option Value},P.Nodup->P[i]?=some x->vs[i]?=some v->kindOf x=some .local ->
  bindL kindOf (P.zip vs) m x=some v
 |[],_,_,_,_,h,_,_=>by simp at h
 |_::_,[],_,_,_,_,h,_=>by simp at h
 |p::P,w::vs,0,m,nd,h1,h2,hk=>by
  simp at h1 h2;subst h1;subst h2;show bindL kindOf ((p,w)::P.zip vs) m p=_;unfold bindL;rw[z0l fun v hv=>(Dd.mp nd).1 (Pb hv).1,if_pos hk];simp
 |p::P,w::vs,i+1,m,nd,h1,h2,hk=>by
  show bindL kindOf ((p,w)::P.zip vs) m x=_;unfold bindL;exact z0n (i:=i) (Dd.mp nd).2 (by simpa using h1) (by simpa using h2) hk
theorem z0o{kindOf:Str->Option Bh}{x:Str}{v:Value}:∀{P:List Str} {vs:List Value} {i:Nat} {m:Str->Option Value},P.Nodup->P[i]?=some x->vs[i]?=some v->kindOf x≠some .local ->
  bindC kindOf (P.zip vs) m x=some v
 |[],_,_,_,_,h,_,_=>by simp at h
 |_::_,[],_,_,_,_,h,_=>by simp at h
 |p::P,w::vs,0,m,nd,h1,h2,hk=>by
  simp at h1 h2;subst h1;subst h2;show bindC kindOf ((p,w)::P.zip vs) m p=_;unfold bindC;rw[z0m fun v hv=>(Dd.mp nd).1 (Pb hv).1,if_neg hk];simp
 |p::P,w::vs,i+1,m,nd,h1,h2,hk=>by
  show bindC kindOf ((p,w)::P.zip vs) m x=_;unfold bindC;exact z0o (i:=i) (Dd.mp nd).2 (by simpa using h1) (by simpa using h2) hk
def start(N:List Str)(vs:List V):St:=vs.map some++List.replicate (N.length-vs.length) none
def cxOf(CX:CXT)(P:Program)(w:World)(K:Ah)(mg:Str->Option Value)(base:Heap)(N:List Str)(qual:Str)(scope:Scope)(f:Addr)(cd:Value)(A:Around)(outer:List Env)(s:Af)(H:Hp)(E:XK):Cx where
 prog:=P
 w:=w
 K:=K
 mg:=mg
 base:=base
 A:=A.deeper (Gu qual scope s.heap.objs.size f cd)
 N:=N
 s₀:=s
 H₀:=H
 env:=Gu qual scope s.heap.objs.size f cd
 outer:=outer
 stack:=Gu qual scope s.heap.objs.size f cd::outer
 ex:=[]
 calm:=true
 fn:=fun _=>true
 pn:=[]
 xe:=fun e s'=>wpAny (model P w) (A.deeper (Gu qual scope s.heap.objs.size f cd)) (leaving (Gu qual scope s.heap.objs.size f cd) e) (fun _ s''=>CX outer H s E e s'') (fun e' s''=>CX outer H s E e' s'') s'
theorem z3p{sc:Scope}(h:sc.names.lookup x=some .cell):∃c,(cellsFrom n sc.names []).lookup x=some c:=by
 have q:=Tf sc.names n [] (.inl h);exact Oj.mp q
theorem z6o{K:Ah}(S:FnScope N ps scope)(hd:A.handled=none)(e0:Env0 P w K mg base A outer s H)(hl:vs.length=ps.length)(r:Vals vs us)(x:InCallC s s.heap.objs.size (bindL (Gu qual scope s.heap.objs.size f cd).kindOf (ps.zip us) fun _=>none) (cellsFrom (s.heap.objs.size+1) scope.names []) (bindC (Gu qual scope s.heap.objs.size f cd).kindOf (ps.zip us) fun _=>none) s1):
  Inv (cxOf CX P w K mg base N qual scope f cd A outer s H E) [] (start N vs) H s1:=by
 have hpl:ps.length<=N.length:=by have:=congrArg List.length S.pre;rw[Bf] at this;lia
 obtain⟨h1,tk,rfl,hk⟩:=x.done;have noA:∀b:Addr,b∉(cxOf CX P w K mg base N qual scope f cd A outer s H E).ex:=fun b z=>absurd (show b∈([]:List Addr) from z) (by simp)
 refine⟨⟨e0.mod,S.kind,rfl,rfl,Aj _,fun y z c h1 h2=>?_,fun y hy=>?_,fun y c _ h=>?_,fun _=>hd,Around.frames_deeper e0.frames,.inr ⟨rfl,rfl⟩,fun b z=>absurd z (noA b),e0.bs,e0.bsz,fun b _ _=>noA b,fun b z=>absurd z (noA b),e0.funs,e0.frf⟩,
  rfl,e0.bare,Un.kept hk,⟨_,x.toInCall.ns,fun i y v h1 h2 h3=>?_⟩,fun y c h=>⟨_,x.cell y c h⟩,e0.hok.fresh (Aj _),fun y c h=>?_,fun p hp=>absurd (show p∈([]:List (Addr×Obj)) from hp) (by simp),e0.hok.kept hk,?_⟩
 ·exact name_of_addr x.apart (Em h1) (Em h2)
 ·have hy:scope.names.lookup y=some .cell\/scope.names.lookup y=some .free:=hy;rcases hy with hy|hy
  ·exact z3p hy
  ·exact absurd rfl (S.nofree _ (Em hy))
 ·exact Hh (x.above y c (Em h))
 ·have hi:i<vs.length:=by
   unfold start at h2;by_cases hi:i<vs.length
   ·exact hi
   ·rw[Gq (by simpa using hi)] at h2;rw[List.getElem?_replicate] at h2;split at h2<;>cases h2
  have ha:vs[i]?=some v:=by
   unfold start at h2;rw[Gx (by simpa using hi),Aq] at h2;cases e:vs[i]? with
   |none=>simp_all
   |some a=>grind
  obtain⟨u,hu,rv⟩:=r.get ha;have hp:ps[i]?=some y:=by
   rw[<- S.pre,Jx (by lia)];exact h1
  have ndP:ps.Nodup:=by rw[<- S.pre];exact S.nd.sublist (List.take_sublist _ _)
  refine⟨u,rv,?_⟩;rcases S.par y (As hp) with k|k
  ·exact .inl ⟨k,z0n ndP hp hu k⟩
  ·obtain⟨c,e⟩:=z3p k;refine .inr ⟨.inl k,c,e,?_⟩;have q:=x.cell y c e;rw[z0o ndP hp hu (by show scope.names.lookup y≠_;rw[k];decide)] at q;exact q
 ·exact e0.hok.fresh (Hh (x.above y c (Em h)))
 ·unfold start;show _=N.length;rw[Ai,Ac,List.length_replicate];lia
theorem z6p{K:Ah}{kV:Value}(lk:K.lookup f=some ⟨oc,od,.func (Hm name qual params body scope dV kV doc pm an cdv ct),osl⟩)(hcd:Jb K cdv qual=true)(S:FnScope N ps scope)(len:∀vs H Q E,sp vs H Q E->vs.length=ps.length)(hbody:∀(A:Around) (outer:List Env) (s:Af) (H:Hp) (vs:List V) (Q:VK) (E:XK),Room k (A.deeper (Gu qual scope s.heap.objs.size f cdv))->sp vs H Q E ->
   ∃t,PSs (cxOf CX P w K mg base N qual scope f cdv A outer s H E) body t/\t { nx:=fun _ H'=>Q .non H',rt:=Q } (start N vs) H):
  FnOk P w K mg base CX (k+1) f (Hm name qual params body scope dV kV doc pm an cdv ct) ps sp:=by
 refine⟨len,fun A outer s H args us vs Q E hr e0 hb r hsp=>?_⟩;have hl:=len _ _ _ _ hsp;have KX:=e0.mod.kin.keeps fun b o e=>(e0.bs b o e).1;have lim:=e0.mod.nolimit.keeps fun b o e=>(e0.bs b o e).1;have hkind:∀y∈ps.zip us,scope.names.lookup y.1=some .local\/(scope.names.lookup y.1=some .cell/\((cellsFrom (s.heap.objs.size+1) scope.names []).lookup y.1).isSome=true):=fun⟨n,v⟩ hy=>by
  rcases S.par n (Pb hy).1 with q|q
  ·exact .inl q
  ·exact .inr ⟨q,Tf _ _ _ (.inl q)⟩
 refine codeAny_call_function hr.depth (KX _ _ lk) rfl S.co S.gen rfl (W.codeRec_of KX hcd) (hb _ _ _ _ ?_);refine wpAny_newFunctionEnv_cells S.kind hkind fun env he s1 x=>?_;subst he;refine⟨lim.keeps x.toInCall.keep,codeAny_func ?_⟩;obtain⟨t,ht,hq⟩:=hbody A outer s H vs Q E (hr.deeper _) hsp;have I:Inv (cxOf CX P w K mg base N qual scope f cdv A outer s H E) [] (start N vs) H s1:=z6o S hr.hd e0 hl r x;refine Bu (ht [] s1 (start N vs) H _ I hq) (fun fl s' hs=>?_) fun e s' hs=>hs;have fin:∀{σ':St} {H':Hp} {v:V} {u:Value},Inv (cxOf CX P w K mg base N qual scope f cdv A outer s H E) [] σ' H' s'->RelV v u->Q v H'->CE outer P w H s Q u s' :=
  fun{σ' H' v u} J rv q=>⟨v,H',J.os,J.bare,J.base,J.hok,rv,q⟩
 cases fl with
 |ret u =>
  obtain⟨v,σ',H',J,rv,q⟩:=hs;exact fin J rv q
 |next =>
  obtain⟨σ',H',J,q⟩:=hs;exact fin (v:=V.non) J rfl q
 |brk =>
  obtain⟨_,_,_,q⟩:=hs;exact False.elim q
 |cont =>
  obtain⟨_,_,_,q⟩:=hs;exact False.elim q
open PySem PySem.Spec PyProof.Rows
section
variable{X:Cx}{x:Str}{p pos:Pos}{e:Expr}{es:List Expr}{t:TA}{id T:String}{r:List V->Hp->VK->Prop}
def tCB(r:List V->Hp->VK->Prop)(t:TA):TE:=fun σ H Q=>t σ H fun vs H1=>r vs H1 Q
theorem q0h(hc:CallR X (.builtin id) r)(hg:Gl X x)(hm:X.mg x=none)(hv:Hg x=some (.builtin id))(ha:PA X (e::es) t)(hn:x ≠ "__name__" := by decide)(hdb:(x==("__debug__" : Str))=false:=by decide)(he:Be (e::es) X.env=(false,eval e X.env)::Be es X.env:=by rfl)(hpl:(Eh pos (Be es X.env)).any (·.1)=false:=by rfl):PE X (.Call (.Name x p) (e::es) [] pos) (tCB r t):=by
 intro pins s σ H Q I h;refine Ge (q8j I hg hm hv ?_ hn hdb);exact PyProof.Rows.callWith_builtin1 (thn (ha pos pins s σ H _ I h) fun us s1 ⟨vs,H1,I1,r1,q1⟩=>hc pins s1 σ H1 vs us Q I1 r1 q1) he hpl
theorem q2r(hc:CallR X (.type T) r)(hg:Gl X x)(hm:X.mg x=none)(hv:Hg x=some (.type T))(ha:PA X (e::es) t)(hn:x ≠ "__name__" := by decide)(hdb:(x==("__debug__" : Str))=false:=by decide)(he:Be (e::es) X.env=(false,eval e X.env)::Be es X.env:=by rfl)(hpl:(Eh pos (Be es X.env)).any (·.1)=false:=by rfl):PE X (.Call (.Name x p) (e::es) [] pos) (tCB r t):=by
 intro pins s σ H Q I h;refine Ge (q8j I hg hm hv ?_ hn hdb);exact Gd (thn (ha pos pins s σ H _ I h) fun us s1 ⟨vs,H1,I1,r1,q1⟩=>hc pins s1 σ H1 vs us Q I1 r1 q1) he hpl
end
end L2
namespace HT
open PySem PyProof.Rows
section
variable{prog:Program}{w:World}{A:Around}{E:Value->Af->Prop}{s:Af}
theorem cat_tup(ht:IsTup s.heap t vs.toArray)(hb:IsTup s.heap b ws.toArray)(hv:vs≠[])(h1:ws=[]->Q (.ref t) s)(h2:ws≠[]->Q (.ref s.heap.objs.size) { s with heap:=s.heap.push { cls:=.type "tuple",data:=.seq (vs++ws).toArray } })(hsz:vs.length+ws.length<=sizeLine):wpAny (model prog w) A (Fe .Add (.ref t) (.ref b)) Q E s:=by
 obtain⟨⟨cls,dd,data,sl⟩,ho,hc,n,hd⟩:=id ht;obtain⟨⟨cls2,dd2,data2,sl2⟩,ho2,hc2,n2,hd2⟩:=id hb;subst hc hd hc2 hd2;have e:vs.toArray++ws.toArray=(vs++ws).toArray:=by simp
 by_cases hw:ws=[]
 ·exact Rz ⟨_,ho,rfl⟩ ⟨_,ho2,rfl⟩ Ol Qy La Kr (Jy _ _)
   (tuple_addW1 t b vs.toArray ws.toArray n n2 dd dd2 sl sl2 (by simpa using hv) (by simp[hw])) ⟨ho,ho2,h1 hw⟩
 ·refine Rz ⟨_,ho,rfl⟩ ⟨_,ho2,rfl⟩ Ol Qy La Kr (Jy _ _)
   (tuple_addW2 t b vs.toArray ws.toArray n n2 dd dd2 sl sl2 (by simpa using hv) (by simpa using hw) (by rw[Av,Av];exact hsz)) ⟨ho,ho2,?_⟩
  rw[e];exact h2 hw
def sIx(n d:Nat):Option Int->Nat
 |none=>d
 |some v=>if v<0 then(v+(n:Int)).toNat else min v.toNat n
theorem z6q(v:Int)(n d:Nat):(if v<0 then max (v+(n:Int)) 0 else min v (n:Int))=((sIx n d (some v):Nat):Int):=by
 show(if v<0 then max (v+(n:Int)) 0 else min v (n:Int))=(((if v<0 then(v+(n:Int)).toNat else min v.toNat n):Nat):Int)
 by_cases hv:v<0
 ·grind
 ·grind
theorem z4z(lo hi:Option Int)(n:Nat):Oa lo hi 1 (n:Int)=(((sIx n 0 lo:Nat):Int),((sIx n n hi:Nat):Int)):=by
 refine Prod.ext ?_ ?_
 ·cases lo with
  |none=>rfl
  |some v=>exact z6q v n 0
 ·cases hi with
  |none=>rfl
  |some v=>exact z6q v n n
theorem z5a(i j:Nat):Gy (i:Int) (j:Int) 1=j-i:=by
 unfold Gy;have h1:(1:Int)>0:=by lia
 simp only[h1,if_true,Int.ediv_one];split<;>lia
theorem q8p(p:Lb v o)(h:Q o s):wpAny (model prog w) A (Dp.Slice.slicePartIndex v) Q E s:=by
 cases p with
 |none=>exact slicePart_none h
 |int i t=>exact slicePart_int h
theorem q3c{lo:Option Int}{n:Nat}(hs:s.heap.IsSliceOf sl vl vu .none)(pl:Lb vl lo)(pu:Lb vu hi)(h:Q (((sIx n 0 lo:Nat):Int),1,sIx n n hi-sIx n 0 lo) s):wpAny (model prog w) A (Dp.Slice.sliceApplied (.ref sl) (pure (n:Int))) Q E s:=by
 obtain⟨os,hos,hcs,hds⟩:=id hs;refine Ab (Ab (Bz hos hds rfl (Ab (Bz hos hds rfl (Ab (Bz hos hds rfl (Ae ?_)))))));refine Ab (slicePart_none ?_);refine Ab (q8p pl (Ab (q8p pu (Ab (Ae ?_)))));show wpAny _ _ (match Oa lo hi 1 (n:Int) with|(lo,hi)=>pure (lo,(1:Int),Gy lo hi 1)) _ _ s;rw[z4z lo hi n];show wpAny _ _ (pure (((sIx n 0 lo:Nat):Int),(1:Int),Gy ((sIx n 0 lo:Nat):Int) ((sIx n n hi:Nat):Int) 1)) _ _ s;rw[z5a];exact Ae h
theorem x0j(xs:Array Value)(i k:Nat):((List.range k).filterMap fun(m:Nat)=>xs[((i:Int)+(m:Int)*1).toNat]?).toArray=((xs.toList.drop i).take k).toArray:=by
 have e:(fun(m:Nat)=>xs[((i:Int)+(m:Int)*1).toNat]?)=fun m=>xs[i+m]?:=by grind
 rw[e];have:=pick_run xs i k;rw[Sa] at this;have e2:((fun x=>xs[x]?)∘fun x=>i+x)=fun m=>xs[i+m]?:=rfl;rw[e2] at this;rw[this]
theorem getItem_tuple_cut{lo:Option Int}(ht:IsTup s.heap t items)(hs:s.heap.IsSliceOf sl vl vu .none)(pl:Lb vl lo)(pu:Lb vu hi)(hw:¬(sIx items.size 0 lo=0/\sIx items.size items.size hi=items.size))(h:Q (.ref s.heap.objs.size) { s with heap:=s.heap.push { cls:=.type "tuple",data:=.seq ((items.toList.drop (sIx items.size 0 lo)).take (sIx items.size items.size hi-sIx items.size 0 lo)).toArray } })(hsz:items.size<=sizeLine):wpAny (model prog w) A (getItem (.ref t) (.ref sl)) Q E s:=by
 have htake:sizeOk (.seq ((items.toList.drop (sIx items.size 0 lo)).take (sIx items.size items.size hi-sIx items.size 0 lo)).toArray):=by
  show((items.toList.drop (sIx items.size 0 lo)).take (sIx items.size items.size hi-sIx items.size 0 lo)).toArray.size<=sizeLine;rw[Av,Bf,Fw,El];lia
 obtain⟨os,hos,hcs,hds⟩:=id hs;have hTs:s.TypeIs (.ref sl) "slice" := ⟨os,hos,hcs⟩
 unfold getItem;try with_reducible refine Cc ?_
 refine Ab (Sq ht.typeIs (by decide) ?_);refine Ab (Cm ht.typeIs Cw
  (Ce Cw ht.typeIs entry_tuple_getitem ?_ (Sb _ _)))
 show wpAny _ _ (Nm (.ref t) >>= _) _ _ s;refine Ab (tupleItemsOf_ ht ?_);refine Ab (Hn hTs ?_);refine Ab (q3c hs pl pu ?_);have hno:¬((((sIx items.size 0 lo:Nat):Int)==0&&(1:Int)==1&&(sIx items.size items.size hi-sIx items.size 0 lo)==items.size)=true):=by grind
 show wpAny _ _ (if (((sIx items.size 0 lo:Nat):Int)==0&&(1:Int)==1&&(sIx items.size items.size hi-sIx items.size 0 lo)==items.size)=true then _ else _) _ _ s;rw[if_neg hno,x0j];first
  |exact Ab (Bv (Ae ⟨_,rfl,Ae h⟩) htake)
  |exact Ab (Bv (Ab (Ae (Ae ⟨_,rfl,Ae h⟩))) htake)
  |exact Ab (Ab (Bv (Ae (Ae ⟨_,rfl,Ae h⟩)) htake))
  |exact Ab (Ab (Bv (Ae ⟨_,rfl,Ae h⟩) htake))
end
end HT
namespace L2
open PySem PySem.Spec PyProof.Rows
abbrev TO:=St->Hp->(Option Int->Hp->Prop)->Prop
def PO(X:Cx)(e:Option Expr)(t:TO):Prop :=
 ∀(pins:List (Addr×Obj)) (s:Af) (σ:St) (H:Hp) (Q:Option Int->Hp->Prop),Inv X pins σ H s->t σ H Q ->
  wpAny (model X.prog X.w) X.A (evalPart e X.env) (fun u s'=>∃o H',Inv X pins σ H' s'/\Lb u o/\Q o H') X.xe s
def tNoPart:TO:=fun _ H Q=>Q none H
def tPart(t:TE):TO:=fun σ H Q=>t σ H fun x H1=>∃i,x=.int i/\Q (some i) H1
section
variable{X:Cx}{e:Expr}{te:TE}{lo hi:Option Expr}{tl th:TO}{pos p2:Pos}
theorem q0x:PO X none tNoPart:=by
 intro pins s σ H Q I h;exact Ae ⟨none,H,I,.none,h⟩
theorem q0u(h:PE X e te):PO X (some e) (tPart te):=by
 intro pins s σ H Q I hw;refine thn (h pins s σ H _ I hw) fun u s1 ⟨x,H1,I1,r1,q1⟩=>?_;obtain⟨i,rfl,q⟩:=q1;obtain⟨t,rfl⟩:=r1;exact⟨some i,H1,I1,.int i t,q⟩
def SlR(X:Cx)(r:V->Option Int->Option Int->Hp->VK->Prop):Prop :=
 ∀(pins:List (Addr×Obj)) (s:Af) (σ:St) (H:Hp) (x:V) (v vl vu:Value) (lo hi:Option Int) (sl:Addr) (Q:VK),Inv X pins σ H s->RelV x v->s.heap.IsSliceOf sl vl vu .none->Lb vl lo->Lb vu hi->r x lo hi H Q ->
  ∃T id,Mc (.type T) "__getitem__" = pure (some (.builtin id))/\s.TypeIs v T/\wpAny (model X.prog X.w) X.A (getItem v (.ref sl)) (EP X pins σ Q) X.xe s
theorem SlR.or(h:SlR X r)(h':SlR X r'):SlR X (fun x lo hi H Q=>r x lo hi H Q\/r' x lo hi H Q):=by
 intro pins s σ H x v vl vu lo hi sl Q I rx hs pl pu q;rcases q with q|q
 ·exact h pins s σ H x v vl vu lo hi sl Q I rx hs pl pu q
 ·exact h' pins s σ H x v vl vu lo hi sl Q I rx hs pl pu q
def tSl(r:V->Option Int->Option Int->Hp->VK->Prop)(te:TE)(tl th:TO):TE:=fun σ H Q=>te σ H fun x H1=>tl σ H1 fun l H2=>th σ H2 fun u H3=>r x l u H3 Q
theorem q0s{r:V->Option Int->Option Int->Hp->VK->Prop}(hr:SlR X r)(he:PE X e te)(hl:PO X lo tl)(hu:PO X hi th):PE X (.Subscript e (.Slice lo hi none p2) pos) (tSl r te tl th):=by
 intro pins s σ H Q I h;refine Tz (thn (he pins s σ H _ I h) fun v s1 ⟨x,H1,I1,r1,q1⟩=>?_);refine wpAny_Slice (thn (hl pins s1 σ H1 _ I1 q1) fun vl s2 ⟨l,H2,I2,pl,q2⟩=>thn (hu pins s2 σ H2 _ I2 q2) fun vu s3 ⟨u,H3,I3,pu,q3⟩=>?_);refine Ae ?_;have I4:Inv X pins σ H3 { s3 with heap:=s3.heap.push { cls:=.type "slice",data:=.fields #[vl,vu,.none] } }:=I3.kept (t':=s3.toks) fun b ob q=>Ag _ q;obtain⟨T,id,hT,ht,hg⟩:=hr pins { s3 with heap:=s3.heap.push { cls:=.type "slice",data:=.fields #[vl,vu,.none] } } σ H3 x v vl vu l u s3.heap.objs.size Q I4 r1 (Heap.IsSliceOf.new ..) pl pu q3;exact tail_any ht hT hg (by with_unfolding_all rfl)
def cutV(xs:List V)(lo hi:Option Int):List V:=(xs.drop (HT.sIx xs.length 0 lo)).take (HT.sIx xs.length xs.length hi-HT.sIx xs.length 0 lo)
theorem q7b(xs:List V)(lo hi:Option Int):(cutV xs lo hi).length<=xs.length:=by
 unfold cutV;rw[Bf,Fw];lia
def rSlT(K:Ah):V->Option Int->Option Int->Hp->VK->Prop:=fun x lo hi H Q=>∃a xs,x=.ref a/\SqT K H a xs /\
 ¬(HT.sIx xs.length 0 lo=0/\HT.sIx xs.length xs.length hi=xs.length)/\∀p,H p=none->Q (.ref p) (upd H p (.tup (cutV xs lo hi)))
theorem x2h:SlR X (rSlT X.K):=by
 intro pins s σ H x v vl vu lo hi sl Q I rx hs pl pu h;obtain⟨a,xs,rfl,hx,hw,q⟩:=h;cases rx;obtain⟨its,r,ht,hz⟩:=I.tuple hx;have hlen:its.toArray.size=xs.length:=by rw[Av];exact r.length.symm
 refine⟨"tuple",_,Cw.lookup,ht.typeIs,?_⟩;refine HT.getItem_tuple_cut ht hs pl pu (by rw[hlen];exact hw) ?_ (by rw[hlen];exact hz);rw[hlen];refine⟨.ref s.heap.objs.size,_,I.laid (t':=s.toks) (fun b ob q=>Ag _ q) (Aj _) ?_,rfl,q _ (I.hok.fresh (Aj _))⟩;exact⟨Cn (q7b xs lo hi) hz,_,(r.drop (HT.sIx xs.length 0 lo)).take (HT.sIx xs.length xs.length hi-HT.sIx xs.length 0 lo),Um _ _⟩
theorem Vals.nil_iff(r:Vals xs us):us=[]↔xs=[]:=by
 cases r with
 |nil=>simp
 |cons _ _=>simp
end
open PySem PySem.Spec PyProof.Rows
def ixN(n:Nat)(i:Int):Option Nat:=if 0<=i then(if i<n then some i.toNat else none) else if -(n:Int)<=i then some (i+n).toNat else none
def atI{α:Type}(xs:List α)(i:Int):Option α:=(ixN xs.length i).bind fun j=>xs[j]?
theorem z6r(h:ixN n i=some j):seqIndex? i n=some j/\j<n /\ -(n:Int)<=i/\i<n:=by
 unfold ixN at h;by_cases h0:0<=i
 ·rw[if_pos h0] at h;by_cases h1:i<n
  ·rw[if_pos h1] at h;have e:=Dy h;exact⟨by rw[Ta h0 h1,e],by lia,by lia,h1⟩
  ·grind
 ·rw[if_neg h0] at h;by_cases h1 : -(n:Int)<=i
  ·rw[if_pos h1] at h;have e:=Dy h;exact⟨by rw[seqIndex_neg (by lia) h1,e],by lia,h1,by lia⟩
  ·grind
theorem q9f{xs:List α}{v:α}(h:atI xs i=some v):∃j,seqIndex? i xs.length=some j/\xs[j]?=some v/\j<xs.length /\ -(xs.length:Int)<=i/\i<xs.length:=by
 unfold atI at h;cases e:ixN xs.length i with
 |none=>rw[e] at h;cases h
 |some j =>
  rw[e] at h;obtain⟨h1,h2,h3,h4⟩:=z6r e;exact⟨j,h1,h,h2,h3,h4⟩
theorem z2i{xs:List α}{j:Nat}{v:α}(h:xs[j]?=some v):atI xs (j:Int)=some v:=by
 have hj:=(Bb.mp h).1;have e:ixN xs.length (j:Int)=some j:=by
  unfold ixN;rw[if_pos (by lia),if_pos (by lia)];simp
 unfold atI;rw[e];exact h
def PlainIx(b:Expr):Prop:=∀o i,Pk b false o i=operate [o,i] (getItem o i)
def IxR(X:Cx)(r:R2):Prop :=
 ∀(value slice:Expr) (pins:List (Addr×Obj)) (s:Af) (σ:St) (H:Hp) (x y:V) (v u:Value) (Q:VK),Inv X pins σ H s->RelV x v->RelV y u->r x y H Q ->
  Pk slice false v u=operate [v,u] (getItem v u)->wpAny (model X.prog X.w) X.A (subscriptTail value slice v u) (EP X pins σ Q) X.xe s
def MtR(X:Cx)(id:String)(r:V->List V->Hp->VK->Prop):Prop :=
 ∀(pins:List (Addr×Obj)) (s:Af) (σ:St) (H:Hp) (x:V) (xs:List V) (v:Value) (us:List Value) (Q:VK),Inv X pins σ H s->RelV x v->Vals xs us->r x xs H Q ->
  wpAny (model X.prog X.w) X.A (call (.builtin id) (v::us)) (EP X pins σ Q) X.xe s
section
variable{X:Cx}{a b:Expr}{ta tb:TE}{pos:Pos}
theorem IxR.or(h:IxR X r)(h':IxR X r'):IxR X (fun x y H Q=>r x y H Q\/r' x y H Q):=by
 intro value slice pins s σ H x y v u Q I rx ry q hs;rcases q with q|q
 ·exact h value slice pins s σ H x y v u Q I rx ry q hs
 ·exact h' value slice pins s σ H x y v u Q I rx ry q hs
theorem MtR.or{id:String}(h:MtR X id r)(h':MtR X id r'):MtR X id (fun x xs H Q=>r x xs H Q\/r' x xs H Q):=by
 intro pins s σ H x xs v us Q I rx rs q;rcases q with q|q
 ·exact h pins s σ H x xs v us Q I rx rs q
 ·exact h' pins s σ H x xs v us Q I rx rs q
theorem q1a{r:R2}(hr:IxR X r)(ha:PE X a ta)(hb:PE X b tb)(hs:PlainIx b):PE X (.Subscript a b pos) (tOp r ta tb):=by
 intro pins s σ H Q I h;exact Tz (binT ha hb I h fun v u s2 x y H2 I2 rx ry q=>hr a b pins s2 σ H2 x y v u Q I2 rx ry q (hs _ _))
def rIxL(K:Ah):R2:=fun x y H Q=>∃p xs i v,x=.ref p/\y=.int i/\SqL K H p xs/\atI xs i=some v/\Q v H
def rIxT(K:Ah):R2:=fun x y H Q=>∃p xs i v,x=.ref p/\y=.int i/\SqT K H p xs/\atI xs i=some v/\Q v H
def rIxS:R2:=fun x y H Q=>∃z i c,x=.str z/\y=.int i/\z.length<=sizeLine/\atI z.cps.toList i=some c/\Q (.str ⟨#[c]⟩) H
theorem ix_list:IxR X (rIxL X.K):=by
 intro value slice pins s σ H x y v u Q I rx ry h hs;obtain⟨p,xs,i,z,rfl,rfl,hq,he,q⟩:=h;cases rx;obtain⟨t,rfl⟩:=ry;obtain⟨its,r,pl,hz⟩:=I.list hq;obtain⟨j,h1,h2,h3,h4,h5⟩:=q9f he;obtain⟨w,ew,rw'⟩:=r.get h2;have hl:=r.length;have hn:=line63;have fin:EP X pins σ Q w s:=⟨z,H,I,rw',q⟩
 by_cases h0:0<=i
 ·have hj:i.toNat=j:=by
   rw[Ta h0 h5] at h1;exact Dy h1
  exact item_listR pl.isList h0 (by lia) (by rw[hj];simpa using ew) fin hs
 ·have hj:(i+(its.toArray.size:Int)).toNat=j:=by
   rw[seqIndex_neg (by lia) h4] at h1;rw[Av,<- hl];exact Dy h1
  exact Pl pl.isList.typeIs slot_list_getitem.lookup
   (wpAny_getItem_list_neg pl.isList (by lia) (by rw[Av]<;>lia) (by lia) (by rw[hj];simpa using ew) ⟨rfl,fin⟩) hs
theorem ix_tup:IxR X (rIxT X.K):=by
 intro value slice pins s σ H x y v u Q I rx ry h hs;obtain⟨p,xs,i,z,rfl,rfl,hq,he,q⟩:=h;cases rx;obtain⟨t,rfl⟩:=ry;obtain⟨its,r,pl,hz⟩:=I.tuple hq;obtain⟨j,h1,h2,h3,h4,h5⟩:=q9f he;obtain⟨w,ew,rw'⟩:=r.get h2;have hl:=r.length;have hn:=line63;have fin:EP X pins σ Q w s:=⟨z,H,I,rw',q⟩
 exact Pl pl.typeIs slot_tuple_getitem.lookup
  (getItem_tuple pl (by lia) (by lia) (by rw[Av,<- hl];exact h1) (by simpa using ew) ⟨rfl,fin⟩) hs
theorem ix_str:IxR X rIxS:=by
 intro value slice pins s σ H x y v u Q I rx ry h hs;obtain⟨z,i,c,rfl,rfl,hz,he,q⟩:=h;obtain⟨t,rfl⟩:=rx;obtain⟨t',rfl⟩:=ry;obtain⟨j,h1,h2,h3,h4,h5⟩:=q9f he;have hl:z.cps.toList.length=z.length:=by simp[Str.length]
 rw[hl] at h1 h4 h5;have hn:=line63;exact tail_any (Kl s z t) slot_str_getitem.lookup (getItem_str (by
  have e1:decide (i < -(2^63:Int))=false:=decide_eq_false (by lia);have e2:decide (i>=2^63)=false:=decide_eq_false (by lia);rw[e1,e2,Bool.or_false]) (by rw[h1];simpa using h2) ⟨.str ⟨#[c]⟩,H,I.tok _,⟨_,rfl⟩,q⟩) hs
def rIx(K:Ah):R2:=fun x y H Q=>rIxL K x y H Q\/rIxT K x y H Q\/rIxS x y H Q
theorem ix_seq:IxR X (rIx X.K):=ix_list.or (ix_tup.or ix_str)
theorem z5b(its:List Value)(n j:Nat)(u:Value):Ef (·.setIfInBounds j u) { cls:=.type "list",data:=.seq its.toArray n }={ cls:=.type "list",data:=.seq (its.set j u).toArray n }:=by
 simp[Ef]
theorem Inv.lst{pins:List (Addr×Obj)}{σ:St}{H:Hp}{s:Af}{p:Addr}{xs:List V}(I:Inv X pins σ H s)(h:H p=some (.lst xs)):
  ∃(its:List Value) (n:Nat),Vals xs its/\s.heap.get? p=some { cls:=.type "list",data:=.seq its.toArray n }/\xs.length<=sizeLine:=by
 obtain⟨z,its,n,r,e⟩:=I.hok p _ h;exact⟨its,n,r,e,z⟩
theorem Inv.lstUpd{σ:St}{its:List Value}(I:Inv X pins σ H s)(h:H p=some (.lst xs))(ho:s.heap.get? p=some { cls:=.type "list",data:=.seq its.toArray n })(hf:f { cls:=.type "list",data:=.seq its.toArray n }={ cls:=.type "list",data:=.seq its'.toArray n' })(r:Vals ys its')(hz:ys.length<=sizeLine)(t:Nat):
  Inv X pins σ (upd H p (.lst ys)) { s with heap:=s.heap.update p f,toks:=t }:=by
 have e:(s.heap.update p f).get? p=some { cls:=.type "list",data:=.seq its'.toArray n' }:=by
  rw[Ex f ho (by rw[hf]<;>rfl),hf]
 refine I.write (by rw[h];trivial) (.inl rfl) (fun b u hb q=>(Bx _ _ (Cv hb)).trans q) ⟨_,e⟩ ?_;exact⟨hz,its',n',r,e⟩
def rSetL:V->V->V->Hp->(Hp->Prop)->Prop:=fun o i v H Q=>∃p xs k j,o=.ref p/\i=.int k/\H p=some (.lst xs)/\ixN xs.length k=some j/\Q (upd H p (.lst (xs.set j v)))
theorem q9g:PSet X rSetL:=by
 intro pins s σ H o i v ov iv u Q I ro ri rv h;obtain⟨p,xs,k,j,rfl,rfl,hp,hj,q⟩:=h;cases ro;obtain⟨t,rfl⟩:=ri;obtain⟨its,n,r,ho,hz⟩:=I.lst hp;obtain⟨h1,h2,h3,h4⟩:=z6r hj;have hl:=r.length;have hn:=line63;have I':Inv X pins σ (upd H p (.lst (xs.set j v))) { s with heap:=s.heap.update p (Ef (·.setIfInBounds j u)) } :=
  I.lstUpd hp ho (z5b its n j u) (r.set rv j) (by rw[List.length_set];exact hz) s.toks
 by_cases h0:0<=k
 ·have hk:k.toNat=j:=by
   rw[Ta h0 h4] at h1;exact Dy h1
  exact W.ki_setAt ho h0 (by lia) (by rw[Av,<- hl];exact h4) (by rw[hk];exact⟨_,I',q⟩)
 ·have hk:(k+(its.toArray.size:Int)).toNat=j:=by
   rw[seqIndex_neg (by lia) h3] at h1;rw[Av,<- hl];exact Dy h1
  exact W.ki_setBack ho (by lia) (by rw[Av,<- hl];exact h3) (by lia) (by rw[hk];exact⟨_,I',q⟩)
theorem z0p(lo hi:Option Int)(n:Nat):(Jm lo hi none n).1=((HT.sIx n 0 lo:Nat):Int)/\(Jm lo hi none n).2.1=((HT.sIx n n hi:Nat):Int)/\(Jm lo hi none n).2.2=1:=by
 refine⟨?_,?_,rfl⟩
 ·cases lo with
  |none=>simp[Jm,HT.sIx]
  |some i =>
   simp only[Jm,HT.sIx,Tg,show(1:Int)>0 by decide,if_true];by_cases h:i<0
   ·simp only[h,if_true]<;>lia
   ·simp only[h,if_false]<;>lia
 ·cases hi with
  |none=>simp[Jm,HT.sIx]
  |some i =>
   simp only[Jm,HT.sIx,Tg,show(1:Int)>0 by decide,if_true];by_cases h:i<0
   ·simp only[h,if_true]<;>lia
   ·simp only[h,if_false]<;>lia
theorem q9h(its:List Value)(lo hi:Option Int):slicePick its.toArray lo hi none=((its.drop (HT.sIx its.length 0 lo)).take (HT.sIx its.length its.length hi-HT.sIx its.length 0 lo)).toArray:=by
 obtain⟨h1,h2,h3⟩:=z0p lo hi its.toArray.size;unfold slicePick;rw[h1,h2,h3];simp only[sliceRange_one,pick_run,Av]<;>rfl
def rSlL(K:Ah):V->Option Int->Option Int->Hp->VK->Prop:=fun x lo hi H Q=>∃a xs,x=.ref a/\SqL K H a xs/\∀p,H p=none->Q (.ref p) (upd H p (.lst (cutV xs lo hi)))
theorem sl_list:SlR X (rSlL X.K):=by
 intro pins s σ H x v vl vu lo hi sl Q I rx hs pl pu h;obtain⟨a,xs,rfl,hx,q⟩:=h;cases rx;obtain⟨its,r,ht,hz⟩:=I.list hx;have hlen:=r.length;refine⟨"list",_,slot_list_getitem.lookup,ht.isList.typeIs,?_⟩;refine wpAny_getItem_list_slice ht.isList hs pl pu .none (by simp) ?_ (by rw[Av]<;>lia);rw[q9h,<- hlen];refine⟨.ref s.heap.objs.size,_,I.laid (t':=s.toks) (fun b ob q=>Ag _ q) (Aj _) ?_,rfl,q _ (I.hok.fresh (Aj _))⟩;exact⟨Cn (q7b xs lo hi) hz,_,0,(r.drop (HT.sIx xs.length 0 lo)).take (HT.sIx xs.length xs.length hi-HT.sIx xs.length 0 lo),Ar _ rfl⟩
def flatV:V->Bool
 |.non=>true
 |.bl _=>true
 |.int _=>true
 |.str _=>true
 |_=>false
def eqV:V->V->Bool
 |.non,.non=>true
 |.bl a,.bl b=>a==b
 |.bl a,.int b=>(if a then 1 else 0)==b
 |.int a,.bl b=>a==(if b then 1 else 0)
 |.int a,.int b=>a==b
 |.str a,.str b=>a==b
 |_,_=>false
theorem eqAt_V(ry:RelV y u)(rx:RelV x v)(fy:flatV y=true)(fx:flatV x=true):Dz A s u v (eqV y x):=by
 cases y with
 |non =>
  cases ry;cases x with
  |non=>cases rx;exact Ua _
  |bl b=>cases rx;exact Dz.none_bool b
  |int b=>obtain⟨t,rfl⟩:=rx;exact Dz.none_int b t
  |str b=>obtain⟨t,rfl⟩:=rx;exact Dz.none_str b t
  |_=>exact absurd (show false=true from fx) Bl
 |bl a =>
  cases ry;cases x with
  |non=>cases rx;exact Dz.bool_none a
  |bl b=>cases rx;exact Dz.bool_bool a b
  |int b=>obtain⟨t,rfl⟩:=rx;exact Dz.bool_int a b t
  |str b=>obtain⟨t,rfl⟩:=rx;exact Dz.bool_str a b t
  |_=>exact absurd (show false=true from fx) Bl
 |int a =>
  obtain⟨t',rfl⟩:=ry;cases x with
  |non=>cases rx;exact Dz.int_none a t'
  |bl b=>cases rx;exact Dz.int_bool a t' b
  |int b=>obtain⟨t,rfl⟩:=rx;exact Dz.int_int a t' b t
  |str b=>obtain⟨t,rfl⟩:=rx;exact Rn a t' b t
  |_=>exact absurd (show false=true from fx) Bl
 |str a =>
  obtain⟨t',rfl⟩:=ry;cases x with
  |non=>cases rx;exact Dz.str_none a t'
  |bl b=>cases rx;exact Dz.str_bool a t' b
  |int b=>obtain⟨t,rfl⟩:=rx;exact Ro a t' b t
  |str b=>obtain⟨t,rfl⟩:=rx;exact Nd a t' b t
  |_=>exact absurd (show false=true from fx) Bl
 |_=>exact absurd (show false=true from fy) Bl
def eqU(x:V)(u:Value):Bool:=match u with
 |.none=>eqV .non x
 |.bool b=>eqV (.bl b) x
 |.int i _=>eqV (.int i) x
 |.str z _=>eqV (.str z) x
 |_=>false
theorem z6s(r:RelV y u)(f:flatV y=true):eqU x u=eqV y x:=by
 cases y with
 |non=>cases r;rfl
 |bl b=>cases r;rfl
 |int i=>obtain⟨t,rfl⟩:=r;rfl
 |str z=>obtain⟨t,rfl⟩:=r;rfl
 |_=>exact absurd (show false=true from f) Bl
theorem q7c{x:V}:∀{xs:List V} {us:List Value},Vals xs us->xs.all flatV=true->us.any (eqU x)=xs.any fun y=>eqV y x
 |_,_,.nil,_=>rfl
 |y::xs,u::us,.cons r t,f=>by
  rw[Nn,Co] at f;rw[Qz,Qz,z6s r f.1,q7c t f.2]
theorem q4b{A:Around}{s:Af}{x:V}{v:Value}(rx:RelV x v)(fx:flatV x=true):∀{xs:List V} {us:List Value},Vals xs us->xs.all flatV=true->∀u∈us,Dz A s u v (eqU x u)
 |_,_,.nil,_=>fun u hu=>by cases hu
 |y::xs,u::us,.cons r t,f=>fun u' hu=>by
  rw[Nn,Co] at f;rcases Bd.mp hu with rfl|hu
  ·rw[z6s r f.1];exact eqAt_V r rx f.1 fx
  ·exact q4b rx fx t f.2 u' hu
def inV(x:V)(xs:List V):Bool:=xs.any fun y=>eqV y x
def rIn(K:Ah)(neg:Bool):R2:=fun x y H Q=>∃p xs,y=.ref p/\(SqL K H p xs\/SqT K H p xs)/\flatV x=true/\xs.all flatV=true/\Q (.bl (if neg then !inV x xs else inV x xs)) H
theorem z6t:OpR X (Ca .In) (rIn X.K false):=by
 intro pins s σ H x y v u Q I rx ry h;obtain⟨p,xs,rfl,hq,fx,fs,q⟩:=h;cases ry;rcases hq with hq|hq
 ·obtain⟨its,r,pl,hz⟩:=I.list hq;refine SeqAt.in_listAt (eqU x) pl.isList (fun w hw=>q4b rx fx r fs w (by simpa using hw)) ⟨.bl _,H,I,rfl,?_⟩;rw[show its.toArray.any (eqU x)=its.any (eqU x) by simp,q7c r fs];exact q
 ·obtain⟨its,r,pl,hz⟩:=I.tuple hq;refine SeqAt.in_tupleAt (eqU x) pl (fun w hw=>q4b rx fx r fs w (by simpa using hw)) ⟨.bl _,H,I,rfl,?_⟩;rw[show its.toArray.any (eqU x)=its.any (eqU x) by simp,q7c r fs];exact q
theorem z0q:OpR X (Ca .NotIn) (rIn X.K true):=by
 intro pins s σ H x y v u Q I rx ry h;obtain⟨p,xs,rfl,hq,fx,fs,q⟩:=h;cases ry;rcases hq with hq|hq
 ·obtain⟨its,r,pl,hz⟩:=I.list hq;refine SeqAt.notIn_listAt (eqU x) pl.isList (fun w hw=>q4b rx fx r fs w (by simpa using hw)) ⟨.bl _,H,I,rfl,?_⟩;rw[show its.toArray.any (eqU x)=its.any (eqU x) by simp,q7c r fs];exact q
 ·obtain⟨its,r,pl,hz⟩:=I.tuple hq;refine SeqAt.notIn_tupleAt (eqU x) pl (fun w hw=>q4b rx fx r fs w (by simpa using hw)) ⟨.bl _,H,I,rfl,?_⟩;rw[show its.toArray.any (eqU x)=its.any (eqU x) by simp,q7c r fs];exact q
theorem op_notIn_str:OpR X (Ca .NotIn) (fun x y H Q=>∃i j,x=.str i/\y=.str j/\Q (.bl (!(!(Cy j i 0 j.length 1).isEmpty))) H):=by
 intro pins s σ H x y v u Q I rx ry h;obtain⟨i,j,rfl,rfl,q⟩:=h;obtain⟨t,rfl⟩:=rx;obtain⟨t',rfl⟩:=ry;exact notIn_str ⟨.bl _,H,I,rfl,q⟩
theorem CallR.or(h:CallR X f r)(h':CallR X f r'):CallR X f (fun xs H Q=>r xs H Q\/r' xs H Q):=by
 intro pins s σ H xs us Q I rs q;rcases q with q|q
 ·exact h pins s σ H xs us Q I rs q
 ·exact h' pins s σ H xs us Q I rs q
theorem z0r:CallR X (.type "list") (fun xs H Q=>∃p ys,xs=[.ref p]/\(SqL X.K H p ys\/SqT X.K H p ys)/\∀l,H l=none->Q (.ref l) (upd H l (.lst ys))):=by
 intro pins s σ H xs us Q I r h;obtain⟨p,ys,rfl,hq,q⟩:=h;obtain⟨u,rfl,rx⟩:=vals1 r;cases rx;have fin:∀(its:List Value),Vals ys its->ys.length<=sizeLine->∀(h':Heap) (c':Nat),(∀b o',s.heap.get? b=some o'->h'.get? b=some o') ->
   h'.get? s.heap.objs.size=some { cls:=.type "list",dict:=none,data:=.seq its.toArray c',slots:=#[] }->EP X pins σ Q (.ref s.heap.objs.size) { s with heap:=h' }:=fun its r' hz h' c' kp e =>
  ⟨.ref s.heap.objs.size,_,I.laid (t':=s.toks) kp (Aj _) (show ObjOk X.prog X.w _ h' _ (.lst ys) from⟨hz,its,c',r',e⟩),rfl,q _ (I.hok.fresh (Aj _))⟩
 rcases hq with hq|hq
 ·obtain⟨its,r',pl,hz⟩:=I.list hq;have hlen:=r'.length;obtain⟨o,ho,hc,n,hd⟩:=pl.isList;exact call_list_seq p (.inl rfl) ho hc hd (fun h' c' kp e=>fin its r' hz h' c' kp e) (by simp only[Av]<;>lia)
 ·obtain⟨its,r',pl,hz⟩:=I.tuple hq;have hlen:=r'.length;obtain⟨o,ho,hc,n,hd⟩:=pl;exact call_list_seq p (.inr rfl) ho hc hd (fun h' c' kp e=>fin its r' hz h' c' kp e) (by simp only[Av]<;>lia)
theorem q9i:CallR X (.type "tuple") (fun xs H Q=>∃p ys,xs=[.ref p]/\((SqL X.K H p ys/\∀l,H l=none->Q (.ref l) (upd H l (.tup ys)))\/(SqT X.K H p ys/\Q (.ref p) H))):=by
 intro pins s σ H xs us Q I r h;obtain⟨p,ys,rfl,h⟩:=h;obtain⟨u,rfl,rx⟩:=vals1 r;cases rx;rcases h with⟨hq,q⟩|⟨hq,q⟩
 ·obtain⟨its,r',pl,hz⟩:=I.list hq;have hlen:=r'.length;refine call_tuple_list pl.isList (fun h' kp=>?_) (by simp only[Av]<;>lia);have I1:Inv X pins σ H { s with heap:=h' }:=I.kept (t':=s.toks) kp;have I2:Inv X pins σ (upd H h'.objs.size (.tup ys)) { s with heap:=h'.push { cls:=.type "tuple",data:=.seq its.toArray } } :=
   I1.laid (t':=s.toks) (fun b o e=>Ag _ e) (Aj _) (show ObjOk X.prog X.w _ _ _ (.tup ys) from⟨hz,its,r',Um _ _⟩)
  exact⟨.ref h'.objs.size,_,I2,rfl,q _ (I1.hok.fresh (Aj _))⟩
 ·obtain⟨its,r',pl,hz⟩:=I.tuple hq;exact call_tuple_same pl ⟨.ref p,H,I,rfl,q⟩
def tyV(K:Ah)(T:String)(x:V)(H:Hp):Prop:=match x with
 |.str _=>T = "str"
 |.int _=>T = "int"
 |.ref p=>(T = "list" /\ ∃xs,SqL K H p xs)\/(T = "tuple" /\ ∃o,K.lookup p=some o/\o.cls=.type "tuple" /\ o.dict=none) \/
   (T = "dict" /\ ((∃kvs,H p=some (.dK kvs))\/∃kvs,H p=some (.dT kvs)))\/(T = "set" /\ ∃S n,H p=some (.set S n))
 |_=>False
theorem x2i{σ:St}(I:Inv X pins σ H s)(r:RelV x v)(ty:tyV X.K T x H):
  s.TypeIs v T/\∀a,v=.ref a->∃ob,s.heap.get? a=some ob/\ob.dict=none:=by
 cases x with
 |str z =>
  obtain⟨t,rfl⟩:=r;cases(show T = "str" from ty);exact⟨Kl s z t,fun _ e=>nomatch e⟩
 |int i =>
  obtain⟨t,rfl⟩:=r;cases(show T = "int" from ty);exact⟨Ub s i t,fun _ e=>nomatch e⟩
 |ref p =>
  cases r;rcases ty with⟨rfl,xs,hq⟩|⟨rfl,o,hk,hc,hd⟩|⟨rfl,hk⟩|⟨rfl,S,n,hk⟩
  ·obtain⟨its,_,pl,_⟩:=I.list hq;refine⟨pl.isList.typeIs,fun a e=>?_⟩;cases e;obtain⟨o,n,e,c,hd,_⟩:=pl;exact⟨o,e,hd⟩
  ·refine⟨⟨o,I.kIn p o hk,hc⟩,fun a e=>?_⟩;cases e;exact⟨o,I.kIn _ o hk,hd⟩
  ·have z:∃o,s.heap.get? p=some o/\o.ExactDict:=by
    rcases hk with⟨kvs,hk⟩|⟨kvs,hk⟩
    ·obtain⟨_,_,_,_,o,_,_,e,ex,_⟩:=I.hok p _ hk;exact⟨o,e,ex⟩
    ·obtain⟨_,_,_,_,o,_,_,e,ex,_⟩:=I.hok p _ hk;exact⟨o,e,ex⟩
   obtain⟨o,e,ex⟩:=z;refine⟨⟨o,e,ex.1⟩,fun a e2=>?_⟩;cases e2;exact⟨o,e,ex.2.1⟩
  ·obtain⟨o,_,_,_,e,ex,_⟩:=I.hok p _ hk;refine⟨⟨o,e,ex.1⟩,fun a e2=>?_⟩;cases e2;exact⟨o,e,ex.2.1⟩
 |_=>exact False.elim ty
def tBM0(K:Ah)(T:String)(r:V->List V->Hp->VK->Prop)(to:TE):TE:=fun σ H Q=>to σ H fun x H1=>tyV K T x H1/\r x [] H1 Q
def tBM(K:Ah)(T:String)(r:V->List V->Hp->VK->Prop)(to:TE)(t:TA):TE:=fun σ H Q=>to σ H fun x H1=>tyV K T x H1/\t σ H1 fun xs H2=>r x xs H2 Q
variable{o e:Expr}{es:List Expr}{to:TE}{t:TA}{name:Str}{apos cpos:Pos}{T id:String}{r:V->List V->Hp->VK->Prop}
theorem pe_bm0(pa:Qp T)(slot:Slot T name id)(hty:typeOf (.builtin id)=pure (.type "method_descriptor"))(hm:MtR X id r)(ho:PE X o to)(hbase:Fo o name X.env (eval o X.env)=eval o X.env:=by rfl)(hline:(apos.endLine==cpos.line)=true:=by rfl):PE X (.Call (.Attribute o name apos) [] [] cpos) (tBM0 X.K T r to):=by
 intro pins s σ H Q I h;refine wpAny_Call_method0_late hbase hline (thn (ho pins s σ H _ I h) fun v s1 ⟨x,H1,I1,r1,ty,q1⟩=>?_);obtain⟨h1,h2⟩:=x2i I1 r1 ty;exact⟨T,id,pa,slot,hty,h1,h2,Lc rfl (PySem.evalArgs_none (hm pins s1 σ H1 x [] v [] Q I1 r1 .nil q1))⟩
theorem pe_bm(pa:Qp T)(slot:Slot T name id)(hty:typeOf (.builtin id)=pure (.type "method_descriptor"))(hm:MtR X id r)(ho:PE X o to)(ha:PA X (e::es) t)(hbase:Fo o name X.env (eval o X.env)=eval o X.env:=by rfl)(hfew:((Eh cpos (Be (e::es) X.env)).all (fun x => !x.1)&&(Mu cpos (Jl [] X.env)).all (fun x=>x.1.isSome)
   && decide ((e::es).length+([]:List Qb).length+(if ([]:List Qb).isEmpty then 0 else 1)<30))=true:=by rfl)(hline:(apos.endLine==cpos.line)=true:=by rfl)(hs:Be (e::es) X.env=(false,eval e X.env)::Be es X.env:=by rfl)(hplain:(Eh cpos (Be es X.env)).any (·.1)=false:=by rfl):
  PE X (.Call (.Attribute o name apos) (e::es) [] cpos) (tBM X.K T r to t):=by
 intro pins s σ H Q I h;refine wpAny_Call_method_late hbase hfew hline rfl (thn (ho pins s σ H _ I h) fun v s1 ⟨x,H1,I1,r1,ty,q1⟩=>?_);obtain⟨h1,h2⟩:=x2i I1 r1 ty;refine⟨T,id,pa,slot,hty,h1,h2,?_⟩;have hA:=ha cpos pins s1 σ H1 _ I1 q1;rw[hs] at hA ⊢;refine Lc (by show(false||(Eh cpos (Be es X.env)).any (·.1))=false;rw[hplain]<;>rfl) (Qq ?_);exact thn hA fun us s2 ⟨vs,H2,I2,r2,q2⟩=>hm pins s2 σ H2 x vs v us Q I2 r1 r2 q2
end
open PySem PySem.Spec PyProof.Rows
def MtM(X:Cx)(id:String)(r:V->List V->Hp->VK->Prop):Prop :=
 ∀(pins:List (Addr×Obj)) (s:Af) (σ:St) (H:Hp) (x:V) (xs:List V) (v:Value) (us:List Value) (Q:VK),Inv X pins σ H s->RelV x v->Vals xs us->r x xs H Q ->
  wpAny (model X.prog X.w) X.A (call (.builtin id) (v::us)) (EP X pins σ Q) X.xe s
theorem Vals.one:∀{x:V} {us:List Value},Vals [x] us->∃u,us=[u]/\RelV x u
 |_,_,.cons r .nil=>⟨_,rfl,r⟩
theorem Vals.two:∀{x y:V} {us:List Value},Vals [x,y] us->∃u v,us=[u,v]/\RelV x u/\RelV y v
 |_,_,_,.cons r (.cons q .nil)=>⟨_,_,rfl,r,q⟩
theorem Vals.zero:∀{us:List Value},Vals [] us->us=[]
 |_,.nil=>rfl
theorem Vals.dropLast(h:Vals xs us):Vals xs.dropLast us.dropLast:=by
 induction h with
 |nil=>exact .nil
 |cons r t ih =>
  cases t with
  |nil=>exact .nil
  |cons q t'=>exact .cons r ih
theorem Vals.eraseIdx:∀{xs:List V} {us:List Value} (i:Nat),Vals xs us->Vals (xs.eraseIdx i) (us.eraseIdx i)
 |_,_,_,.nil=>.nil
 |_,_,0,.cons _ t=>t
 |_,_,i+1,.cons r t=>.cons r (Vals.eraseIdx i t)
theorem Vals.reverse(h:Vals xs us):Vals xs.reverse us.reverse:=by
 induction h with
 |nil=>exact .nil
 |cons r t ih=>rw[Sr,Sr];exact Vals.append ih (.cons r .nil)
theorem Vals.rep{xs:List V}{us:List Value}(h:Vals xs us):∀k:Nat,Vals (List.replicate k xs).flatten (List.replicate k us).flatten
 |0=>.nil
 |k+1=>by
  rw[Mr,Mr,Nu,Nu];exact Vals.append h (Vals.rep h k)
theorem z0s{α:Type}:∀(l:List α) (i:Nat),(l.eraseIdx i).length<=l.length
 |[],_=>Aj _
 |_::_,0=>Ig _
 |_::r,i+1=>Jc (z0s r i)
theorem z0t(its:List Value):∀(k:Nat) (acc:List Value),
  List.foldl (fun x1 x2=>x1++x2) acc.toArray (List.replicate k its.toArray)=(acc++(List.replicate k its).flatten).toArray
 |0,acc=>by simp
 |k+1,acc=>by
  have e:acc.toArray++its.toArray=(acc++its).toArray:=by simp
  have e2:(acc++its)++(List.replicate k its).flatten=acc++(List.replicate (k+1) its).flatten:=by grind
  rw[<- e2,<- z0t its k (acc++its),<- e,Mr,Uc]
section
variable{X:Cx}{pins:List (Addr×Obj)}{σ:St}{H:Hp}{s:Af}{l b:Addr}{xs ys zs:List V}
theorem Inv.lset{its:List Value}(I:Inv X pins σ H s)(hH:H l=some (.lst xs))(e:s.heap.get? l=some { cls:=.type "list",data:=.seq its.toArray n })(hf:f its.toArray=its'.toArray)(hv:Vals ys its')(hz:ys.length<=sizeLine):
  Inv X pins σ (upd H l (.lst ys)) { s with heap:=s.heap.update l (Ef f),toks:=t' }:=by
 have q:=PySem.IsL.update e f;rw[hf] at q;refine I.write (by rw[hH];exact trivial) (.inl rfl) (fun b' u hb hu=>(Bx s.heap (Ef f) (Cv hb)).trans hu) ⟨_,q⟩ ?_;exact⟨hz,its',_,hv,q⟩
theorem Inv.lnew(I:Inv X pins σ H s)(hv:Vals ys its)(hz:ys.length<=sizeLine):
  Inv X pins σ (upd H s.heap.objs.size (.lst ys)) { s with heap:=s.heap.push { cls:=.type "list",data:=.seq its.toArray },toks:=t' } :=
 I.laid (fun _ _ q=>Ag _ q) (Aj _) ⟨hz,its,0,hv,Ar _ rfl⟩
theorem Inv.fresh(I:Inv X pins σ H s):H s.heap.objs.size=none:=I.hok.fresh (Aj _)
theorem Inv.lstM(I:Inv X pins σ H s)(hH:H l=some (.lst xs)):xs.length<=sizeLine/\∃(its:List Value) (n:Nat),Vals xs its/\xs.length=its.length/\s.heap.get? l=some { cls:=.type "list",data:=.seq its.toArray n }:=by
 obtain⟨z,its,n,r,e⟩:=I.hok l _ hH;exact⟨z,its,n,r,r.length,e⟩
theorem notLongL(h:n<=sizeLine):Jz n=false:=by
 exact decide_eq_false (by lia)
end
section
variable{X:Cx}
def rAppend:V->List V->Hp->VK->Prop:=fun x vs H Q=>∃l xs y,x=.ref l/\vs=[y]/\H l=some (.lst xs)/\xs.length<sizeLine/\Q .non (upd H l (.lst (xs++[y])))
theorem q1q:MtM X "list.append" rAppend:=by
 intro pins s σ H x vs v us Q I rx rv h;obtain⟨l,xs,y,rfl,rfl,hH,hz,q⟩:=h;cases rx;obtain⟨u,rfl,ru⟩:=rv.one;obtain⟨z,its,n,r,hl,e⟩:=I.lstM hH;refine Gz F.slot_list_append ⟨_,e,rfl⟩ F.entry_list_append (F.args_list_append_2 _ _) (PySem.list_append l its.toArray n u (by rw[Av];lia)) ⟨e,?_⟩;refine⟨.non,_,I.lset (its':=its++[u]) hH e (by simp) (r.append (.cons ru .nil)) ?_,rfl,q⟩;rw[Ai,Dq];lia
def rExtend:V->List V->Hp->VK->Prop:=fun x vs H Q=>∃l b xs zs,x=.ref l/\vs=[.ref b]/\H l=some (.lst xs)/\H b=some (.lst zs)/\xs.length+zs.length<=sizeLine/\Q .non (upd H l (.lst (xs++zs)))
theorem z6u:MtM X "list.extend" rExtend:=by
 intro pins s σ H x vs v us Q I rx rv h;obtain⟨l,b,xs,zs,rfl,rfl,hH,hB,hz,q⟩:=h;cases rx;obtain⟨u,rfl,ru⟩:=rv.one;cases ru;obtain⟨z,its,n,r,hl,e⟩:=I.lstM hH;obtain⟨z2,its2,n2,r2,hl2,e2⟩:=I.lstM hB;have hsz:its.toArray.size+its2.toArray.size<=sizeLine:=by grind
 have hlong:¬(!its.toArray.isEmpty&&Jz (its.toArray.size+its2.toArray.size))=true:=by
  rw[notLongL hsz,Bool.and_false];exact Bl
 refine Gz F.slot_list_extend ⟨_,e,rfl⟩ F.entry_list_extend (F.args_list_extend_2 _ _)
  (AutoSeq1.list_extend_list_list_0 l its.toArray n b its2.toArray n2 hlong (by rw[Av];lia) (by lia)) ⟨e,e2,?_⟩
 refine⟨.non,_,I.lset (its':=its++its2) hH e (by simp) (r.append r2) ?_,rfl,q⟩;rw[Ai];lia
def rPopAt:V->List V->Hp->VK->Prop:=fun x vs H Q=>∃l xs i k y,x=.ref l/\vs=[.int i]/\H l=some (.lst xs) /\ -(2^63)<=i/\i<2^63/\seqIndex? i xs.length=some k/\xs[k]?=some y/\Q y (upd H l (.lst (xs.eraseIdx k)))
theorem x0k:MtM X "list.pop" rPopAt:=by
 intro pins s σ H x vs v us Q I rx rv h;obtain⟨l,xs,i,k,y,rfl,rfl,hH,h1,h2,hk,hy,q⟩:=h;cases rx;obtain⟨u,rfl,ru⟩:=rv.one;obtain⟨t,rfl⟩:=ru;obtain⟨z,its,n,r,hl,e⟩:=I.lstM hH;obtain⟨w,hw,rw'⟩:=r.get hy;refine Gz F.slot_list_pop ⟨_,e,rfl⟩ F.entry_list_pop (F.args_list_pop_2 _ _)
  (MeetsSeq.list_pop_at l its.toArray n i t k w (fitsIndex_both h1 h2) (by rw[Av,<- hl];exact hk) (by rw[<- Gh];exact hw) (by rw[Av];lia)) ⟨e,?_⟩
 refine⟨y,_,I.lset (its':=its.eraseIdx k) hH e ?_ (r.eraseIdx k) ?_,rw',q⟩
 ·simp_all
 ·have:=z0s xs k;lia
def rCat:R2:=fun x y H Q=>∃l b xs zs,x=.ref l/\y=.ref b/\H l=some (.lst xs)/\H b=some (.lst zs)/\xs.length+zs.length<=sizeLine/\∀p,H p=none->Q (.ref p) (upd H p (.lst (xs++zs)))
theorem op_cat:OpR X (Fe .Add) rCat:=by
 intro pins s σ H x y v u Q I rx ry h;obtain⟨l,b,xs,zs,rfl,rfl,hH,hB,hz,q⟩:=h;cases rx;cases ry;obtain⟨z,its,n,r,hl,e⟩:=I.lstM hH;obtain⟨z2,its2,n2,r2,hl2,e2⟩:=I.lstM hB;refine PySem.P.add_list e e2 ?_ (by rw[Av,Av];lia);have ea:its.toArray++its2.toArray=(its++its2).toArray:=by simp
 rw[ea];exact⟨.ref _,_,I.lnew (t':=s.toks) (r.append r2) (by rw[Ai];lia),rfl,q _ I.fresh⟩
def rRep:R2:=fun x y H Q=>∃l k xs,x=.ref l/\y=.int k/\H l=some (.lst xs) /\ -(2^63)<=k/\k<2^63/\xs.length*k.toNat<=sizeLine /\
 ∀p,H p=none->Q (.ref p) (upd H p (.lst (List.replicate k.toNat xs).flatten))
theorem x3k{α:Type}(xs:List α)(k:Nat):(List.replicate k xs).flatten.length=k*xs.length:=by simp_all
theorem op_rep:OpR X (Fe .Mult) rRep:=by
 intro pins s σ H x y v u Q I rx ry h;obtain⟨l,k,xs,rfl,rfl,hH,h1,h2,hz,q⟩:=h;cases rx;obtain⟨t,rfl⟩:=ry;obtain⟨z,its,n,r,hl,e⟩:=I.lstM hH;have hlen:its.toArray.size*k.toNat<=sizeLine:=by simp_all
 have hcap:¬its.toArray.size*k.toNat>(2^63-1) / 8:=by
  have:(sizeLine:Nat)<=(2^63-1) / 8:=by decide
  lia
 have hfit:¬(!Builtin.List.listFitsIndex k)=true:=by
  rw[fitsIndex_both h1 h2];exact Bl
 have hlong:¬Jz (its.toArray.size*k.toNat)=true:=by
  rw[notLongL hlen];exact Bl
 have hnew:List.foldl (fun x1 x2=>x1++x2) #[] (List.replicate (if its.toArray.isEmpty=true then 0 else k.toNat) its.toArray)=(List.replicate k.toNat its).flatten.toArray:=by
  have f0:∀m:Nat,List.foldl (fun x1 x2=>x1++x2) #[] (List.replicate m its.toArray)=(List.replicate m its).flatten.toArray:=fun m=>by
   have:=z0t its m [];exact this
  cases its with
  |nil=>simp
  |cons a r'=>grind
 refine wpAny_binaryOp_repeat_ref (by decide) ⟨_,e,rfl⟩ (fun s'=>Ub s' k t) noFill_list_mul F.fills_int_mul Ud repeat_list F.slot_int_index.lookup
  (Gz Ud (Ub s k t) F.entry_int_rmul (F.args_int_rmul_2 _ _) (int___rmul___int_list k t l its.toArray n)
   ⟨e,rfl,⟨_,e,rfl⟩,Gz F.slot_list_mul ⟨_,e,rfl⟩ F.entry_list_mul (F.args_list_mul_2 _ _) (AutoListH.list___mul___list_int_3 l its.toArray n k t hfit hcap hlong) ⟨e,?_⟩⟩)
 rw[hnew];exact⟨.ref _,_,I.lnew (t':=s.toks) (r.rep k.toNat) (by rw[x3k,Nat.mul_comm];exact hz),rfl,q _ I.fresh⟩
end
end L2
namespace Att
open PySem PySem.W PySem.Calls PyProof.Rows
theorem q7d:∀(ns:List Int) (vs:List Value),WellAll P h vs (ns.map WData.int)->Sl vs ns:=by
 intro ns;induction ns with
 |nil =>
  intro vs w;cases w;exact .nil
 |cons n ns ih =>
  intro vs w;cases w with
  |cons a b =>
   cases a;exact .cons _ _ (ih _ b)
theorem z6v{l:OpenLaw}(hn:l.most=some n)(hpre:l.row.toRowW.claim.pre args=true)(hwl:WellAll P h vals args):
  ∃a vs ns,vals=[Value.ref a]/\args=[WData.list (ns.map WData.int)]/\h.get? a=some { cls:=.type "list",data:=.seq vs.toArray }/\Sl vs ns/\ns.length<=n:=by
 have hsh:=(pre_splitW hpre).1;have hc:l.pre.holds [] { args:=args }=true:=(pre_splitW hpre).2;obtain⟨d,r,rfl,h1,h2⟩:=hasAllW_cons hsh;obtain rfl:=hasAllW_nil h2;obtain⟨xs,rfl,h3⟩:=hasW_list h1;obtain⟨ns,rfl⟩:=items_int h3;have hlen:ns.length<=n:=by
  have h4:(WTm.not (.lt (.lit (.int (n:Int))) (.len (.arg 0)))).holds [] { args:=[.list (ns.map .int)] }=true:=by
   have h4:=(holds_andW hc).1;rw[hn] at h4;exact h4
  have h5:=condW_of h4 (w_not (w_lt w_lit (w_len_list (w_arg rfl))));first
   |(rw[decide_eq_true q'] at h5;exact absurd h5 (by decide))
   |(simp at h5;lia)
 cases hwl with
 |cons w1 w2 =>
  cases w2;cases w1 with
  |list ho hall=>exact⟨_,_,ns,rfl,rfl,ho,q7d ns _ hall,hlen⟩
theorem z6w(l:OpenLaw)(args:List WData):l.row.toRowW.claim.post args (.bool true) args=true :=
 postW_of
  (show WShape.has [] (.bool true) .bool=true by first|rfl|decide|simp[WShape.has,WShape.arms,WShape.armsAll])
  (show(WTm.eq .res (.lit (.bool true))).value [] { args:=args,res:=some (.bool true),after:=args }=some (.bool (true==true)) from w_eq_bool (w_res rfl) w_lit) rfl
theorem attach_call{l:OpenLaw}(hn:l.most=some n)(hdf:d.params.defaults=[])(call:∀(w:World) (s₀ s₁:Af) (mg mb:Str->Option Value) (fa:Addr) (o:Obj) (pm cd doc:Value) (a:Addr) (vs:List Value) (ns:List Int),
   Ground q loose [] XP w s₀ mg mb s₁.heap->YP w s₁.heap ->
   s₁.heap.get? fa=some o->o.data=.func (docDef d.name d.params d.body d.scope pm cd doc)->s₁.heap.CodeRec cd d.name->mg d.name=some (.ref fa) ->
   s₁.heap.get? a=some { cls:=.type "list",data:=.seq vs.toArray }->Sl vs ns->ns.length<=n->s₁.gens=#[] ->
   Fv (model l.prog w) Od (.call (.ref fa) ⟨[.ref a],[]⟩) (fun r s'=>r=.ok (.ret (.bool true))/\OldK s₁.heap s'.heap/\s'.os=s₁.os/\Kj s'.gens) s₁):
  WalkO q loose XP YP l.row.toRowW d [] (fun f vs=>Ue f vs):=by
 intro w s₀ s₁ mg mb G Y fa o pm cd doc dV kV ho hd hcd hD hmg hg args vals as hpre hlay hrd hwl hlo;obtain rfl:dV=.none:=Dflts.none hD hdf;obtain rfl:kV=.none:=Dflts.noKw hD;obtain⟨a,vs,ns,rfl,rfl,hobj,hints,hlen⟩:=z6v hn hpre hwl;refine enter_call (Hj (call w s₀ s₁ mg mb fa o pm cd doc a vs ns G Y ho (fd_plain hd) hcd hmg hobj hints hlen hg) fun r s' hq=>?_);obtain⟨rfl,h2,h3,h4⟩:=hq;exact⟨.inl ⟨.bool true,.bool true,[],rfl,fun _=>rfl,.bool true,z6w l _,fun _=>⟨List.Pairwise.nil,fun _ hm=>(nomatch hm)⟩⟩,h2,h3,h4⟩
end Att
namespace L2
open PySem PySem.Spec PyProof.Rows
theorem z0u:∀{vs:List Value} {ns:List Int},Sl vs ns->Vals (ns.map V.int) vs
 |_,_,.nil=>.nil
 |_,_,.cons n t h=>.cons ⟨t,rfl⟩ (z0u h)
def Only(H:Hp):Prop:=∀b,H b=none\/∃o xs,H b=some (.frz o (.lst xs))
theorem x0l{K:Ah}(KX:K.In s₁.heap)(hns:s₁.heap.Ns Ck mg)(hb:s₁.heap.Ns builtinsNs mb)(hbb:∀x:Str,x ≠ "__name__" -> mb x=Hg x)(hlim:s₁.heap.NoLimit)(hg:s₁.gens=#[])(ha:s₁.heap.get? a=some { cls:=.type "list",data:=.seq vs.toArray })(hi:Sl vs ns)(hl:ns.length<=sizeLine)(hr:Room k Od)(F:∀base:Heap,K.In base->base.Ns Ck mg->FnOk P w K mg base CX k fa fd [x] sp)(hbind:∀(s:Af) (u:Value),Qa s fd ⟨[u],[]⟩ [(x,u)])(hsp:∀H:Hp,Only H->SqL K H a (ns.map V.int)->sp [.ref a] H (fun v _=>v=.bl true) fun _ _ _=>False)(hCX:∀H e s',CX [] H s₁ (fun _ _ _=>False) e s'->False):
  Fv (model P w) Od (.call (.ref fa) ⟨[.ref a],[]⟩) (fun r s'=>r=.ok (.ret (.bool true))/\OldK s₁.heap s'.heap/\s'.os=s₁.os/\Kj s'.gens) s₁:=by
 have rv:=z0u hi;have lenV:=hi.length;have core:∀H:Hp,Only H->SqL K H a (ns.map V.int)->HOk P w H s₁.heap->(∀b,H b≠none->b=a)->(H a≠none->K.lookup a=none) ->
   Fv (model P w) Od (.call (.ref fa) ⟨[.ref a],[]⟩) (fun r s'=>r=.ok (.ret (.bool true))/\OldK s₁.heap s'.heap/\s'.os=s₁.os/\Kj s'.gens) s₁:=by
  intro H hO hS hok hA hK;have base_of:∀{b:Addr} {o:Obj},s₁.heap.get? b=some o->H b=none->(hidT s₁.heap H).get? b=some o:=fun e n=>z9x e n;have noA:∀{b:Addr} {o:Obj} {es:Array Iv} {ep:Nat},s₁.heap.get? b=some o->o.data=.dict es ep->H b=none:=fun{b o es ep} e d=>by
   cases q:H b with
   |none=>rfl
   |some u =>
    have e':=hA b (by rw[q];simp);subst e';rw[ha] at e;cases e;have d':=d;cases d'
  have nsK:∀{b:Addr} {m:Str->Option Value},s₁.heap.Ns b m->(hidT s₁.heap H).Ns b m:=fun{b m} ⟨o,es,ep,e,d,r⟩=>⟨o,es,ep,base_of e (noA e d),d,r⟩
  have hKb:=fun b o e=>base_of (KX b o e) (by
   cases q:H b with
   |none=>rfl
   |some u =>
    have e':=hA b (by rw[q];simp);subst e';rw[hK (by rw[q];simp)] at e;cases e)
  have hM:Mod K mg (hidT s₁.heap H):=⟨hKb,nsK hns,⟨mb,nsK hb,hbb⟩,let ⟨mc,h1,h2⟩:=hlim;⟨mc,nsK h1,h2⟩⟩
  have e0:Env0 P w K mg (hidT s₁.heap H) Od [] s₁ H:=⟨rfl,hM,fun b o e=>x3d e,Jw (z6d _ _),trivial,fun b hb=>absurd (show b∈([]:List Addr) from hb) (by simp),hok,.of_eq hg⟩
  refine Hj ((F _ hKb (nsK hns)).run Od [] s₁ H ⟨[.ref a],[]⟩ [.ref a] [.ref a] _ _ hr e0 (hbind s₁ (.ref a)) (.cons rfl .nil) (hsp H hO hS)) fun r s' h=>?_;cases r with
  |error e=>exact(hCX H e s' h).elim
  |ok fl =>
   cases fl with
   |next=>exact False.elim h
   |brk=>exact False.elim h
   |cont=>exact False.elim h
   |ret u =>
    obtain⟨v,H',os,bare,un,hok',r',q⟩:=h;have q':=q;subst q';obtain rfl:u=Value.bool true:=r';refine⟨rfl,OldK.of_keep fun b o e=>?_,os,bare⟩;cases q:H b with
    |none=>exact un.keep b o e q (by intro z;exact absurd (show b∈([]:List Addr) from z) (by simp)) (by simp)
    |some u =>
     rcases hO b with z|⟨ob,xs,z⟩
     ·grind
     ·have z2:=un.frzs b ob _ z;obtain⟨e1,_⟩:=hok b _ z;obtain⟨e2,_⟩:=hok' b _ z2;rw[e] at e1;cases e1;exact e2
 cases hk:K.lookup a with
 |some o =>
  have e:=KX a o hk;rw[ha] at e;cases e;refine core (fun _=>none) (fun _=>.inl rfl) (.inr ⟨_,vs.toArray,_,hk,rfl,rfl,rfl,by rw[Av,lenV];exact hl,by simpa using rv⟩) (fun b u z=>by have z':(none:Option HO)=some u:=z;cases z') (fun b z=>absurd rfl z) fun z=>absurd rfl z
 |none =>
  refine core (fun b=>if b=a then some (.frz { cls:=.type "list",data:=.seq vs.toArray } (.lst (ns.map V.int))) else none) (fun b=>?_) (.inl (.inr ⟨{ cls:=.type "list",data:=.seq vs.toArray },if_pos rfl⟩)) (fun b u z=>?_) (fun b z=>?_) fun _=>hk
  ·by_cases hb:b=a
   ·simp_all
   ·simp_all
  ·by_cases hb:b=a
   ·have z':=(if_pos hb).symm.trans z;cases z';subst hb;exact⟨ha,by rw[Ac];exact hl,vs,_,rv,ha⟩
   ·grind
  ·grind
theorem walk_of{l:Uo}{K:Params->Ah}{CX:World->CXT}{sp:World->Sp}(hn:l.most=some n)(hn2:n<=sizeLine)(hdf:d.params.defaults=[])(hr:Room k Od)(hY:∀(w:World) (h:Heap),YP w h->(K w.params).In h)(F:∀(w:World) (mg:Str->Option Value) (fa:Addr) (h:Heap),(K w.params).In h->h.Ns Ck mg->mg d.name=some (.ref fa) ->
   ∃fd:Ja,(∀(s:Af) (u:Value),Qa s fd ⟨[u],[]⟩ [(x,u)]) /\
    ∀base:Heap,(K w.params).In base->base.Ns Ck mg->FnOk l.prog w (K w.params) mg base (CX w) k fa fd [x] (sp w))(hsp:∀(w:World) (H:Hp) (a:Addr) (ns:List Int),ns.length<=n->Only H->SqL (K w.params) H a (ns.map V.int)->sp w [.ref a] H (fun v _=>v=.bl true) fun _ _ _=>False)(hCX:∀(w:World) (H:Hp) (s:Af) (e:Value) (s':Af),CX w [] H s (fun _ _ _=>False) e s'->False):
  W.WalkO q loose XP YP l.row.toRowW d [] (fun f vs=>Ue f vs):=by
 refine Att.attach_call hn hdf fun w s₀ s₁ mg mb fa o pm cd doc a vs ns G Y ho hd hcd hmg hobj hints hlen hg=>?_;have KX:=hY w _ Y;obtain⟨fd,hb,hF⟩:=F w mg fa _ KX G.T.g hmg;exact x0l KX G.T.g G.T.b G.T.builtins G.T.nolimit hg hobj hints (Cn hlen hn2) hr hF hb (fun H hO hS=>hsp w H a ns hlen hO hS) fun H e s'=>hCX w H s₁ e s'
def inClass(s:Stmt)(j:Nat):Stmt:=match s with
 |.ClassDef _ _ _ body _ _ _ _ _ _ _=>body.getD j (.Pass ⟨0,0,0,0⟩)
 |_=>.Pass ⟨0,0,0,0⟩
def defArgs(s:Stmt):Arguments:=match s with
 |.FunctionDef _ a _ _ _ _ _ _ _ _=>a
 |_=>{ posonlyargs:=[],args:=[],vararg:=none,kwonlyargs:=[],kw_defaults:=[],kwarg:=none,defaults:=[] }
def defBody(s:Stmt):List Stmt:=match s with
 |.FunctionDef _ _ b _ _ _ _ _ _ _=>b
 |_=>[]
def defScope(s:Stmt):Scope:=match s with
 |.FunctionDef _ _ _ _ _ _ sc _ _ _=>sc
 |_=>{ kind:=.function,names:=[],isGenerator:=false,isCoroutine:=false }
abbrev CX0:CXT:=fun _ _ _ _ _ _=>False
abbrev E0:XK:=fun _ _ _=>False
theorem pass0:Passes CX0 X E0:=fun _ _ _ _ _ _ _ h=>h.elim
structure Fun (K:Ah) (x qual:Str) (st:Stmt) (f:Addr) (fd:Ja):Prop where
 ex:∃(oc:Value) (od:Option Addr) (kV doc pm:Value) (an:Option Addr) (cdv ct:Value) (osl:Array (Option Value)),
  fd=Hm x qual (defArgs st) (defBody st) (defScope st) .none kV doc pm an cdv ct/\K.lookup f=some ⟨oc,od,.func fd,osl⟩/\Jb K cdv qual=true
 kp:Ew K (.ref f)=true
section
variable{P:Program}{w:World}{K:Ah}{mg:Str->Option Value}{base:Heap}
theorem Fun.ok{st:Stmt}(F:Fun K x qual st f fd)(S:FnScope N ps (defScope st))(len:∀vs H Q E,sp vs H Q E->vs.length=ps.length)(hbody:∀(cdv:Value) (A:Around) (outer:List Env) (s:Af) (H:Hp) (vs:List V) (Q:VK) (E:XK),Room k (A.deeper (Gu qual (defScope st) s.heap.objs.size f cdv))->sp vs H Q E ->
   ∃t,PSs (cxOf CX0 P w K mg base N qual (defScope st) f cdv A outer s H E).nox (defBody st) t/\t { nx:=fun _ H'=>Q .non H',rt:=Q } (start N vs) H):FnOk P w K mg base CX0 (k+1) f fd ps sp:=by
 obtain⟨oc,od,kV,doc,pm,an,cdv,ct,osl,rfl,lk,hcd⟩:=F.ex;refine z6p lk hcd S len fun A outer s H vs Q E hr hsp=>?_
 obtain⟨t,h,q⟩:=hbody cdv A outer s H vs Q E hr hsp;exact⟨t,h.nox,q⟩
theorem Fun.binds{st:Stmt}(F:Fun K x qual st f fd)(h:∀(kV doc pm:Value) (an:Option Addr) (cdv ct:Value) (us:List Value),us.length=ps.length->bindArgs (Hm x qual (defArgs st) (defBody st) (defScope st) .none kV doc pm an cdv ct) ⟨us,[]⟩=pure (ps.zip us)):Binds K fd ps []:=by
 obtain⟨oc,od,kV,doc,pm,an,cdv,ct,osl,rfl,lk,hcd⟩:=F.ex;exact .all (h kV doc pm an cdv ct)
theorem q8q{st:Stmt}{kV:Value}(l:K.lookup f=some ⟨oc,od,.func (Hm x qual (defArgs st) (defBody st) (defScope st) .none kV doc pm an cdv ct),osl⟩)(c:Jb K cdv qual=true)(k:Ew K (.ref f)=true):Fun K x qual st f (Hm x qual (defArgs st) (defBody st) (defScope st) .none kV doc pm an cdv ct):=⟨⟨oc,od,kV,doc,pm,an,cdv,ct,osl,rfl,l,c⟩,k⟩
end
theorem q2v(hr:Room k A):A.units+1<cLine:=Nf (Nat.add_le_add_left (by decide:1<=64) _) hr.units
section
variable{X:Cx}
theorem pv(i:Nat){x:Str}{pos:Pos}(hN:X.N[i]?=some x:=by rfl)(hv:Vis X.env.scope x:=by first|exact Or.inl rfl|exact Or.inr (Or.inl rfl)|exact Or.inr (Or.inr rfl))(hd:(x==("__debug__" : Str))=false:=by decide)(hcd:(x==("__classdict__" : Str))=false:=by decide):PE X (.Name x pos) (tVar i):=pe_var hN hv hd hcd
end
theorem iteF{B:Prop}(h:B):if false=true then A else B:=by
 exact h
theorem iteT{B:Prop}(h:A):if true=true then A else B:=by
 exact h
theorem ite2{B:Prop}[Decidable c](h1:c->A)(h2:¬c->B):if c then A else B:=by grind
def Same(H H':Hp):Prop:=∀b o,H b=some o->H' b=some o
theorem Same.refl(H:Hp):Same H H:=fun _ _ h=>h
theorem Same.trans(a:Same H H1)(b:Same H1 H2):Same H H2:=fun c o h=>b c o (a c o h)
theorem Same.free(e:Same H H')(h:H' l=Option.none):H l=Option.none:=by
 cases q:H l with
 |none=>rfl
 |some o =>
  rw[e l o q] at h;cases h
theorem Same.seq{K:Ah}(e:Same H H')(h:SqL K H a xs):SqL K H' a xs:=by
 rcases h with(h|⟨o,h⟩)|h
 ·exact .inl (.inl (e _ _ h))
 ·exact .inl (.inr ⟨o,e _ _ h⟩)
 ·exact .inr h
open PySem PySem.Spec PyProof.Rows
abbrev Caps:=List (Str×Nat)
def capV(σ:St):Caps->St
 |[]=>[]
 |(_,i)::r=>(σ[i]?).join::capV σ r
def CapOk(X:Cx)(scope:Scope):Caps->Prop
 |[]=>True
 |(x,i)::r=>(X.N[i]?=some x/\scope.names.lookup x=some .free/\(X.env.scope.names.lookup x=some .cell\/X.env.scope.names.lookup x=some .free))/\CapOk X scope r
def cxComp(X:Cx)(N:List Str)(scope:Scope)(cl:List (Str×Addr))(C:Addr)(fp:List Addr)(s:Af)(H:Hp):Cx where
 prog:=X.prog
 w:=X.w
 K:=X.K
 mg:=X.mg
 base:=X.base
 A:=X.A
 N:=N
 s₀:=s
 H₀:=H
 env:=Fg scope cl C X.env
 outer:=X.stack
 stack:=X.stack
 ex:=fp
 fn:=fun _=>false
 calm:=X.calm
 pn:=[]
 xe:=fun _ _=>False
theorem z5c(names:List (Str×Bh))(hh:∀x,(x,Bh.free)∈names->∃c,env.cells.lookup x=some c):∀acc:List (Str×Addr),
  ∃cl,(forIn names acc (fun(x:Str×Bh) (r:List (Str×Addr))=>match x with
   |(name,kind)=>if (kind==Bh.free)=true then do let a<-cellOf env name;pure (ForInStep.yield ((name,a)::r)) else pure (ForInStep.yield r)):Sem (List (Str×Addr)))=pure cl /\
   (∀x c,(x,c)∈cl->(x,c)∈acc\/env.cells.lookup x=some c)/\(∀x,((x,Bh.free)∈names\/∃c,(x,c)∈acc)->∃c,(x,c)∈cl):=by
 induction names with
 |nil=>intro acc;exact⟨acc,rfl,fun x c h=>.inl h,fun x h=>h.elim (fun z=>nomatch z) id⟩
 |cons n r ih =>
  intro acc;obtain⟨name,kind⟩:=n;by_cases hk:kind=Bh.free
  ·subst hk;obtain⟨c,hc⟩:=hh name Ao;obtain⟨cl,e,h1,h2⟩:=ih (fun x hx=>hh x (Ak _ hx)) ((name,c)::acc);refine⟨cl,?_,fun x d hd=>?_,fun x hx=>?_⟩
   ·rw[Pc];have:cellOf env name=pure c:=by unfold cellOf;rw[hc]
    simp only[beq_self_eq_true,if_true,this];exact e
   ·rcases h1 x d hd with z|z
    ·rcases Bd.mp z with z|z
     ·cases z;exact .inr hc
     ·exact .inl z
    ·exact .inr z
   ·refine h2 x ?_;rcases hx with hx|⟨d,hd⟩
    ·rcases Bd.mp hx with z|z
     ·simp_all
     ·exact .inl z
    ·grind
  ·obtain⟨cl,e,h1,h2⟩:=ih (fun x hx=>hh x (Ak _ hx)) acc;refine⟨cl,?_,h1,fun x hx=>h2 x ?_⟩
   ·simp_all
   ·grind
theorem q9j{cl:List (Str×Addr)}(h:(x,c)∈cl):∃d,cl.lookup x=some d:=by
 induction cl with
 |nil=>cases h
 |cons y r ih =>
  obtain⟨n,a⟩:=y;cases e:x==n with
  |true=>simp_all
  |false =>
   rcases Bd.mp h with z|z
   ·cases z;simp at e
   ·obtain⟨d,hd⟩:=ih z;exact⟨d,by simp only[Jd,e];exact hd⟩
theorem z5d(hh:∀x,(x,Bh.free)∈scope.names->∃c,env.cells.lookup x=some c):
  ∃cl,Ug scope env=pure cl/\(∀x c,cl.lookup x=some c->env.cells.lookup x=some c)/\∀x,(x,Bh.free)∈scope.names->∃c,cl.lookup x=some c:=by
 obtain⟨cl,e,h1,h2⟩:=z5c scope.names hh [];refine⟨cl,?_,fun x c h=>?_,fun x hx=>?_⟩
 ·unfold Ug;have e2:=congrArg (fun m:Sem (List (Str×Addr))=>m >>= fun cs=>(pure cs:Sem _)) e;exact e2
 ·rcases h1 x c (Em h) with z|z
  ·cases z
  ·exact z
 ·obtain⟨c,hc⟩:=h2 x (.inl hx);exact q9j hc
theorem q4n{env:Env}{k:Bh}(hk:k=.cell\/k=.free):∀{names:List (Str×Bh)} {x:Str},(∀y∈names,y.2≠.cell) ->
  (names.map fun(n,k)=>if (k==Bh.free&&env.scope.kind==.function&&env.kindOf n==some .cell) then(n,Bh.cell) else(n,k)).lookup x=some k->(x,Bh.free)∈names
 |[],_,_,h=>by simp at h
 |(n,k')::r,x,hc,h=>by
  have ih:=@q4n env k hk r x fun y hy=>hc y (Ak _ hy);by_cases c:(k'==Bh.free&&env.scope.kind==.function&&env.kindOf n==some .cell)=true
  ·have h':((n,Bh.cell)::r.map fun(n,k)=>if (k==Bh.free&&env.scope.kind==.function&&env.kindOf n==some .cell) then(n,Bh.cell) else(n,k)).lookup x=some k:=by
    have e:(if (k'==Bh.free&&env.scope.kind==.function&&env.kindOf n==some .cell)=true then(n,Bh.cell) else(n,k'))=(n,Bh.cell):=if_pos c;rw[<- e];exact h
   cases e:x==n with
   |true =>simp_all
   |false=>exact Ak _ (ih (by simp only[Jd,e] at h';exact h'))
  ·have h':((n,k')::r.map fun(n,k)=>if (k==Bh.free&&env.scope.kind==.function&&env.kindOf n==some .cell) then(n,Bh.cell) else(n,k)).lookup x=some k:=by
    have e:(if (k'==Bh.free&&env.scope.kind==.function&&env.kindOf n==some .cell)=true then(n,Bh.cell) else(n,k'))=(n,k'):=if_neg c;rw[<- e];exact h
   cases e:x==n with
   |true =>simp_all
   |false=>exact Ak _ (ih (by simp only[Jd,e] at h';exact h'))
theorem q6d{env:Env}:∀{names:List (Str×Bh)} {x:Str},names.lookup x=some .free ->
    ((names.map fun(n,k)=>if (k==Bh.free&&env.scope.kind==.function&&env.kindOf n==some .cell) then(n,Bh.cell) else(n,k)).lookup x=some .cell \/
     (names.map fun(n,k)=>if (k==Bh.free&&env.scope.kind==.function&&env.kindOf n==some .cell) then(n,Bh.cell) else(n,k)).lookup x=some .free)
  |[],_,h=>by simp at h
  |(n,k')::r,x,h=>by
    have ih:=@q6d env r x;by_cases c:(k'==Bh.free&&env.scope.kind==.function&&env.kindOf n==some .cell)=true
    · have e:(if (k'==Bh.free&&env.scope.kind==.function&&env.kindOf n==some .cell)=true then(n,Bh.cell) else(n,k'))=(n,Bh.cell):=if_pos c;show(List.lookup x ((if (k'==Bh.free&&env.scope.kind==.function&&env.kindOf n==some .cell)=true then(n,Bh.cell) else(n,k'))::_)=_\/List.lookup x ((if (k'==Bh.free&&env.scope.kind==.function&&env.kindOf n==some .cell)=true then(n,Bh.cell) else(n,k'))::_)=_);rw[e];cases ex:x==n with
      |true=>simp_all
      |false =>
        simp only[Jd,ex] at h ⊢;exact ih h
    · have e:(if (k'==Bh.free&&env.scope.kind==.function&&env.kindOf n==some .cell)=true then(n,Bh.cell) else(n,k'))=(n,k'):=if_neg c;show(List.lookup x ((if (k'==Bh.free&&env.scope.kind==.function&&env.kindOf n==some .cell)=true then(n,Bh.cell) else(n,k'))::_)=_\/List.lookup x ((if (k'==Bh.free&&env.scope.kind==.function&&env.kindOf n==some .cell)=true then(n,Bh.cell) else(n,k'))::_)=_);rw[e];cases ex:x==n with
      |true =>simp_all
      |false =>
        simp only[Jd,ex] at h ⊢;exact ih h
theorem q7e(σ:St):∀caps:Caps,(capV σ caps).length=caps.length
 |[]=>rfl
 |(_,_)::r=>congrArg (· + 1) (q7e σ r)
theorem z3q:∀{caps:Caps} {j:Nat} {x:Str} {v:V},CapOk X scope caps->(caps.map (·.1))[j]?=some x->(capV σ caps)[j]?=some (some v) ->
  ∃i:Nat,X.N[i]?=some x/\σ[i]?=some (some v)/\scope.names.lookup x=some .free/\(X.env.scope.names.lookup x=some .cell\/X.env.scope.names.lookup x=some .free)
 |[],_,_,_,_,h,_=>by simp at h
 |(y,i)::r,0,x,v,hc,h1,h2=>by
  simp at h1;subst h1;have e:(σ[i]?).join=some v:=by simpa[capV] using h2
  refine⟨i,hc.1.1,?_,hc.1.2⟩;cases q:σ[i]? with
  |none=>rw[q] at e;cases e
  |some z=>simp_all
 |(y,i)::r,j+1,x,v,hc,h1,h2=>z3q hc.2 (by simpa using h1) (by simpa[capV] using h2)
def tg0(tg:List Str)(σ:St)(caps:Caps):St:=tg.map (fun _=>none)++capV σ caps
theorem Inv.ofcomp{σ:St}{C:Addr}(tg:List Str)(I:Inv X pins σ H s)(hkind:scope.kind=.function)(hnc:∀y∈scope.names,y.2≠.cell)(hc1:∀x c,cl.lookup x=some c->X.env.cells.lookup x=some c)(hc2:∀x,(x,Bh.free)∈scope.names->∃c,cl.lookup x=some c)(hf:∀b∈fp,FpOk X pins H b)(hfo:∀b∈fp,∃o,s.heap.get? b=some o)(hC:s.heap.objs.size<=C)(hns:h₁.Ns C m)(hk:∀b o,s.heap.get? b=some o->h₁.get? b=some o)(co:CapOk X scope caps):
  Inv (cxComp X (tg++caps.map (·.1)) scope cl C fp s H) [] (tg0 tg σ caps) H { s with heap:=h₁,toks:=tk }:=by
 have hfs:∀b∈fp,b∉frs X.stack:=fun b hb hx=>by
  rcases Bd.mp (I.stkSub b hx) with z|z
  ·exact(hf b hb).2.1 z
  ·exact(hf b hb).2.2.1 z
 have ok:(cxComp X (tg++caps.map (·.1)) scope cl C fp s H).Ok:=by
  refine⟨I.ok.mod,hkind,I.ok.glob,I.ok.blt,hC,fun x y c h1 h2=>I.ok.inj x y c (hc1 x c h1) (hc1 y c h2),fun x hx=>?_,fun x c h=>(nomatch h),I.ok.hd,I.ok.frames,.inl rfl,fun b hb=>⟨?_,fun x c h=>(hf b hb).2.2.2.2.1 x c (hc1 x c h)⟩,
   I.bs,Cn I.ok.bsz I.sz,fun b o e hb=>?_,hfs,I.stack,I.stkFree⟩
  ·rcases hx with hx|hx
   ·exact hc2 x (q4n (.inl rfl) hnc hx)
   ·exact hc2 x (q4n (.inr rfl) hnc hx)
  ·obtain⟨o,e⟩:=hfo b hb;exact Bc (Bj (Am e) hC)
  ·rcases(hf b hb).2.2.2.1 with z|z
   ·exact I.ok.noex b o e z
   ·exact absurd (Bj (Am (I.ok.bs b o e).1) z) (Fn _)
 refine⟨ok,rfl,I.bare,Un.kept hk,⟨m,hns,fun j x v h1 h2 h3=>?_⟩,fun x c h=>?_,I.hok.fresh hC,fun x c h=>I.freeC x c (hc1 x c h),fun p hp=>(nomatch hp),I.hok.kept hk,?_⟩
 ·have h1':(tg++caps.map (·.1))[j]?=some x:=h1;have h2':(tg.map (fun _=>none)++capV σ caps)[j]?=some (some v):=h2;by_cases hj:j<tg.length
  ·rw[Gx (by simpa using hj),Aq] at h2';cases e:tg[j]? with
   |none=>grind
   |some z=>simp_all
  ·rw[Gq (by simpa using hj)] at h2' h1';rw[Ac] at h2';obtain⟨i,e1,e2,e3,e4⟩:=z3q co h1' h2';obtain⟨mX,hn,hl⟩:=I.loc;obtain⟨u,r,l⟩:=hl i x v e1 e2 (.inr e4);refine⟨u,r,?_⟩;have key:∃c,X.env.cells.lookup x=some c/\s.heap.IsCell c (some u):=by
    rcases l with⟨k,_⟩|⟨_,c,e,z⟩
    ·have k':X.env.scope.names.lookup x=some .local:=k;rcases e4 with e4|e4 <;> · rw[e4] at k';cases k'
    ·exact⟨c,e,z⟩
   obtain⟨c,ec,o,ho,hd⟩:=key;obtain⟨d,ed⟩:=hc2 x (Em e3);have hdc:=Dy ((hc1 x d ed).symm.trans ec);subst hdc;exact .inr ⟨q6d e3,d,ed,o,hk _ o ho,hd⟩
 ·obtain⟨v,o,ho,hd⟩:=I.cell x c (hc1 x c h);exact⟨v,o,hk _ o ho,hd⟩
 ·show(tg.map (fun _=>(none:Option V))++capV σ caps).length=(tg++caps.map (·.1)).length;rw[Ai,Ai,Ac,Ac,q7e]
def PIfs(X:Cx)(ifs:List Expr)(t:TT):Prop :=
 ∀(pins:List (Addr×Obj)) (s:Af) (σ:St) (H:Hp) (Q:Bool->Hp->Prop),Inv X pins σ H s->t σ H Q ->
  wpAny (model X.prog X.w) X.A (forIn ifs true fun c r=>if r=true then do let ok<-isTrue c X.env (eval c X.env);pure (ForInStep.yield ok) else pure (ForInStep.yield r)) (TP X pins σ Q) X.xe s
def tIf0:TT:=fun _ H Q=>Q true H
theorem q1r:PIfs X [] tIf0:=fun pins s σ H Q I h=>wpAny_tests_nil ⟨H,I,h⟩
theorem z2j{X:Cx}{c:Expr}{t:TT}(h:PT X c t):PIfs X [c] t:=fun pins s σ H Q I q=>wpAny_tests_one (h pins s σ H Q I q)
def Keeps0(σ0 σ2:St):Prop:=σ0.length=σ2.length/\∀(i:Nat) v,σ0[i]?=some (some v)->σ2[i]?=some (some v)
def CompW(J:It)(g:TG)(tt:TT)(te:TE)(σ0:St)(D:Addr)(Fin:List V->Hp->Prop)(H1:Hp):Prop :=
 ∃W:Nat->Nat->List V->Hp->Prop,(∃m,W 0 m [] (upd H1 D (.lst [])))/\∀i m ys H,W i m ys H->H D=some (.lst ys) /\
  ((J.stop i H/\Fin ys H)\/(J.go i H/\∃N:List V->Hp->Prop,(∀zs H',N zs H'->∃m',m'<m/\W (i+1) m' zs H')/\∀x H',J.yld i H x H'->g x σ0 H' fun σ2 H2=>Keeps0 σ0 σ2/\tt σ2 H2 fun b H3 =>
   if b=true then te σ2 H3 fun v H4=>H4 D=some (.lst ys)/\ys.length<sizeLine/\N (ys++[v]) (upd H4 D (.lst (ys++[v])))
   else N ys H3))
theorem z3r{σ:St}{Fin:Addr->List V->Hp->Prop}{RR:Value->Addr->Result->Af->Prop}(hc:X.calm=true)(hkind:scope.kind=.function)(hnc:∀y∈scope.names,y.2≠.cell)(hc1:∀x c,cl.lookup x=some c->X.env.cells.lookup x=some c)(hc2:∀x,(x,Bh.free)∈scope.names->∃c,cl.lookup x=some c)(co:CapOk X scope caps)(hg:∀C s H,PG (cxComp X (tg++caps.map (·.1)) scope cl C fp s H) target g)(ht:∀C s H,PIfs (cxComp X (tg++caps.map (·.1)) scope cl C fp s H) ifs tt)(he:∀C s H,PE (cxComp X (tg++caps.map (·.1)) scope cl C fp s H) elt te)(I2:Inv X pins σ H1 s₂)(T:Turn X.prog X.w X.K target J fp it tn)(st:tn 0 s₂.heap)(hf:∀b∈fp,FpOk X pins H1 b)(hw:∀D,H1 D=none->CompW J g tt te (tg0 tg σ caps) D (Fin D) H1)(hRR:∀D C ys H' s',H1 D=none->Inv X pins σ H' s'->(∃m,s'.heap.Ns C m)->FpOk X pins H' C->Fin D ys H'->RR (.ref D) C (.ok .next) s'):
  wpAny (model X.prog X.w) X.A (newList []) (fun acc s₃=>wpAny (model X.prog X.w) X.A (newFunctionEnv scope X.env.globals cl [] X.env.qual none .none (some X.env)) (fun cenv s₄ =>
   Fv (model X.prog X.w) X.A (.compStart (.ListComp elt [⟨target,iter,ifs,0⟩] scope pos) 0 (.ref it) acc { cenv with scope:=relabel scope X.env }) (RR acc cenv.locals) s₄) E s₃) E s₂:=by
 have I3:Inv X pins σ (upd H1 s₂.heap.objs.size (.lst [])) { s₂ with heap:=s₂.heap.push { cls:=.type "list",dict:=none,data:=.seq ([]:List Value).toArray },toks:=s₂.toks }:=I2.lnew .nil (Br _);have hD0:=I2.fresh;refine Bv (Qr hnc (by intro y hy;simp at hy) (fun h₁ hns₁ hsb₁=>?_) hkind);dsimp only at hns₁ hsb₁ ⊢;generalize hDd:s₂.heap.objs.size=D at I3 hD0 hns₁ hsb₁ ⊢;generalize hs3:({ s₂ with heap:=s₂.heap.push { cls:=.type "list",dict:=none,data:=.seq ([]:List Value).toArray } }:Af)=s₃ at I3 hns₁ hsb₁ ⊢;have e3:s₂.heap.push { cls:=.type "list",dict:=none,data:=.seq ([]:List Value).toArray }=s₃.heap:=by grind
 have o3:({ s₂ with heap:=h₁,toks:=s₂.toks+([]:List (Str×Value)).length }:Af)={ s₃ with heap:=h₁,toks:=s₂.toks }:=by grind
 have size3:s₃.heap.objs.size=D+1:=by rw[<- e3,He,hDd]
 rw[e3] at hns₁ hsb₁ ⊢;have old3:∀b o,s₂.heap.get? b=some o->s₃.heap.get? b=some o:=fun b o e=>by rw[<- e3];exact Ag _ e
 generalize hCd:s₃.heap.objs.size=C at hns₁ hsb₁ ⊢;have hk:=fun b o e=>hsb₁.extBut b o (by rw[<- hCd];exact Bc (Am e)) (Ag _ e);have fpo:∀b∈fp,∃o,s₂.heap.get? b=some o:=fun b hb=>by obtain⟨o,e,_⟩:=T.obj 0 _ st b hb;exact⟨o,e⟩
 have fpne:∀b∈fp,b≠D:=fun b hb=>by obtain⟨o,e⟩:=fpo b hb;rw[<- hDd];exact Bc (Am e)
 have hf3:∀b∈fp,FpOk X pins (upd H1 D (.lst [])) b:=fun b hb=>⟨by rw[q0e (fpne b hb)];exact(hf b hb).1,(hf b hb).2⟩
 have IY:=Inv.ofcomp (tk:=s₂.toks) tg I3 hkind hnc hc1 hc2 hf3 (fun b hb=>let ⟨o,e⟩:=fpo b hb;⟨o,old3 b o e⟩) (Jw hCd) hns₁ hk co;have FC:FpOk X pins H1 C:=by
  have z:=I3.fpOk (H':=H1) (Jw hCd) (I2.hok.fresh (by rw[hDd,<- hCd,size3];exact Ig _));exact z
 generalize hY:cxComp X (tg++caps.map (·.1)) scope cl C fp s₃ (upd H1 D (.lst []))=Y at IY;have hgY:PG Y target g:=by grind
 have htY:PIfs Y ifs tt:=by grind
 have heY:PE Y elt te:=by grind
 have hYp:Y.prog=X.prog:=by rw[<- hY];rfl
 have hYw:Y.w=X.w:=by rw[<- hY];rfl
 have hYK:Y.K=X.K:=by rw[<- hY];rfl
 have hYA:Y.A=X.A:=by rw[<- hY];rfl
 have hYe:Y.env=Fg scope cl C X.env:=by rw[<- hY];rfl
 have hYx:Y.ex=fp:=by rw[<- hY];rfl
 have hYn:Y.pn=[]:=by rw[<- hY];rfl
 have hYc:Y.calm=true:=by rw[<- hY];exact hc
 have hYxe:Y.xe=fun _ _=>False:=by rw[<- hY];rfl
 have fpY:∀{H':Hp},(∀b∈fp,H' b=none)->∀b∈fp,FpOk Y [] H' b:=fun{H'} hn b hb=>by
  refine⟨hn b hb,?_,?_,.inl (by rw[hYx];exact hb),fun x c e=>?_,fun p hp=>?_⟩
  ·have:=(IY.ok.exf b (by rw[hYx];exact hb)).1;exact this
  ·exact IY.ok.exfs b (by rw[hYx];exact hb)
  ·exact(IY.ok.exf b (by rw[hYx];exact hb)).2 x c e
  ·grind
 obtain⟨W,⟨m0,w0⟩,turn⟩:=hw D hD0;have stY:=T.keep 0 _ _ st fun b hb o e=>hk b o (old3 b o e)
 have back:∀{H':Hp} {s':Af} {σ':St},Inv Y [] σ' H' s'->Inv X pins σ H' s':=fun{H' s' σ'} IE=>by
  have hun:=IE.base;have hos:=IE.os;rw[<- hY] at hun hos;exact I3.call' hos hun (by have z:=IE.hok;rw[hYp,hYw] at z;exact z) IE.bare fun b hb=>⟨(hf b hb).2.2.2.1,(hf b hb).2.1,(hf b hb).2.2.2.2.1,(hf b hb).2.2.2.2.2⟩
 have gY:∀pins s σ H v u Q (E':Value->Af->Prop),Inv Y pins σ H s->RelV v u->g v σ H Q->wpAny (model X.prog X.w) X.A (assign target (Fg scope cl C X.env) u) (fun _ s'=>∃σ' H',Inv Y pins σ' H' s'/\Q σ' H') E' s:=fun pins s σ H v u Q E' IE r q=>by
  have z:=hgY pins s σ H v u Q IE r q;rw[hYp,hYw,hYA,hYe,hYxe] at z;exact Bu z (fun _ _ x=>x) fun _ _ f=>f.elim
 have tY:∀pins s σ H Q (E':Value->Af->Prop),Inv Y pins σ H s->tt σ H Q->wpAny (model X.prog X.w) X.A (forIn ifs true fun c r=>if r=true then do let ok<-isTrue c (Fg scope cl C X.env) (eval c (Fg scope cl C X.env));pure (ForInStep.yield ok) else pure (ForInStep.yield r)) (TP Y pins σ Q) E' s:=fun pins s σ H Q E' IE q=>by
  have z:=htY pins s σ H Q IE q;rw[hYp,hYw,hYA,hYe,hYxe] at z;exact Bu z (fun _ _ x=>x) fun _ _ f=>f.elim
 have eY:∀pins s σ H Q (E':Value->Af->Prop),Inv Y pins σ H s->te σ H Q->wpAny (model X.prog X.w) X.A (eval elt (Fg scope cl C X.env)) (EP Y pins σ Q) E' s:=fun pins s σ H Q E' IE q=>by
  have z:=heY pins s σ H Q IE q;rw[hYp,hYw,hYA,hYe,hYxe] at z;exact Bu z (fun _ _ x=>x) fun _ _ f=>f.elim
 have aY:∀pins s σ H ys v u Q (E':Value->Af->Prop),Inv Y pins σ H s->RelV v u->H D=some (.lst ys)->ys.length<sizeLine->Q .non (upd H D (.lst (ys++[v])))->wpAny (model X.prog X.w) X.A (call (.builtin "list.append") [.ref D,u]) (EP Y pins σ Q) E' s:=fun pins s σ H ys v u Q E' IE r hH hz q=>by
  have z:=q1q pins s σ H (.ref D) [v] (.ref D) [u] Q IE rfl (.cons r .nil) ⟨D,ys,v,rfl,rfl,hH,hz,q⟩;rw[hYp,hYw,hYA,hYxe] at z;exact Bu z (fun _ _ x=>x) fun _ _ f=>f.elim
 have tiY:∀i pins s σ H (E':Value->Af->Prop),Inv Y pins σ H s->(∀b∈fp,FpOk Y pins H b)->tn i s.heap->J.go i H ->
   wpAny (model X.prog X.w) X.A (Im (.ref it)) (fun r s1=>∃u,r=some u /\
    wpAny (model X.prog X.w) X.A (Jr target (.ref it) u) (fun _ s2=>∃x H',Inv Y pins σ H' s2/\RelV x u/\J.yld i H x H'/\tn (i+1) s2.heap/\∀b∈fp,H' b=none) E' s1) E' s:=fun i pins s σ H E' IE hfy st go=>by
  have z:=T.item Y hYp hYw hYK hYc i pins s σ H E' IE hfy st go;rw[hYA] at z;exact z
 have tdY:∀i pins s σ H (E':Value->Af->Prop),Inv Y pins σ H s->(∀b∈fp,FpOk Y pins H b)->tn i s.heap->J.stop i H ->
   wpAny (model X.prog X.w) X.A (Im (.ref it)) (fun r s1=>r=none/\Inv Y pins σ H s1) E' s:=fun i pins s σ H E' IE hfy st go=>by
  have z:=T.done Y hYp hYw hYK hYc i pins s σ H E' IE hfy st go;rw[hYA] at z;exact z
 have loop:Fv (model X.prog X.w) X.A (.compLoop (.ListComp elt [⟨target,iter,ifs,0⟩] scope pos) 0 (.ref it) (.ref D) (Fg scope cl C X.env)) (RR (.ref D) C) { s₃ with heap:=h₁,toks:=s₂.toks }:=by
  refine codeAny_loop rfl (fun n s'=>∃i ys H',Inv Y [] (tg0 tg σ caps) H' s'/\tn i s'.heap/\(∀b∈fp,H' b=none)/\W i n ys H') ?_ m0 ⟨0,[],_,IY,stY,fun b hb=>(hf3 b hb).1,w0⟩;rintro n s4 ⟨i,ys,H4,I4,st4,fr4,w4⟩;refine wpAny_noted ?_;obtain⟨hHD,alt⟩:=turn i n ys H4 w4;rcases alt with⟨stop,fin⟩|⟨go,N,hN,step⟩
  ·refine Ab (Dm (Ab (thn (tdY i [] s4 _ H4 _ I4 (fpY fr4) st4 stop) fun r s5 ⟨hr,I5⟩=>?_)));subst hr;refine Ae (hRR D C ys H4 s5 hD0 (back I5) ?_ ⟨?_,FC.2⟩ fin)
   ·obtain⟨m,hm,_⟩:=I5.loc;rw[hYe] at hm;exact⟨m,hm⟩
   ·have z:=I5.free;rw[hYe] at z;exact z
  ·refine Ab (Dm (Ab (thn (tiY i [] s4 _ H4 _ I4 (fpY fr4) st4 go) fun r s5 ⟨u,hr,h5⟩=>?_)));subst hr;refine Ab (thn h5 fun _ s6 ⟨x,H6,I6,r6,y6,st6,fr6⟩=>?_);have I6':=I6.pinned (fpY fr6) (T.obj _ _ st6);refine Ab (thn (gY _ s6 _ H6 x u _ _ I6' r6 (step x H6 y6)) fun _ s7 ⟨σ7,H7,I7,kp,q7⟩=>?_);refine Ab (thn (tY _ s7 σ7 H7 _ _ I7 q7) fun b s8 ⟨H8,I8,q8⟩=>?_);have again:∀{H9:Hp} {s9:Af} {zs:List V} {m':Nat},Inv Y ([]++pinsAt fp s6.heap) σ7 H9 s9->m'<n->W (i+1) m' zs H9->∃m,m<n/\∃i ys H',Inv Y [] (tg0 tg σ caps) H' s9/\tn i s9.heap/\(∀b∈fp,H' b=none)/\W i m ys H':=fun{H9 s9 zs m'} I9 hm w9=>by
    refine⟨m',hm,i+1,zs,H9,I9.unpinned.weak kp.1 kp.2,T.keep _ _ _ st6 fun b hb o e=>(I9.pin (b,o) (Bq _ (Bq _ (q2h hb e)))).1,fun b hb=>?_,w9⟩;obtain⟨o,e,d⟩:=T.obj _ _ st6 b hb;exact(I9.pin (b,o) (Bq _ (Bq _ (q2h hb e)))).2.1
   cases b with
   |true =>
    refine Ab (Ab (thn (eY _ s8 σ7 H8 _ _ I8 q8) fun v s9 ⟨vv,H9,I9,r9,hH9,hz9,n9⟩=>?_));obtain⟨m',hm',w9⟩:=hN _ _ n9;refine Ab (thn (aY _ s9 σ7 H9 ys vv v (fun _ H10=>W (i+1) m' (ys++[vv]) H10) _ I9 r9 hH9 hz9 w9) fun _ s10 ⟨_,H10,I10,_,w10⟩=>?_);exact Ae (Ae ⟨rfl,again I10 hm' w10⟩)
   |false =>
    obtain⟨m',hm',w8⟩:=hN _ _ q8;exact Ae ⟨rfl,again I8 hm' w8⟩
 rw[o3];exact codeAny_compStart_list loop (T.self _ 0 _ _ _ stY loop)
def isCF(k:Option Bh):Bool:=k==some .cell||k==some .free
def capChk(N:List Str)(names outer:List (Str×Bh)):Caps->Bool
 |[]=>true
 |(x,i)::r=>decide (N[i]?=some x)&&(names.lookup x==some .free)&&isCF (outer.lookup x)&&capChk N names outer r
def compChk(N:List Str)(outer scope:Scope)(caps:Caps):Bool :=
 (scope.kind==.function)&&(scope.names.all fun y=>y.2 != .cell&&(y.2 != .local||scope.names.lookup y.1==some .local)&&(y.2 != .free||isCF (outer.names.lookup y.1)))&&capChk N scope.names outer.names caps
theorem z6x(h:isCF k=true):k=some .cell\/k=some .free:=by
 unfold isCF at h;simpa using h
theorem z0v:∀{caps:Caps},capChk X.N scope.names X.env.scope.names caps=true->CapOk X scope caps
 |[],_=>trivial
 |(x,i)::r,h=>by
  unfold capChk at h;simp only[Co] at h;obtain⟨⟨⟨h1,h2⟩,h3⟩,h4⟩:=h;exact⟨⟨of_decide_eq_true h1,by simpa using h2,z6x h3⟩,z0v h4⟩
theorem q4c(h:compChk X.N X.env.scope scope caps=true):
  scope.kind=.function/\(∀y∈scope.names,y.2≠.cell)/\(∀y∈scope.names,y.2=.local->scope.names.lookup y.1=some .local)/\(∀x,(x,Bh.free)∈scope.names->X.env.scope.names.lookup x=some .cell\/X.env.scope.names.lookup x=some .free)/\CapOk X scope caps:=by
 unfold compChk at h;simp only[Co,Fx] at h;obtain⟨⟨h1,h2⟩,h3⟩:=h;refine⟨by simpa using h1,fun y hy e=>?_,fun y hy e=>?_,fun x hx=>?_,z0v h3⟩
 ·have z:=(h2 y hy).1.1;rw[e] at z;simp at z
 ·have z:=(h2 y hy).1.2;rw[e] at z;simpa using z
 ·have z:=(h2 _ hx).2;exact z6x (by simpa using z)
def tComp(wi:TI)(g:TG)(tt:TT)(te:TE)(tg:List Str)(caps:Caps):TE:=fun σ H Q=>wi σ H fun J H1=>∀D,H1 D=none->CompW J g tt te (tg0 tg σ caps) D (fun _ H'=>Q (.ref D) H') H1
section
variable{X:Cx}{iter target elt:Expr}{ifs:List Expr}{scope:Scope}{pos:Pos}{wi:TI}{g:TG}{tt:TT}{te:TE}
theorem q9k{σ:St}(I:Inv X pins σ H s)(hfree:∀x,(x,Bh.free)∈scope.names->X.env.scope.names.lookup x=some .cell\/X.env.scope.names.lookup x=some .free):
  ∃cl,Ug scope X.env=pure cl/\(∀x c,cl.lookup x=some c->X.env.cells.lookup x=some c)/\∀x,(x,Bh.free)∈scope.names->∃c,cl.lookup x=some c :=
 z5d fun x hx=>I.ok.has x (hfree x hx)
theorem q1s(tg:List Str)(caps:Caps)(hc:X.calm=true)(hi:PI X target iter wi)(hg:∀cl C fp s H,PG (cxComp X (tg++caps.map (·.1)) scope cl C fp s H) target g)(ht:∀cl C fp s H,PIfs (cxComp X (tg++caps.map (·.1)) scope cl C fp s H) ifs tt)(he:∀cl C fp s H,PE (cxComp X (tg++caps.map (·.1)) scope cl C fp s H) elt te)(hk:compChk X.N X.env.scope scope caps=true:=by rfl)(hs:∀x,Ik iter X.env x=pure x:=by intro _;rfl):
  PE X (.ListComp elt [⟨target,iter,ifs,0⟩] scope pos) (tComp wi g tt te tg caps):=by
 intro pins s σ H Q I h;obtain⟨hkind,hnc,hnames,hfree,co⟩:=q4c hk;obtain⟨cl,hclos,hc1,hc2⟩:=q9k I hfree;refine Ho rfl hs hclos hkind hnames (thn (hi pins s σ H _ I h) fun v s1 h1=>thn h1 fun itv s2 h2=>?_);obtain⟨it,fp,tn,J,H2,e,I2,T,st2,f2,hw⟩:=h2;subst e;refine z3r hc hkind hnc hc1 hc2 co (fun C s H=>hg cl C fp s H) (fun C s H=>ht cl C fp s H) (fun C s H=>he cl C fp s H) I2 T st2 f2 hw ?_;intro D C ys H' s' hD I' hm F fin;obtain⟨m,hm⟩:=hm;refine⟨m,hm,fun h' hsb=>⟨.ref D,H',I'.turned (t':=s'.toks) (fun b o hb e=>(hsb.2 b hb).trans e) F.1 F.2.1 F.2.2.2.1 F.2.2.2.2.1 F.2.2.2.2.2,rfl,fin⟩⟩
def tSetC(wi:TI)(g:TG)(tt:TT)(te:TE)(tg:List Str)(caps:Caps)(i:Nat):TS:=fun D' σ H=>wi σ H fun J H1=>∀D,H1 D=none->CompW J g tt te (tg0 tg σ caps) D (fun _ H'=>D'.nx (σ.set i (some (.ref D))) H') H1
theorem q9l{i:Nat}{y:Str}{py spos:Pos}(tg:List Str)(caps:Caps)(hN:X.N.Nodup)(hiN:X.N[i]?=some y)(hx:Loc X.env.scope y)(hc:X.calm=true)(hi:PI X target iter wi)(hg:∀cl C fp s H,PG (cxComp X (tg++caps.map (·.1)) scope cl C fp s H) target g)(ht:∀cl C fp s H,PIfs (cxComp X (tg++caps.map (·.1)) scope cl C fp s H) ifs tt)(he:∀cl C fp s H,PE (cxComp X (tg++caps.map (·.1)) scope cl C fp s H) elt te)(hk:compChk X.N X.env.scope scope caps=true:=by rfl)(hs:∀x,Ik iter X.env x=pure x:=by intro _;rfl)(hsw:Lp (.ListComp elt [⟨target,iter,ifs,0⟩] scope pos) (some (.Name y py)) spos.line X.env=pure true:=by rfl)(hf:X.fn y=true\/X.env.scope.names.lookup y=some .local:=by first|exact .inl rfl|exact .inr rfl|assumption):
  PS X (.Assign [.Name y py] (.ListComp elt [⟨target,iter,ifs,0⟩] scope pos) spos) (tSetC wi g tt te tg caps i):=by
 intro pins s σ H D' I h;obtain⟨hkind,hnc,hnames,hfree,co⟩:=q4c hk;obtain⟨cl,hclos,hc1,hc2⟩:=q9k I hfree;rw[Qc _ _ _ _ hsw];refine Ab (Dm (Ab ?_));refine Ab (Bu (Ho (use:=some (assign (.Name y py) X.env)) rfl hs hclos hkind hnames
  (thn (hi pins s σ H _ I h) fun v s1 h1=>thn h1 fun itv s2 h2=>?_)) (fun _ s' hq=>Ae (Ae hq)) fun _ _ e=>e)
 obtain⟨it,fp,tn,J,H2,e,I2,T,st2,f2,hw⟩:=h2;subst e;refine z3r (RR:=fun acc C=>compPost (model X.prog X.w) X.A X.xe (some (assign (.Name y py) X.env)) (fun _ s'=>SP X pins D' .next s') acc C) (Fin:=fun D _ H'=>D'.nx (σ.set i (some (.ref D))) H') hc hkind hnc hc1 hc2 co (fun C s H=>hg cl C fp s H) (fun C s H=>ht cl C fp s H) (fun C s H=>he cl C fp s H) I2 T st2 f2 hw ?_;intro D C ys H' s' hD I' hm F fin;obtain⟨m,hm⟩:=hm;refine Nt (q6u (v:=.ref D) I' hN hiN hx rfl (fun s'' I'' hsb=>?_) hf);obtain⟨a,sb,ha⟩:=hsb;have hCa:C≠a:=by
  rcases ha with ha|ha
  ·rw[ha];exact F.2.1
  ·exact fun z=>F.2.2.2.2.1 y a ha z.symm
 refine⟨m,hm.sameBut sb hCa,fun h' hs'=>?_⟩;exact⟨_,H',I''.turned (t':=s''.toks) (fun b o hb e=>(hs'.2 b hb).trans e) F.1 F.2.1 F.2.2.2.1 F.2.2.2.2.1 F.2.2.2.2.2,fin⟩
end
theorem q7f{Fin:List V->Hp->Prop}(Pv:Nat->List V->Hp->Prop)(h0:Pv 0 [] (upd H1 D (.lst [])))(hl:∀i ys H,Pv i ys H->H D=some (.lst ys))(hgo:∀i ys H,i<n->Pv i ys H->J.go i H)(hstop:∀ys H,Pv n ys H->J.stop n H)(hs:∀i ys H x H',i<n->Pv i ys H->J.yld i H x H'->g x σ0 H' fun σ2 H2=>Keeps0 σ0 σ2/\tt σ2 H2 fun b H3 =>
   if b=true then te σ2 H3 fun v H4=>H4 D=some (.lst ys)/\ys.length<sizeLine/\Pv (i+1) (ys++[v]) (upd H4 D (.lst (ys++[v]))) else Pv (i+1) ys H3)(hd:∀ys H,Pv n ys H->Fin ys H):CompW J g tt te σ0 D Fin H1:=by
 refine⟨fun i m ys H=>m=n-i/\i<=n/\Pv i ys H,⟨n,by simp,Br _,h0⟩,?_⟩;rintro i m ys H ⟨rfl,hi,p⟩;refine⟨hl i ys H p,?_⟩;by_cases hlt:i<n
 ·exact .inr ⟨hgo i ys H hlt p,Pv (i+1),fun zs H' q=>⟨n-(i+1),by lia,rfl,hlt,q⟩,fun x H' y=>hs i ys H x H' hlt p y⟩
 ·grind
theorem z5e{lo:Int}{Fin:List V->Hp->Prop}(Pv:Nat->List V->Hp->Prop)(h0:Pv 0 [] (upd H1 D (.lst [])))(hl:∀i ys H,Pv i ys H->H D=some (.lst ys))(hs:∀i ys H,i<n->Pv i ys H->g (.int (lo+i)) σ0 H fun σ2 H2=>Keeps0 σ0 σ2/\tt σ2 H2 fun b H3 =>
   if b=true then te σ2 H3 fun v H4=>H4 D=some (.lst ys)/\ys.length<sizeLine/\Pv (i+1) (ys++[v]) (upd H4 D (.lst (ys++[v]))) else Pv (i+1) ys H3)(hd:∀ys H,Pv n ys H->Fin ys H):CompW (Itr lo n) g tt te σ0 D Fin H1 :=
 q7f Pv h0 hl (fun i ys H h _=>h) (fun ys H _=>Aj _) (fun i ys H x H' h p y=>by obtain⟨e,y⟩:=y;subst e y;exact hs i ys _ h p) hd
theorem q7g{K:Ah}{Fin:List V->Hp->Prop}(Pv:Nat->List V->Hp->Prop)(h0:Pv 0 [] (upd H1 D (.lst [])))(hl:∀i ys H,Pv i ys H->H D=some (.lst ys)/\SqL K H a xs)(hs:∀i ys H x,xs[i]?=some x->Pv i ys H->g x σ0 H fun σ2 H2=>Keeps0 σ0 σ2/\tt σ2 H2 fun b H3 =>
   if b=true then te σ2 H3 fun v H4=>H4 D=some (.lst ys)/\ys.length<sizeLine/\Pv (i+1) (ys++[v]) (upd H4 D (.lst (ys++[v]))) else Pv (i+1) ys H3)(hd:∀ys H,Pv xs.length ys H->Fin ys H):CompW (Itl K a) g tt te σ0 D Fin H1 :=
 q7f Pv h0 (fun i ys H p=>(hl i ys H p).1) (fun i ys H h p=>⟨xs,xs[i],(hl i ys H p).2,by simp[h]⟩) (fun ys H p=>⟨xs,(hl _ ys H p).2,Aj _⟩)
  (fun i ys H x H' h p y=>by obtain⟨e,y⟩:=y;subst e;exact hs i ys _ x (y xs (hl i ys _ p).2) p) hd
theorem q4d{r:St}:Keeps0 (none::r) (v::r):=⟨rfl,fun i w h=>by
 cases i with
 |zero=>cases h
 |succ i=>exact h⟩
theorem q1x{r:St}:Keeps0 (none::none::r) (v::w::r):=⟨rfl,fun i u h=>by
 cases i with
 |zero=>cases h
 |succ i=>cases i with
  |zero=>cases h
  |succ i=>exact h⟩
open PySem PySem.Spec PyProof.Rows
section
variable{X:Cx}
def rSlS:V->Option Int->Option Int->Hp->VK->Prop:=fun x lo hi H Q=>∃z,x=.str z/\z.length<=sizeLine/\Q (.str (Uq z lo hi)) H
theorem q7h(h:Lb v o):∃p:Option (Int×Tok),v=partValue p/\o=p.map (·.1):=by
 cases h with
 |none=>exact⟨none,rfl,rfl⟩
 |int i t=>exact⟨some (i,t),rfl,rfl⟩
theorem sl_str:SlR X rSlS:=by
 intro pins s σ H x v vl vu lo hi sl Q I rx hs pl pu h;obtain⟨z,rfl,hz,q⟩:=h;obtain⟨t,rfl⟩:=rx;obtain⟨p1,rfl,rfl⟩:=q7h pl;obtain⟨p2,rfl,rfl⟩:=q7h pu;refine⟨"str",_,F.slot_str_getitem.lookup,Kl _ _ _,wpAny_getItem_str_slice (st:=none) hs rfl
  (post_val_or_str ⟨Cn (Txt.slice_le z _ _) hz,fun t' k=>⟨.str (Uq z (p1.map (·.1)) (p2.map (·.1))),H,I.tok _,⟨t',rfl⟩,q⟩⟩)⟩
def rLower:V->List V->Hp->VK->Prop:=fun x vs H Q=>∃z,x=.str z/\vs=[]/\3*z.length<=sizeLine/\Q (.str (Txt.lower z)) H
theorem fit3(h:n<=3*m)(h2:3*m<=sizeLine):Dp.Str.tooLong n=false:=by
 exact decide_eq_false (by lia)
theorem q6n:MtM X "str.lower" rLower:=by
 intro pins s σ H x vs v us Q I rx rv h;obtain⟨z,rfl,rfl,hz,q⟩:=h;obtain⟨t,rfl⟩:=rx;cases rv.zero;exact SC.lower (fit3 (len_lower z) hz) ⟨.str _,H,I.tok _,⟨_,rfl⟩,q⟩
def rUpper:V->List V->Hp->VK->Prop:=fun x vs H Q=>∃z,x=.str z/\vs=[]/\3*z.length<=sizeLine/\Q (.str (Txt.upper z)) H
theorem x0m:MtM X "str.upper" rUpper:=by
 intro pins s σ H x vs v us Q I rx rv h;obtain⟨z,rfl,rfl,hz,q⟩:=h;obtain⟨t,rfl⟩:=rx;cases rv.zero;exact SC.upper (fit3 (len_upper z) hz) ⟨.str _,H,I.tok _,⟨_,rfl⟩,q⟩
theorem q5q:∀{ys:List Str} {us:List Value},Vals (ys.map V.str) us->Ht us ys
 |[],_,.nil=>.nil
 |y::ys,_,.cons r t=>by obtain⟨k,rfl⟩:=r;exact .cons y k (q5q t)
theorem q4l:∀(l:List (Str×Tok)),Vals ((l.map (·.1)).map V.str) (strValues l)
 |[]=>.nil
 |(x,t)::r=>.cons ⟨t,rfl⟩ (q4l r)
def rJoin(K:Ah):V->List V->Hp->VK->Prop:=fun x vs H Q=>∃(z:Str) (p:Addr) (ys:List Str),x=.str z/\vs=[.ref p]/\(SqL K H p (ys.map V.str)\/SqT K H p (ys.map V.str))/\(ys.map (·.length)).sum+ys.length*z.length<=16777216/\Q (.str (Li z ys)) H
theorem x3l:MtM X "str.join" (rJoin X.K):=by
 intro pins s σ H x vs v us Q I rx rv h;obtain⟨z,p,ys,rfl,rfl,hq,hz,q⟩:=h;obtain⟨t,rfl⟩:=rx;obtain⟨u,rfl,ru⟩:=rv.one;cases ru;rcases hq with hq|hq
 ·obtain⟨its,r,pl,_⟩:=I.list hq;exact join_list pl.isList (q5q (by simpa using r)) hz fun t' k=>⟨.str _,H,I.tok _,⟨_,rfl⟩,q⟩
 ·obtain⟨its,r,pl,_⟩:=I.tuple hq;exact join_tuple pl (q5q (by simpa using r)) hz fun t' k=>⟨.str _,H,I.tok _,⟨_,rfl⟩,q⟩
def rSplit:V->List V->Hp->VK->Prop:=fun x vs H Q=>∃z y,x=.str z/\vs=[.str y]/\(y.length==0)=false/\z.length+1<=sizeLine/\(Iw z y).length<=sizeLine/\(Om z (Cy z y 0 z.length (z.length+1)) y.length).length<=sizeLine/\∀p,H p=none->Q (.ref p) (upd H p (.lst ((Iw z y).map V.str)))
theorem q9m:MtM X "str.split" rSplit:=by
 intro pins s σ H x vs v us Q I rx rv h;obtain⟨z,y,rfl,rfl,hy,hz,hz2,hz3,q⟩:=h;obtain⟨t,rfl⟩:=rx;obtain⟨u,rfl,ru⟩:=rv.one;obtain⟨t',rfl⟩:=ru;have fin:∀(l:List (Str×Tok)) (tk:Nat),l.map (·.1)=Iw z y->EP X pins σ Q (.ref s.heap.objs.size) { s with toks:=tk,heap:=s.heap.push { cls:=.type "list",data:=.seq (strValues l).toArray } }:=fun l tk e=>by
  refine⟨.ref s.heap.objs.size,_,I.lnew (t':=tk) (by rw[<- e];exact q4l l) (by rw[Ac];exact hz2),rfl,q _ I.fresh⟩
 cases h1:(decide (z.length<y.length)||decide (Ri z<Ri y))
 ·cases hf:(Cy z y 0 z.length (z.length+1)).isEmpty
  ·refine Gz Oo (Kl _ _ _) Nv (Ng _ _) (meets_str_split_sep z y t t' h1 hy hf (by lia) hz3) ?_;rw[strsFrom_eq];exact fin (numbered s.toks _) _ ((numbered_texts _ _).trans ((if_neg (ne_true_of_eq_false h1)).trans (if_neg (ne_true_of_eq_false hf))).symm)
  ·exact Gz Oo (Kl _ _ _) Nv (Ng _ _) (meets_str_split_not_found z y t t' h1 hy hf)
    (fin [(z,t)] _ ((if_neg (ne_true_of_eq_false h1)).trans (if_pos hf)).symm)
 ·exact Gz Oo (Kl _ _ _) Nv (Ng _ _) (meets_str_split_cannot_occur z y t t' h1)
   (fin [(z,t)] _ (if_pos h1).symm)
def rMulS:R2:=fun x y H Q=>∃z n,x=.str z/\y=.int n/\MulOk z n/\Q (.str (Txt.mul z n)) H
theorem op_mulS:OpR X (Fe .Mult) rMulS:=by
 intro pins s σ H x y v u Q I rx ry h;obtain⟨z,n,rfl,rfl,hm,q⟩:=h;obtain⟨t,rfl⟩:=rx;obtain⟨t',rfl⟩:=ry;exact SB.mul hm fun t2 k=>⟨.str _,H,I.tok _,⟨_,rfl⟩,q⟩
theorem q7i:∀{bs:List Bool} {us:List Value},Vals (bs.map V.bl) us->LSm.BoolsAre us bs
 |[],_,.nil=>.nil
 |b::bs,_,.cons r t=>by cases r;exact .cons b (q7i t)
theorem x0n(hc:X.calm=true):CallR X (.builtin "all") (fun xs H Q=>∃(p:Addr) (bs:List Bool),xs=[.ref p]/\SqL X.K H p (bs.map V.bl)/\Q (.bl (bs.all id)) H):=by
 intro pins s σ H xs us Q I r h;obtain⟨p,bs,rfl,hq,q⟩:=h;obtain⟨u,rfl,rx⟩:=vals1 r;cases rx;obtain⟨its,r',pl,hz⟩:=I.list hq;have hb:=q7i r';have hlt:p<s.heap.objs.size:=by obtain⟨_,e,_⟩:=pl.isList;exact Am e
 refine call_all_walk (Nw pl.isList ?_);refine⟨s.heap.objs.size,[s.heap.objs.size,p],[s.heap.objs.size],its.toArray.size,_,_,fun i=>(bs[i]?).getD true,rfl,Walks.list (A:=X.A.in1) (I.ok.hd hc) _ p (Bc hlt) its.toArray,
  ⟨⟨_,Ar _ rfl,rfl,rfl⟩,pl.isList.push _⟩,fun i v s' Q' E' hP hQ=>?_,fun h' tk hk=>?_⟩
 ·obtain⟨b,e,rfl⟩:=hb.get i v (by simpa using hP);simp only[e,Option.getD_some] at hQ;exact Ei hQ
 ·have e:((List.range its.toArray.size).all fun i=>(bs[i]?).getD true)=bs.all id:=by
   rw[Av,hb.length];exact LSm.range_all bs
  rw[e];exact⟨.bl _,H,I.kept (t':=tk) (LSm.kept_iter hk),rfl,q⟩
theorem z2k:CallR X (.builtin "isinstance") (fun xs H Q=>∃x c t b,xs=[x,.ty c]/\TyOf X.K H x t/\Ff X.K t (.type c)=some b/\Q (.bl b) H):=by
 intro pins s σ H xs us Q I r h;obtain⟨x,c,t,b,rfl,ty,e,q⟩:=h;obtain⟨u,v,rfl,ru,rv⟩:=r.two;cases rv;exact z6l I ru ty e fun tk=>⟨.bl b,H,I.tok _,rfl,q⟩
def Its(z:Str):It:=⟨fun i _=>i<z.length,fun i H x H'=>H'=H/\∃c,z.cps[i]?=some c/\x=.str ⟨#[c]⟩,fun i _=>z.length<=i⟩
end
theorem z6y{K:Ah}(it:Addr)(z:Str)(t:Tok):Turn P w K tg (Its z) [it] it (fun i h=>i<=z.length/\h.IsStrIter it "str_ascii_iterator" z t i) where
 mem:=by simp
 obj:=fun i h st b hb=>by
  have e:b=it:=by grind
  subst e;obtain⟨_,o,e,c,d⟩:=st;exact⟨o,e,fun v z=>by rw[d] at z;cases z⟩
 keep:=fun i h h' st k=>⟨st.1,let ⟨o,e,c,d⟩:=st.2;⟨o,k it (by simp) o e,c,d⟩⟩
 item:=by
  intro X hP hw hK hc i pins s σ H E I hf st hg;obtain⟨f0,f1,f2,f3,f4,f5⟩:=hf it (by simp);have hi:i<z.cps.size:=hg;refine wpAny_pyNext_ascii_item st.2 (c:=z.cps[i]) (by simp[hi]) fun h' hit' hs'=>?_;have I1:Inv X pins σ H { s with heap:=h',toks:=s.toks+1 }:=I.turned (fun b o hb e=>(hs'.2 b hb).trans e) f0 f1 f3 f4 f5;obtain⟨o,e,c,d⟩:=id hit';exact⟨_,rfl,z2h e c d (by decide) ⟨.str ⟨#[z.cps[i]]⟩,H,I1,⟨_,rfl⟩,⟨rfl,_,by simp[hi],rfl⟩,⟨hg,hit'⟩,fun b hb=>(hf b hb).1⟩⟩
 done:=by
  intro X hP hw hK hc i pins s σ H E I hf st hg;obtain⟨f0,f1,f2,f3,f4,f5⟩:=hf it (by simp);have hi:z.cps.size<=i:=hg;exact wpAny_pyNext_ascii_end (I.ok.hd hc) st.2 (by simp;lia) fun h' eb=>⟨rfl,I.turned (t':=s.toks) (fun b o hb e=>eb b o hb e) f0 f1 f3 f4 f5⟩
 self:=fun _ _ _ _ _ st h=>wpAny_pyIter_striter_ascii st.2 h
theorem z6z{K:Ah}(it:Addr)(z:Str)(t:Tok):Turn P w K tg (Its z) [it] it (fun i h=>i<=z.length/\h.IsStrIter it "str_iterator" z t i) where
 mem:=by simp
 obj:=fun i h st b hb=>by
  have e:b=it:=by grind
  subst e;obtain⟨_,o,e,c,d⟩:=st;exact⟨o,e,fun v z=>by rw[d] at z;cases z⟩
 keep:=fun i h h' st k=>⟨st.1,let ⟨o,e,c,d⟩:=st.2;⟨o,k it (by simp) o e,c,d⟩⟩
 item:=by
  intro X hP hw hK hc i pins s σ H E I hf st hg;obtain⟨f0,f1,f2,f3,f4,f5⟩:=hf it (by simp);have hi:i<z.cps.size:=hg;refine wpAny_pyNext_wide_item st.2 (c:=z.cps[i]) (by simp[hi]) fun h' hit' hs'=>?_;have I1:Inv X pins σ H { s with heap:=h',toks:=s.toks+1 }:=I.turned (fun b o hb e=>(hs'.2 b hb).trans e) f0 f1 f3 f4 f5;obtain⟨o,e,c,d⟩:=id hit';exact⟨_,rfl,z2h e c d (by decide) ⟨.str ⟨#[z.cps[i]]⟩,H,I1,⟨_,rfl⟩,⟨rfl,_,by simp[hi],rfl⟩,⟨hg,hit'⟩,fun b hb=>(hf b hb).1⟩⟩
 done:=by
  intro X hP hw hK hc i pins s σ H E I hf st hg;obtain⟨f0,f1,f2,f3,f4,f5⟩:=hf it (by simp);have hi:z.cps.size<=i:=hg;exact wpAny_pyNext_wide_end (I.ok.hd hc) st.2 (by simp;lia) fun h' eb=>⟨rfl,I.turned (t':=s.toks) (fun b o hb e=>eb b o hb e) f0 f1 f3 f4 f5⟩
 self:=fun _ _ _ _ _ st h=>wpAny_pyIter_striter_wide st.2 h
theorem x0o{Fin:List V->Hp->Prop}(Pv:Nat->List V->Hp->Prop)(h0:Pv 0 [] (upd H1 D (.lst [])))(hl:∀i ys H,Pv i ys H->H D=some (.lst ys))(hs:∀i ys H c,z.cps[i]?=some c->Pv i ys H->g (.str ⟨#[c]⟩) σ0 H fun σ2 H2=>Keeps0 σ0 σ2/\tt σ2 H2 fun b H3 =>
   if b=true then te σ2 H3 fun v H4=>H4 D=some (.lst ys)/\ys.length<sizeLine/\Pv (i+1) (ys++[v]) (upd H4 D (.lst (ys++[v]))) else Pv (i+1) ys H3)(hd:∀ys H,Pv z.length ys H->Fin ys H):CompW (Its z) g tt te σ0 D Fin H1 :=
 q7f Pv h0 hl (fun i ys H h _=>h) (fun ys H _=>Aj _) (fun i ys H x H' h p y=>by obtain⟨e,c,hc,y⟩:=y;subst e y;exact hs i ys _ c hc p) hd
open PySem PySem.Spec PyProof.Rows
structure Vw (K:Ah) (H:Hp) (h:Heap):Prop where
 lst:∀a xs,SqL K H a xs->∃its:List Value,Vals xs its/\h.IsList a its.toArray
 tup:∀a xs,SqT K H a xs->∃its:List Value,Vals xs its/\h.IsTuple a its.toArray
theorem SqL.ne{K:Ah}(h:SqL K H a xs)(hb:H b=none)(hk:K.lookup b=none):a≠b:=by
 rintro rfl;rcases h with(h|⟨o,h⟩)|⟨o,_,_,h,_⟩
 ·rw[hb] at h;cases h
 ·rw[hb] at h;cases h
 ·rw[hk] at h;cases h
theorem SqT.ne{K:Ah}(h:SqT K H a xs)(hb:H b=none)(hk:K.lookup b=none):a≠b:=by
 rintro rfl;rcases h with(h|⟨o,h⟩)|⟨o,_,_,h,_⟩
 ·rw[hb] at h;cases h
 ·rw[hb] at h;cases h
 ·rw[hk] at h;cases h
theorem Vw.linj{K:Ah}(v:Vw K H h)(p:SqL K H a xs)(q:SqL K H a ys):xs=ys:=by
 obtain⟨its,r,o,e,_,n,d⟩:=v.lst a xs p;obtain⟨its',r',o',e',_,n',d'⟩:=v.lst a ys q;have:its=its':=by grind
 subst this;exact r.inj r'
theorem Inv.vw{σ:St}(I:Inv X pins σ H s):Vw X.K H s.heap :=
 ⟨fun a xs q=>let ⟨its,r,l,_⟩:=I.list q;⟨its,r,l.isList⟩,fun a xs q=>let ⟨its,r,l,_⟩:=I.tuple q;⟨its,r,l⟩⟩
structure Srce (P:Program) (w:World) (K:Ah) (J:It) (it:Addr) (st:Nat->Heap->Prop):Prop where
 obj:∀i h,st i h->∃o,h.get? it=some o/\∀v,o.data≠.cell v
 keep:∀i h h',st i h->(∀o,h.get? it=some o->h'.get? it=some o)->st i h'
 item:∀(A:Around) (i:Nat) (s:Af) (H:Hp) (Q:Value->Af->Prop) (E:Value->Af->Prop),A.handled=none->Vw K H s.heap->H it=none->K.lookup it=none->st i s.heap->J.go i H ->
  (∀u x h' tk,RelV x u->J.yld i H x H->st (i+1) h'->Ep it s.heap h'->Q u { s with heap:=h',toks:=tk })->wpAny (model P w) A (Ob (.ref it)) Q E s
 done:∀(A:Around) (i:Nat) (s:Af) (H:Hp) (Q:Value->Af->Prop) (E:Value->Af->Prop),A.handled=none->Vw K H s.heap->H it=none->K.lookup it=none->st i s.heap->J.stop i H ->
  (∀h' e,Pm it s.heap h'->(∃o,h'.get? e=some o/\o.cls=.type "StopIteration")->E (.ref e) { s with heap:=h' })->wpAny (model P w) A (Ob (.ref it)) Q E s
theorem z7a{K:Ah}(a it:Addr):Srce P w K (Itl K a) it (fun i h=>h.IsListIter it a i) where
 obj:=fun i h st=>by obtain⟨o,e,c,d⟩:=st;exact⟨o,e,fun v z=>by rw[d] at z;cases z⟩
 keep:=fun i h h' st k=>st.at fun o e=>k o e
 item:=fun A i s H Q E hh vw hn hk st go hQ=>by
  obtain⟨xs,x,hq,hx⟩:=go;obtain⟨its,rv,p⟩:=vw.lst a xs hq;obtain⟨u,hu,ru⟩:=rv.get hx;refine wpAny_nextOf_list_item st p (by simpa using hu) fun h' st' sb=>?_
  exact hQ u x h' s.toks ru ⟨rfl,fun ys hy=>by rw[vw.linj hy hq];exact hx⟩ st' sb
 done:=fun A i s H Q E hh vw hn hk st stop hE=>by
  obtain⟨xs,hq,hx⟩:=stop;obtain⟨its,rv,p⟩:=vw.lst a xs hq;have hl:=rv.length;exact wpAny_nextOf_list_end hh st p (by simp;lia) hE
def stStr(it:Addr)(z:Str)(t:Tok)(i:Nat)(h:Heap):Prop:=h.IsStrIter it (Jn z) z t i
theorem x0p{K:Ah}(it:Addr)(z:Str)(t:Tok):Srce P w K (Its z) it (stStr it z t) where
 obj:=fun i h st=>by obtain⟨o,e,c,d⟩:=st;exact⟨o,e,fun v z=>by rw[d] at z;cases z⟩
 keep:=fun i h h' st k=>by obtain⟨o,e,r⟩:=st;exact⟨o,k o e,r⟩
 item:=fun A i s H Q E hh vw hn hk st go hQ=>by
  have hi:i<z.cps.size:=go;unfold stStr Jn at st;cases ha:z.cps.all (· < 128)
  ·rw[ha] at st;refine wpAny_nextOf_wide_item st (c:=z.cps[i]) (by simp[hi]) fun h' hit' hs'=>?_;exact hQ _ (.str ⟨#[z.cps[i]]⟩) h' (s.toks+1) ⟨_,rfl⟩ ⟨rfl,_,by simp[hi],rfl⟩ (by unfold stStr Jn;rw[ha];exact hit') hs'
  ·rw[ha] at st;refine wpAny_nextOf_ascii_item st (c:=z.cps[i]) (by simp[hi]) fun h' hit' hs'=>?_;exact hQ _ (.str ⟨#[z.cps[i]]⟩) h' (s.toks+1) ⟨_,rfl⟩ ⟨rfl,_,by simp[hi],rfl⟩ (by unfold stStr Jn;rw[ha];exact hit') hs'
 done:=fun A i s H Q E hh vw hn hk st stop hE=>by
  have hi:z.cps.size<=i:=stop;unfold stStr Jn at st;cases ha:z.cps.all (· < 128)
  ·rw[ha] at st;exact wpAny_nextOf_wide_end hh st (by simp;lia) hE
  ·rw[ha] at st;exact wpAny_nextOf_ascii_end hh st (by simp;lia) hE
theorem Inv.turnedL{σ:St}{ch:List Addr}(I:Inv X pins σ H s)(k:∀b o,b∉ch->s.heap.get? b=some o->h'.get? b=some o)(hf:∀b∈ch,FpOk X pins H b):Inv X pins σ H { s with heap:=h',toks:=t' }:=by
 have nit:∀b u,H b=some u->b∉ch:=fun b u e z=>by rw[(hf b z).1] at e;cases e
 refine I.step (g':=s.gens) (d':=s.drawn) (fun b hb=>?_) (fun b o _ _ hc e _=>k b o hc e) (fun b o _ _ hc e _=>⟨o.slots,k b o hc e⟩) (fun _ _ _ _ n=>n)
  (fun b o hc e=>?_) (fun _ _ e=>e) (fun _ _ _ e=>e) (fun b ps e=>⟨#[],by rw[e];simp⟩) (fun m hm=>?_) (fun b u e=>?_) I.bare
 ·exact⟨(hf b hb).2.2.2.1,(hf b hb).2.1,(hf b hb).2.2.2.2.1,(hf b hb).2.2.2.2.2⟩
 ·exact⟨o,k b o hc e⟩
 ·obtain⟨o,es,ep,ho,r⟩:=hm;exact⟨o,es,ep,k _ o (fun z=>(hf _ z).2.1 rfl) ho,r⟩
 ·refine(I.hok b u e).stay (fun c v hc q=>k c v ?_ q) (fun _ q=>q) fun _ _ q=>q;rcases hc with z|z
  ·rw[z];exact nit b u e
  ·exact nit c _ z
theorem Inv.track{σ:St}{T:Addr}(I:Inv X pins σ H s)(hT:X.s₀.heap.objs.size<=T)(hF:FpOk X pins H T)(new:ObjOk X.prog X.w (upd H T o) s.heap T o):Inv X pins σ (upd H T o) s:=by
 have hn:=hF.1;refine⟨I.ok,I.os,I.bare,⟨I.base.keep,I.base.slot,fun b ob e n hx=>?_,I.base.there,fun b xs e=>?_,fun b ob u e=>?_,fun b ps e=>?_⟩,I.loc,I.cell,?_,fun x c e=>?_,fun p hp=>?_,fun b u e=>?_,I.len⟩
 ·rw[q0e (Bc (Bj (Am e) hT))];exact I.base.free b ob e n hx
 ·have z:=I.base.tups b xs e;rw[q0e (q0n z hn)];exact z
 ·have z:=I.base.frzs b ob u e;rw[q0e (q0n z hn)];exact z
 ·obtain⟨m,z⟩:=I.base.tbls b ps e;exact⟨m,by rw[q0e (q0n z hn)];exact z⟩
 ·rw[q0e (Cv hF.2.1)];exact I.free
 ·rw[q0e (hF.2.2.2.2.1 x c e)];exact I.freeC x c e
 ·obtain⟨e,n,ne,nf,d⟩:=I.pin p hp;exact⟨e,by rw[q0e (hF.2.2.2.2.2 p hp)];exact n,ne,nf,d⟩
 ·by_cases hb:b=T
  ·subst hb;rw[q0b] at e;cases e;exact new
  ·rw[q0e hb] at e;exact(I.hok b u e).stay (fun _ _ _ q=>q) (fun c q=>by rw[q0e (q0n q hn)];exact q) fun c xs q=>by rw[q0e (q0n q hn)];exact q
theorem FpOk.noK{σ:St}(I:Inv X pins σ H' s)(f:FpOk X pins H b):X.K.lookup b=none:=by
 cases e:X.K.lookup b with
 |none=>rfl
 |some o =>
  have e1:=I.ok.mod.kin b o e;rcases f.2.2.2.1 with z|z
  ·exact absurd z (I.ok.noex b o e1)
  ·exact absurd (Bj (Am (I.ok.bs b o e1).1) z) (Fn _)
abbrev zs1(h:Heap)(x:Str)(t:Tok):Heap:=h.push { cls:=.type (Jn x),data:=.fields #[.str x t,.int 0 0] }
abbrev zs2(h:Heap)(x y:Str)(t u:Tok):Heap:=(zs1 h x t).push { cls:=.type (Jn y),data:=.fields #[.str y u,.int 0 0] }
abbrev zs3(h:Heap)(x y:Str)(t u:Tok):Heap:=(zs2 h x y t u).push { cls:=.type "tuple",data:=.seq #[.ref h.objs.size,.ref (zs1 h x t).objs.size] }
abbrev zs4(h:Heap)(x y:Str)(t u:Tok):Heap:=(zs3 h x y t u).push { cls:=.type "tuple",data:=.seq #[.none,.none] }
set_option maxHeartbeats 4000000 in
section
variable{X:Cx}{elts:List Expr}{kk:Nat}{tpos:Pos}
theorem x2j{J:It}{g:TG}{tb:TS}{D:Ends}(Pv:Nat->St->Hp->Prop)(h0:Pv 0 σ H)(hgo:∀i σ H,i<n->Pv i σ H->J.go i H)(hstop:∀σ H,Pv n σ H->J.stop n H)(hs:∀i x σ H H',i<n->Pv i σ H->J.yld i H x H'->g x σ H' fun σ2 H2=>tb { D with nx:=Pv (i+1),ct:=Pv (i+1),bk:=D.nx } σ2 H2)(hd:∀σ H,Pv n σ H->D.nx σ H):
  ∃W:Nat->Nat->St->Hp->Prop,(∃m,W 0 m σ H)/\∀i m σ H,W i m σ H ->
   (J.stop i H/\D.nx σ H)\/(J.go i H/\∃N:St->Hp->Prop,(∀σ' H',N σ' H'->∃m',m'<m/\W (i+1) m' σ' H')/\∀x H',J.yld i H x H'->g x σ H' fun σ2 H2=>tb { D with nx:=N,ct:=N,bk:=D.nx } σ2 H2):=by
 refine⟨fun i m σ H=>m=n-i/\i<=n/\Pv i σ H,⟨n,by simp,Br _,h0⟩,?_⟩;rintro i m σ H ⟨rfl,hi,p⟩;by_cases hlt:i<n
 ·exact .inr ⟨hgo i σ H hlt p,Pv (i+1),fun σ' H' p'=>⟨n-(i+1),by lia,rfl,hlt,p'⟩,fun x H' y=>hs i x σ H H' hlt p y⟩
 ·grind
end
open PySem PySem.Spec PyProof.Rows
structure Cal (P:Program) (w:World) (K:Ah) (mg:Str->Option Value) (base:Heap) (x:Str) (k:Nat) (ps:List Str) (sp:Sp):Prop where
 ex:∃f fd,FnOk P w K mg base CX0 k f fd ps sp/\mg x=some (.ref f)/\Ew K (.ref f)=true/\Binds K fd ps []
structure Df (K:Ah) (mg:Str->Option Value) (x:Str) (st:Stmt) (ps:List Str):Prop where
 ex:∃f fd,Fun K x x st f fd/\mg x=some (.ref f)/\Binds K fd ps []
theorem Df.cal{K:Ah}{st:Stmt}(D:Df K mg x st ps)(S:FnScope N ps (defScope st))(len:∀vs H Q E,sp vs H Q E->vs.length=ps.length)(hbody:∀(f:Addr) (cdv:Value) (A:Around) (outer:List Env) (s:Af) (H:Hp) (vs:List V) (Q:VK) (E:XK),Room k (A.deeper (Gu x (defScope st) s.heap.objs.size f cdv))->sp vs H Q E ->
   ∃t,PSs (cxOf CX0 P w K mg base N x (defScope st) f cdv A outer s H E).nox (defBody st) t/\t { nx:=fun _ H'=>Q .non H',rt:=Q } (start N vs) H):Cal P w K mg base x (k+1) ps sp:=by
 obtain⟨f,fd,F,hm,hb⟩:=D.ex;exact⟨f,fd,F.ok S len fun cdv A outer s H vs Q E hr h=>hbody f cdv A outer s H vs Q E hr h,hm,F.kp,hb⟩
theorem Cal.imp{K:Ah}(C:Cal P w K mg base x k ps sp)(h:∀vs H Q E,sp' vs H Q E->sp vs H Q E):Cal P w K mg base x k ps sp':=by
 obtain⟨f,fd,F,r⟩:=C.ex;exact⟨f,fd,F.imp h,r⟩
section
variable{X:Cx}{x:Str}{k j:Nat}{ps:List Str}{sp:Sp}{p pos:Pos}{e:Expr}{es:List Expr}{t:TA}
theorem pe_c(C:Cal X.prog X.w X.K X.mg X.base x k ps sp)(hr:Room j X.A)(ha:PA X (e::es) t)(hjk:k<=j:=by decide)(hg:Gl X x:=by rfl)(hdb:(x==("__debug__" : Str))=false:=by decide)(he:Be (e::es) X.env=(false,eval e X.env)::Be es X.env:=by rfl)(hpl:(Eh pos (Be es X.env)).any (·.1)=false:=by rfl):
  PE X (.Call (.Name x p) (e::es) [] pos) (tCall sp [] E0 t):=by
 obtain⟨f,fd,F,hm,hk,hb⟩:=C.ex;exact x3i F (hr.mono hjk) hg hm hk hb .nil pass0 ha hdb he hpl
end
theorem PI.or(h1:PI X tg l w1)(h2:PI X tg l w2):PI X tg l (fun σ H R=>w1 σ H R\/w2 σ H R):=by
 intro pins s σ H R I h;rcases h with h|h
 ·exact h1 pins s σ H R I h
 ·exact h2 pins s σ H R I h
structure FeedAt (H:Hp) (a b:Addr):Prop where
 fa:∃i j:Int,H a=some (.lst [.ref b,.int i,.int j])
 fb:∃ns:List Int,H b=some (.lst (ns.map V.int))
structure Fd (a b:Addr) (H H':Hp):Prop where
 feed:FeedAt H' a b
 keep:∀c o,H c=some o->c≠a->H' c=some o
theorem FeedAt.ne(F:FeedAt H a b):b≠a:=by
 obtain⟨⟨i,j,h⟩,ns,h'⟩:=F;refine z6c h' h ?_;intro z;cases ns with
 |nil=>cases z
 |cons n r=>simp at z
theorem Fd.refl(F:FeedAt H a b):Fd a b H H:=⟨F,fun _ _ h _=>h⟩
theorem Fd.trans(x:Fd a b H H1)(y:Fd a b H1 H2):Fd a b H H2:=⟨y.feed,fun c o h hc=>y.keep c o (x.keep c o h hc) hc⟩
theorem Fd.free(x:Fd a b H H')(h:H' p=none):H p=none:=by
 cases e:H p with
 |none=>rfl
 |some o =>
  by_cases hp:p=a
  ·subst hp;obtain⟨i,j,q⟩:=x.feed.fa;rw[h] at q;cases q
  ·rw[x.keep p o e hp] at h;cases h
theorem FeedAt.upd(F:FeedAt H a b)(ha:a≠p)(hb:b≠p):FeedAt (upd H p o) a b :=
 ⟨let ⟨i,j,h⟩:=F.fa;⟨i,j,by rw[q0e ha];exact h⟩,let ⟨ns,h⟩:=F.fb;⟨ns,by rw[q0e hb];exact h⟩⟩
theorem FeedAt.na(F:FeedAt H a b)(h:H p=none):a≠p:=by obtain⟨i,j,q⟩:=F.fa;exact q0n q h
theorem FeedAt.nb(F:FeedAt H a b)(h:H p=none):b≠p:=by obtain⟨ns,q⟩:=F.fb;exact q0n q h
theorem Fd.put(x:Fd a b H H')(F:FeedAt H a b)(h:H p=none):Fd a b H (upd H' p o) :=
 ⟨x.feed.upd (F.na h) (F.nb h),fun c u e hc=>by rw[q0e (q0n e h)];exact x.keep c u e hc⟩
theorem Fd.new(x:Fd a b H H')(h:H' p=none):Fd a b H (upd H' p o) :=
 ⟨x.feed.upd (x.feed.na h) (x.feed.nb h),fun c u e hc=>by rw[q0e (q0n (x.keep c u e hc) h)];exact x.keep c u e hc⟩
theorem Fd.at(x:Fd a b H H')(h:H c=some o)(hc:c≠a):H' c=some o:=x.keep c o h hc
theorem Fd.same(x:Fd a b H H')(s:Same H' H2):Fd a b H H2 :=
 ⟨⟨let ⟨i,j,h⟩:=x.feed.fa;⟨i,j,s _ _ h⟩,let ⟨ns,h⟩:=x.feed.fb;⟨ns,s _ _ h⟩⟩,fun c o e hc=>s _ _ (x.keep c o e hc)⟩
theorem Same.new(s:Same H H')(h:H' p=none):Same H (upd H' p o):=fun c u e=>by rw[q0e (q0n (s c u e) h)];exact s c u e
theorem Same.put(s:Same H H')(h:H p=none):Same H (upd H' p o):=fun c u e=>by rw[q0e (q0n e h)];exact s c u e
def spDraw:Sp:=fun vs H Q _=>∃a b m,vs=[.ref a,.int m]/\FeedAt H a b/\0<m/\m<1073741824/\∀(r:Int) H',0<=r->r<m->Fd a b H H'->Q (.int r) H'
theorem x3m{xs:List α}(i:Int)(h:xs≠[]):∃x,x∈xs/\atI xs (i%(xs.length:Int))=some x:=by
 have hl:0<(xs.length:Int):=by
  cases xs with
  |nil=>exact absurd rfl h
  |cons a r=>grind
 have h0:=Md i (show(xs.length:Int)≠0 by lia);have h1:=Ka i hl;have hn:(i%(xs.length:Int)).toNat<xs.length:=by lia
 unfold atI ixN;rw[if_pos h0,if_pos h1];simp[hn]
theorem q7j{xs:List α}(h0:0<=i)(h1:i<(xs.length:Int)):∃x,xs[i.toNat]?=some x/\atI xs i=some x:=by
 have hn:i.toNat<xs.length:=by lia
 unfold atI ixN;rw[if_pos h0,if_pos h1];simp[hn]
open PySem PySem.Spec PyProof.Rows
mutual
inductive Dt (K : Ah) (H : Hp) : V → PyData → Prop
  | non : Dt K H .non .none
  | bl (b : Bool) : Dt K H (.bl b) (.bool b)
  | int (i : Int) : Dt K H (.int i) (.int i)
  | str (x : Str) : Dt K H (.str x) (.str x)
  | lst {a : Addr} {xs : List V} {ds : List PyData} : SqL K H a xs → Dts K H xs ds → Dt K H (.ref a) (.list ds)
  | tup {a : Addr} {xs : List V} {ds : List PyData} : SqT K H a xs → Dts K H xs ds → Dt K H (.ref a) (.tuple ds)
inductive Dts (K : Ah) (H : Hp) : List V → List PyData → Prop
  | nil : Dts K H [] []
  | cons {x : V} {xs : List V} {d : PyData} {ds : List PyData} : Dt K H x d → Dts K H xs ds → Dts K H (x :: xs) (d :: ds)
end
section
variable{X:Cx}{pins:List (Addr×Obj)}{σ:St}{H:Hp}{s:Af}
mutual
theorem Dt.reads (I : Inv X pins σ H s) : ∀ {x : V} {d : PyData} {u : Value}, Dt X.K H x d → RelV x u → ∃ as, Reads s.heap u d as
  | _, _, _, .non, r => by cases r; exact ⟨_, .none⟩
  | _, _, _, .bl b, r => by cases r; exact ⟨_, .bool b⟩
  | _, _, _, .int i, r => by obtain ⟨t, rfl⟩ := r; exact ⟨_, .int i t⟩
  | _, _, _, .str x, r => by obtain ⟨t, rfl⟩ := r; exact ⟨_, .str x t⟩
  | _, _, _, .lst q ds, r => by
    cases r
    obtain ⟨its, rv, ⟨o, n, e, c, _, d⟩, _⟩ := I.list q
    obtain ⟨as, h⟩ := Dts.reads I ds rv
    exact ⟨_, .list e c d (by simpa using h)⟩
  | _, _, _, .tup q ds, r => by
    cases r
    obtain ⟨its, rv, ⟨o, e, c, n, d⟩, _⟩ := I.tuple q
    obtain ⟨as, h⟩ := Dts.reads I ds rv
    exact ⟨_, .tuple e c d (by simpa using h)⟩
theorem Dts.reads (I : Inv X pins σ H s) : ∀ {xs : List V} {ds : List PyData} {us : List Value}, Dts X.K H xs ds → Vals xs us → ∃ as, ReadsAll s.heap us ds as
  | _, _, _, .nil, .nil => ⟨_, .nil⟩
  | _, _, _, .cons d ds, .cons r rs => by
    obtain ⟨as, h⟩ := Dt.reads I d r
    obtain ⟨bs, h'⟩ := Dts.reads I ds rs
    exact ⟨_, .cons h h'⟩
end
end
section
variable{X:Cx}{k:Nat}
def rEqD(K:Ah):R2:=fun x y H Q=>∃d e,Dt K H x d/\Dt K H y e/\d.canLay0=true/\e.canLay0=true/\min d.depth e.depth<=100/\Q (.bl (Eu d e)) H
def rNeD(K:Ah):R2:=fun x y H Q=>∃d e,Dt K H x d/\Dt K H y e/\d.canLay0=true/\e.canLay0=true/\min d.depth e.depth<=100/\Q (.bl (!PyData.eqv d e)) H
theorem op_eqD(hr:Room k X.A):OpR X (Ca .Eq) (rEqD X.K):=by
 intro pins s σ H x y v u Q I rx ry h;obtain⟨d,e,hd,he,cd,ce,hm,q⟩:=h;obtain⟨as,r1⟩:=hd.reads I rx;obtain⟨bs,r2⟩:=he.reads I ry;have hu:=hr.un;exact SeqAt.rcAt_reads r1 r2 cd ce (by lia) X.prog X.w X.xe _ ⟨.bl _,H,I,rfl,q⟩
theorem op_neD(hr:Room k X.A):OpR X (Ca .NotEq) (rNeD X.K):=by
 intro pins s σ H x y v u Q I rx ry h;obtain⟨d,e,hd,he,cd,ce,hm,q⟩:=h;obtain⟨as,r1⟩:=hd.reads I rx;obtain⟨bs,r2⟩:=he.reads I ry;have hu:=hr.un;exact SeqAt.rcNeAt_reads r1 r2 cd ce (by lia) X.prog X.w X.xe _ ⟨.bl _,H,I,rfl,q⟩
def rAddU:R2:=fun x y H Q=>(∃i j,x=.int i/\y=.int j/\Q (.int (i+j)) H)\/(∃i j,x=.str i/\y=.str j/\i.length+j.length<=sizeLine/\Q (.str (i++j)) H)\/rCat x y H Q
theorem q0q:OpR X (Fe .Add) rAddU:=op_add.or (op_add_str.or op_cat)
def rMulU:R2:=fun x y H Q=>(∃i j,x=.int i/\y=.int j/\CMul i j/\Q (.int (i*j)) H)\/rMulS x y H Q\/rRep x y H Q
theorem q2n:OpR X (Fe .Mult) rMulU:=op_mul.or (op_mulS.or op_rep)
def rEqU(K:Ah):R2:=fun x y H Q=>rEq x y H Q\/rEqD K x y H Q
theorem op_eqU(hr:Room k X.A):OpR X (Ca .Eq) (rEqU X.K):=op_eq.or (op_eqD hr)
def rNeU(K:Ah):R2:=fun x y H Q=>rNe x y H Q\/rNeD K x y H Q
theorem op_neU(hr:Room k X.A):OpR X (Ca .NotEq) (rNeU X.K):=op_ne.or (op_neD hr)
def rInU(K:Ah):R2:=fun x y H Q=>(∃i j,x=.str i/\y=.str j/\Q (.bl (!(Cy j i 0 j.length 1).isEmpty)) H)\/rIn K false x y H Q
theorem op_inU:OpR X (Ca .In) (rInU X.K):=op_in_str.or z6t
def rNinU(K:Ah):R2:=fun x y H Q=>(∃i j,x=.str i/\y=.str j/\Q (.bl (!(!(Cy j i 0 j.length 1).isEmpty))) H)\/rIn K true x y H Q
theorem x3n:OpR X (Ca .NotIn) (rNinU X.K):=op_notIn_str.or z0q
def rSlU(K:Ah):V->Option Int->Option Int->Hp->VK->Prop:=fun x lo hi H Q=>rSlS x lo hi H Q\/rSlL K x lo hi H Q\/rSlT K x lo hi H Q
theorem sl_U:SlR X (rSlU X.K):=sl_str.or (sl_list.or x2h)
def iAny(K:Ah)(tl:TE):TI:=fun σ H R=>tl σ H fun x H1=>(∃a,x=.ref a/\(∃xs,SqL K H1 a xs)/\R (Itl K a) H1)\/(∃a,x=.ref a/\(∃xs,SqT K H1 a xs)/\R (Itt K a) H1)\/∃z,x=.str z/\R (Its z) H1
theorem pi_any(hl:PE X l tl):PI X tg l (iAny X.K tl):=by
 intro pins s σ H R I h;refine thn (hl pins s σ H _ I h) fun v s1 ⟨x,H1,I1,r1,q1⟩=>?_;have fp:∀b∈[s1.heap.objs.size],FpOk X pins H1 b:=fun b hb=>by
  have e:b=s1.heap.objs.size:=by grind
  subst e;exact I1.fpOk (Aj _) (I1.hok.fresh (Aj _))
 rcases q1 with⟨a,e,⟨xs,hq⟩,q⟩|⟨a,e,⟨xs,hq⟩,q⟩|⟨z,e,q⟩
 ·subst e;cases r1;obtain⟨its,rv,p,hz⟩:=I1.list hq;exact Nw p.isList ⟨s1.heap.objs.size,[s1.heap.objs.size],_,_,H1,rfl,I1.kept (t':=s1.toks) fun b o e=>Ag _ e,z6f a _,⟨_,Ar _ rfl,rfl,rfl⟩,fp,q⟩
 ·subst e;cases r1;obtain⟨its,rv,p,hz⟩:=I1.tuple hq;exact wpAny_pyIter_tuple (show s1.heap.IsTuple a its.toArray from p) ⟨s1.heap.objs.size,[s1.heap.objs.size],_,_,H1,rfl,I1.kept (t':=s1.toks) fun b o e=>Ag _ e,z4u a _,⟨_,Ar _ rfl,rfl,rfl⟩,fp,q⟩
 ·subst e;obtain⟨t,rfl⟩:=r1;cases ha:z.cps.all (· < 128)
  ·exact wpAny_pyIter_wide ha ⟨s1.heap.objs.size,[s1.heap.objs.size],_,_,H1,rfl,I1.kept (t':=s1.toks) fun b o e=>Ag _ e,z6z _ z t,⟨Br _,_,Ar _ rfl,rfl,rfl⟩,fp,q⟩
  ·exact wpAny_pyIter_ascii ha ⟨s1.heap.objs.size,[s1.heap.objs.size],_,_,H1,rfl,I1.kept (t':=s1.toks) fun b o e=>Ag _ e,z6y _ z t,⟨Br _,_,Ar _ rfl,rfl,rfl⟩,fp,q⟩
end
open PySem PySem.Spec PyProof.Rows
section
variable{X:Cx}{a b o e l:Expr}{es:List Expr}{ta tb to te tl:TE}{t:TA}{pos p2 apos cpos:Pos}{k:Nat}{name:Str}{T idn:String}{r:V->List V->Hp->VK->Prop}
theorem ix_k(K:Ah)(hK:X.K=K):IxR X (rIx K):=by subst hK;exact ix_seq
theorem q1k(K:Ah)(hK:X.K=K):CallR X (.builtin "len") (fun xs H Q=>∃x n,xs=[x]/\LenV K x H n/\Q (.int n) H):=by subst hK;exact x0e
theorem eq_k(K:Ah)(hK:X.K=K)(hr:Room k X.A):OpR X (Ca .Eq) (rEqU K):=by subst hK;exact op_eqU hr
theorem ne_k(K:Ah)(hK:X.K=K)(hr:Room k X.A):OpR X (Ca .NotEq) (rNeU K):=by subst hK;exact op_neU hr
theorem in_k(K:Ah)(hK:X.K=K):OpR X (Ca .In) (rInU K):=by subst hK;exact op_inU
theorem nin_k(K:Ah)(hK:X.K=K):OpR X (Ca .NotIn) (rNinU K):=by subst hK;exact x3n
theorem sl_k(K:Ah)(hK:X.K=K):SlR X (rSlU K):=by subst hK;exact sl_U
theorem q6j{tg:Expr}(K:Ah)(hK:X.K=K)(hl:PE X l tl):PI X tg l (iAny K tl):=by subst hK;exact pi_any hl
theorem all_k(K:Ah)(hK:X.K=K)(hc:X.calm=true):CallR X (.builtin "all") (fun xs H Q=>∃(p:Addr) (bs:List Bool),xs=[.ref p]/\SqL K H p (bs.map V.bl)/\Q (.bl (bs.all id)) H):=by subst hK;exact x0n hc
theorem z5f(K:Ah)(hK:X.K=K):CallR X (.builtin "isinstance") (fun xs H Q=>∃x c t b,xs=[x,.ty c]/\TyOf K H x t/\Ff K t (.type c)=some b/\Q (.bl b) H):=by subst hK;exact z2k
theorem z7b(K:Ah)(hK:X.K=K):CallR X (.type "list") (fun xs H Q=>∃p ys,xs=[.ref p]/\(SqL K H p ys\/SqT K H p ys)/\∀l,H l=none->Q (.ref l) (upd H l (.lst ys))):=by subst hK;exact z0r
theorem x3o(K:Ah)(hK:X.K=K):CallR X (.type "tuple") (fun xs H Q=>∃p ys,xs=[.ref p]/\((SqL K H p ys/\∀l,H l=none->Q (.ref l) (upd H l (.tup ys)))\/(SqT K H p ys/\Q (.ref p) H))):=by subst hK;exact q9i
theorem z0w(K:Ah)(hK:X.K=K):MtM X "str.join" (rJoin K):=by subst hK;exact x3l
theorem q1w{kk n:Nat}{u:TGs}(K:Ah)(hK:X.K=K)(hc:X.calm=true)(h:PGs X es u)(hn:(Iz es X.env).length=n:=by rfl)(hst:(Iz es X.env).findIdx? (·.1)=none:=by rfl):PG X (.Tuple es kk pos) (gTup K n u):=by subst hK;exact pg_tup hc h hn hst
theorem bm_k(K:Ah)(hK:X.K=K)(pa:Qp T)(slot:Slot T name idn)(hty:typeOf (.builtin idn)=pure (.type "method_descriptor"))(hm:MtR X idn r)(ho:PE X o to)(ha:PA X (e::es) t)(hbase:Fo o name X.env (eval o X.env)=eval o X.env:=by rfl)(hfew:((Eh cpos (Be (e::es) X.env)).all (fun x => !x.1)&&(Mu cpos (Jl [] X.env)).all (fun x=>x.1.isSome)
   && decide ((e::es).length+([]:List Qb).length+(if ([]:List Qb).isEmpty then 0 else 1)<30))=true:=by rfl)(hline:(apos.endLine==cpos.line)=true:=by rfl)(hs:Be (e::es) X.env=(false,eval e X.env)::Be es X.env:=by rfl)(hplain:(Eh cpos (Be es X.env)).any (·.1)=false:=by rfl):
  PE X (.Call (.Attribute o name apos) (e::es) [] cpos) (tBM K T r to t):=by subst hK;exact pe_bm pa slot hty hm ho ha hbase hfew hline hs hplain
theorem z2l(K:Ah)(hK:X.K=K)(pa:Qp T)(slot:Slot T name idn)(hty:typeOf (.builtin idn)=pure (.type "method_descriptor"))(hm:MtR X idn r)(ho:PE X o to)(hbase:Fo o name X.env (eval o X.env)=eval o X.env:=by rfl)(hline:(apos.endLine==cpos.line)=true:=by rfl):PE X (.Call (.Attribute o name apos) [] [] cpos) (tBM0 K T r to):=by subst hK;exact pe_bm0 pa slot hty hm ho hbase hline
theorem q2k(K:Ah)(hK:X.K=K)(ha:PE X a ta)(he:∀whole,isTrue a X.env whole=(do let v<-whole;Oc a.pos;Lq [v] (truthy v))):
  PT X a (fun σ H Q=>ta σ H fun x H'=>∃k,TruV K x H' k/\Q k H'):=by subst hK;exact x0d ha he
end
theorem q4o{lo:Int}{r:St}{Fin:List V->Hp->Prop}(Pv:Nat->List V->Hp->Prop)(h0:Pv 0 [] (upd H1 D (.lst [])))(hl:∀i ys H,Pv i ys H->H D=some (.lst ys))(hs:∀i ys H,i<n->Pv i ys H->te (some (.int (lo+i))::r) H fun v H4=>H4 D=some (.lst ys)/\ys.length<sizeLine/\Pv (i+1) (ys++[v]) (upd H4 D (.lst (ys++[v]))))(hd:∀ys H,Pv n ys H->Fin ys H):CompW (Itr lo n) (gName 0) tIf0 te (none::r) D Fin H1 :=
 z5e Pv h0 hl (fun i ys H h p=>(⟨q4d,iteT (hs i ys H h p)⟩:Keeps0 (none::r) (some (.int (lo+i))::r)/\if true=true then te (some (.int (lo+i))::r) H fun v H4=>H4 D=some (.lst ys)/\ys.length<sizeLine/\Pv (i+1) (ys++[v]) (upd H4 D (.lst (ys++[v]))) else Pv (i+1) ys H)) hd
theorem z7c{r:St}{Fin:List V->Hp->Prop}(Pv:Nat->List V->Hp->Prop)(h0:Pv 0 [] (upd H1 D (.lst [])))(hl:∀i ys H,Pv i ys H->H D=some (.lst ys))(hs:∀i ys H c,z.cps[i]?=some c->Pv i ys H->te (some (.str ⟨#[c]⟩)::r) H fun v H4=>H4 D=some (.lst ys)/\ys.length<sizeLine/\Pv (i+1) (ys++[v]) (upd H4 D (.lst (ys++[v]))))(hd:∀ys H,Pv z.length ys H->Fin ys H):CompW (Its z) (gName 0) tIf0 te (none::r) D Fin H1 :=
 x0o Pv h0 hl (fun i ys H c h p=>(⟨q4d,iteT (hs i ys H c h p)⟩:Keeps0 (none::r) (some (.str ⟨#[c]⟩)::r)/\if true=true then te (some (.str ⟨#[c]⟩)::r) H fun v H4=>H4 D=some (.lst ys)/\ys.length<sizeLine/\Pv (i+1) (ys++[v]) (upd H4 D (.lst (ys++[v]))) else Pv (i+1) ys H)) hd
theorem q4e{K:Ah}{r:St}{Fin:List V->Hp->Prop}(Pv:Nat->List V->Hp->Prop)(h0:Pv 0 [] (upd H1 D (.lst [])))(hl:∀i ys H,Pv i ys H->H D=some (.lst ys)/\SqL K H a xs)(hs:∀i ys H x,xs[i]?=some x->Pv i ys H->te (some x::r) H fun v H4=>H4 D=some (.lst ys)/\ys.length<sizeLine/\Pv (i+1) (ys++[v]) (upd H4 D (.lst (ys++[v]))))(hd:∀ys H,Pv xs.length ys H->Fin ys H):CompW (Itl K a) (gName 0) tIf0 te (none::r) D Fin H1 :=
 q7g Pv h0 hl (fun i ys H x h p=>(⟨q4d,iteT (hs i ys H x h p)⟩:Keeps0 (none::r) (some x::r)/\if true=true then te (some x::r) H fun v H4=>H4 D=some (.lst ys)/\ys.length<sizeLine/\Pv (i+1) (ys++[v]) (upd H4 D (.lst (ys++[v]))) else Pv (i+1) ys H)) hd
def tSeqJ(t u:TS):TS:=fun D σ H=>∃J:St->Hp->Prop,(∀σ' H',J σ' H'->u D σ' H')/\t { D with nx:=J } σ H
theorem q5d{X:Cx}{st:Stmt}{rest:List Stmt}{t u:TS}(h1:PS X st t)(h2:PSs X rest u):PSs X (st::rest) (tSeqJ t u):=by
 intro pins s σ H D I h;obtain⟨J,hJ,h⟩:=h;refine Of (thn (h1 pins s σ H { D with nx:=J } I h) fun f s1 q=>?_);cases f with
 |next =>
  obtain⟨σ',H',I',q⟩:=q;exact h2 pins s1 σ' H' D I' (hJ σ' H' q)
 |ret v=>exact q
 |brk=>exact q
 |cont=>exact q
def tVJ(t:TE):TE:=fun σ H Q=>∃J:VK,(∀v H',J v H'->Q v H')/\t σ H J
theorem pe_j{X:Cx}{e:Expr}{t:TE}(h:PE X e t):PE X e (tVJ t):=by
 intro pins s σ H Q I hw;obtain⟨J,hJ,hw⟩:=hw;exact thn (h pins s σ H J I hw) fun u s' ⟨v,H',I',r,q⟩=>⟨v,H',I',r,hJ v H' q⟩
def tTJ(t:TT):TT:=fun σ H Q=>∃J:Bool->Hp->Prop,(∀b H',J b H'->Q b H')/\t σ H J
theorem pt_j{X:Cx}{e:Expr}{t:TT}(h:PT X e t):PT X e (tTJ t):=by
 intro pins s σ H Q I hw;obtain⟨J,hJ,hw⟩:=hw;exact thn (h pins s σ H J I hw) fun u s' ⟨H',I',q⟩=>⟨H',I',hJ u H' q⟩
theorem iteB{B:Prop}(hA:c=true->A)(hB:c=false->B):if c=true then A else B:=by grind
end L2
namespace TX
open PySem PySem.Spec PyProof.Rows L2
abbrev tl(x:Str):List Nat:=x.cps.toList
abbrev mk(l:List Nat):Str:=⟨l.toArray⟩
theorem q1h(l:List Nat):tl (mk l)=l:=by simp[tl,mk]
theorem z0x(x:Str):mk (tl x)=x:=by simp[tl,mk]
theorem ext(h:tl x=tl y):x=y:=ext_toList h
theorem len(x:Str):x.length=(tl x).length:=by simp[tl,Str.length]
theorem q6e(x y:Str):tl (x++y)=tl x++tl y:=by
 show(x.cps++y.cps).toList=_;simp[tl]
theorem get{i:Nat}(h:x.cps[i]?=some c):(tl x)[i]?=some c:=by simpa[tl] using h
theorem q7k(z:Str)(ts:List Str):Li z ts=Mw z ts:=StrLaws.glued_eq_join z ts
theorem z7d:∀ts:List Str,tl (Li (Ad "") ts)=(ts.map tl).flatten:=by
 intro ts;rw[q7k];induction ts with
 |nil=>rfl
 |cons a r ih =>
  cases r with
  |nil=>simp[Mw]
  |cons b r =>
   show tl (a++Ad "" ++ Mw (Ad "") (b::r))=_;rw[q6e,q6e,ih];have e:tl (Ad "")=[]:=by decide +kernel
   rw[e];simp
theorem z0y(cs:List Nat):Li (Ad "") (cs.map fun c=>(⟨#[c]⟩:Str))=mk cs:=by
 apply ext;rw[z7d,q1h,Ba];induction cs with
 |nil=>rfl
 |cons c r ih=>rw[Ap,Nu,ih];rfl
theorem z3s(cs:List Nat):((cs.map fun c=>(⟨#[c]⟩:Str)).map (·.length)).sum=cs.length:=by
 induction cs with
 |nil=>rfl
 |cons c r ih=>rw[Ap,Ap,Ra,ih,Bm];show 1+_=_;lia
theorem x0q{j:Int}(h0:0<=j)(h1:j<=(tl x).length):Uq x none (some j)=mk ((tl x).take j.toNat):=by
 show Fl x none (some j)=_;rw[StrLaws.sliceText_to ⟨h0,h1⟩];simp[mk,tl]
theorem in_one(x:Str)(c:Nat):(!(Cy x ⟨#[c]⟩ 0 x.length 1).isEmpty)=decide (c∈tl x):=StrLaws.found_one x c
theorem lower(h:∀c∈tl x,c<128):tl (Txt.lower x)=(tl x).map lo1:=by
 rw[lower_ascii h];simp[tl]
theorem small(h:n<=1000000):n<=sizeLine:=by rw[Er];lia
theorem small'(h:n<=1000000):n<sizeLine:=by rw[Er];lia
end TX
namespace L2
open PySem PySem.Spec PyProof.Rows TX
theorem q6f{α:Type}{l:List α}{x:α}(h:l[i]?=some x):l.take (i+1)=l.take i++[x]:=by
 rw[Mx,h];rfl
open PySem PySem.Spec PyProof.Rows
section
variable{prog:Program}{w:World}{K:Ah}{A:Around}{E:Value->Af->Prop}{s:Af}{J:It}{st:Nat->Heap->Prop}{e it:Addr}{H:Hp}
theorem z5g{i:Nat}{Q:Value->Af->Prop}(S:Srce prog w K J it st)(hh:A.handled=none)(vw:Vw K H s.heap)(nH:H it=none)(nK:K.lookup it=none)(he:IsEnum s.heap e it i old)(hst:st i s.heap)(go:J.go i H)(hne:e≠it)(hQ:∀u x h' tk,RelV x u->J.yld i H x H->IsEnumOut h' e it ((i:Int)+1) u s.heap.objs.size->st (i+1) h'->h'.get? s.heap.objs.size=some { cls:=.type "tuple",data:=.seq #[.int i tk,u] }->h'.objs.size=s.heap.objs.size+1 ->
   (∀b o,b≠e->b≠it->s.heap.get? b=some o->h'.get? b=some o)->Q (.ref s.heap.objs.size) { s with heap:=h',toks:=tk+1 }):
  wpAny (model prog w) A (Dp.«enumerate.__next__» ⟨[.ref e],[]⟩) (fun fin s'=>∃v,fin=.done (.ret v)/\Q v s') E s:=by
 obtain⟨hp,g,d,tk₀,os⟩:=s;show wpAny _ _ (field (.ref e) 2 >>= _) _ _ _;refine Ab (Bz he rfl rfl ?_);refine Ab (S.item _ i _ H _ _ hh vw nH nK hst go fun u x h₁ tk rx yx st₁ hs₁=>?_);have he₁:=(hs₁.2 e hne).trans he;refine Ab (Bz he₁ rfl rfl ?_);refine Ab (Bz he₁ rfl rfl ?_);refine Ab (wpAny_mkInt ?_);refine Ab (Gf he₁ (by simp) fun h₂ he₂ hs₂=>?_);refine Ab (Gf he₂ (by simp) fun h₃ he₃ hs₃=>?_);refine Ab (Qd ?_);have he₄:IsEnum (h₃.push { cls:=.type "tuple",data:=.seq #[.int i tk,u] }) e it ((i:Int)+1) old:=Ag _ he₃;generalize hh₄:h₃.push { cls:=.type "tuple",data:=.seq #[.int i tk,u] }=h₄ at he₄;have hsz:h₃.objs.size=hp.objs.size:=by rw[hs₃.1,hs₂.1,hs₁.1]
 have hel:=Am he;have ht₄:h₄.get? hp.objs.size=some { cls:=.type "tuple",data:=.seq #[.int i tk,u] }:=by rw[<- hh₄,<- hsz];exact Ar _ rfl
 have hz₄:h₄.objs.size=hp.objs.size+1:=by rw[<- hh₄,He,hsz]
 have hk₄:∀b o,b≠e->b≠it->hp.get? b=some o->h₄.get? b=some o:=fun b o hbe hbi hb=>by
  rw[<- hh₄];exact Ag _ (hs₃.extBut b o hbe (hs₂.extBut b o hbe (hs₁.extBut b o hbi hb)))
 have hit₄:st (i+1) h₄:=S.keep _ _ _ st₁ fun o y=>by
  rw[<- hh₄];exact Ag _ (hs₃.extBut it o hne.symm (hs₂.extBut it o hne.symm y))
 rw[hsz];refine Ab ?_;refine Ab (Bz he₄ rfl rfl (Ae ?_));refine Ab (Je ?_);refine Ab (Bz he₄ rfl rfl ?_);refine Ab (Gf he₄ (by simp) fun h₅ he₅ hs₅=>?_);refine Ab ?_;refine Ab (Gf he₅ (by simp) fun h₆ he₆ hs₆=>?_);refine Gf he₆ (by simp) fun h₇ he₇ hs₇=>?_;have up:=fun b o hb y=>hs₇.extBut b o hb (hs₆.extBut b o hb (hs₅.extBut b o hb y));refine Ab (wpAny_letGo (Ae ⟨_,rfl,hQ u x h₇ tk rx yx he₇ (S.keep _ _ _ hit₄ fun o y=>up _ o hne.symm y) (up _ _ (Fb hel) ht₄) ?_ fun b o hbe hbi hb=>up b o hbe (hk₄ b o hbe hbi hb)⟩));rw[hs₇.1,hs₆.1,hs₅.1,hz₄]
end
def Ite(J:It):It:=⟨fun i H=>J.go i H,fun i H x H'=>∃T y,H T=none/\J.yld i H y H/\x=.ref T/\H'=upd H T (.tup [.int i,y]),fun i H=>J.stop i H⟩
theorem z7e{K:Ah}{st:Nat->Heap->Prop}(hne:e≠it)(S:Srce P w K J it st):
  Turn P w K (.Tuple elts kk pos) (Ite J) [e,it] e (fun i h=>(∃old,IsEnum h e it i old)/\st i h) where
 mem:=by simp
 obj:=fun i h hs b hb=>by
  obtain⟨⟨old,he⟩,h1⟩:=hs;simp only[Bd,Lj,or_false] at hb;rcases hb with rfl|rfl
  ·grind
  ·exact S.obj i h h1
 keep:=fun i h h' hs k=>by
  obtain⟨⟨old,he⟩,h1⟩:=hs;exact⟨⟨old,k e (by simp) _ he⟩,S.keep _ _ _ h1 fun o y=>k it (by simp) o y⟩
 item:=by
  intro X hP hw hK hc i pins s σ H E I hf hs hg;subst hP hw hK;obtain⟨⟨old,he⟩,h1⟩:=hs;have hT:s.TypeIs (.ref e) "enumerate" := ⟨_,he,rfl⟩
  refine Ab (Ds (Cm hT Io
   (Ce Io hT Pn
    (z5g S (I.ok.hd hc) I.vw (hf it (by simp)).1 ((hf it (by simp)).noK I) he h1 hg hne fun u x h' tk rx yx a1 a2 a3 a4 a5=>Ae ?_) (Ow _))))
  refine⟨_,rfl,?_⟩;refine wpAny_letOwnedTupleGo_enum a1 fun h2 he2 hs2=>?_;have k2:∀c o,c∉[e,it]->s.heap.get? c=some o->h2.get? c=some o:=fun c o hcn y=>by
   simp only[Bd,Lj,or_false,not_or] at hcn;exact hs2.extBut _ _ hcn.1 (a5 c o hcn.1 hcn.2 y)
  have elt:=Am he;have ilt:it<s.heap.objs.size:=by obtain⟨o,y,_⟩:=S.obj _ _ h1;exact Am y
  have I1:Inv X pins σ H { s with heap:=h2,toks:=tk+1 }:=I.turnedL k2 hf;have FT:=I.fpOk (Aj _) I.fresh;have hT2:h2.get? s.heap.objs.size=some { cls:=.type "tuple",data:=.seq #[.int i tk,u] }:=hs2.extBut _ _ (Fb elt) a3;have I2:Inv X pins σ (upd H s.heap.objs.size (.tup [.int i,x])) { s with heap:=h2,toks:=tk+1 } :=
   I1.track I.sz FT ⟨by show 2<=sizeLine;decide,[.int i tk,u],.cons ⟨_,rfl⟩ (.cons rx .nil),⟨_,hT2,rfl,_,rfl⟩⟩
  refine⟨.ref s.heap.objs.size,_,I2,rfl,⟨_,x,I.fresh,yx,rfl,rfl⟩,⟨⟨u,by simpa using he2⟩,S.keep _ _ _ a2 fun o y=>hs2.extBut _ _ hne.symm y⟩,fun b hb=>?_⟩;have hb2:=(hf b hb).1;rw[q0e]
  ·exact hb2
  ·grind
 done:=by
  intro X hP hw hK hc i pins s σ H E I hf hs hg;subst hP hw hK;obtain⟨⟨old,he⟩,h1⟩:=hs;have hT:s.TypeIs (.ref e) "enumerate" := ⟨_,he,rfl⟩
  refine Ab (Ds (Cm hT Io
   (Ce Io hT Pn ?_ (Ow _))))
  show wpAny _ _ (field (.ref e) 2 >>= _) _ _ _;refine Ab (Bz he rfl rfl ?_);refine Ab (S.done _ i _ H _ _ (I.ok.hd hc) I.vw (hf it (by simp)).1 ((hf it (by simp)).noK I) h1 hg fun h' x he' hx'=>?_);obtain⟨o,ho,hcl⟩:=hx';refine Ab (Lk ⟨o,ho,hcl⟩ My ?_);refine Ae ⟨rfl,I.turnedL (t':=s.toks) (fun c o hcn y=>?_) hf⟩;simp only[Bd,Lj,or_false,not_or] at hcn;exact he' c o hcn.2 y
 self:=fun _ _ _ _ _ hs h=>by
  obtain⟨⟨old,he⟩,_⟩:=hs;exact Ss he h
section
variable{X:Cx}{elts:List Expr}{kk:Nat}{tpos:Pos}
theorem z0z{σ:St}{st:Nat->Heap->Prop}(I:Inv X pins σ H s)(S:Srce X.prog X.w X.K J s.heap.objs.size st)(he:IsEnum h' (s.heap.objs.size+1) s.heap.objs.size 0 .none)(h1:st 0 h')(hk:∀c o,s.heap.get? c=some o->h'.get? c=some o)(q:R (Ite J) H):
  wpAny (model X.prog X.w) X.A (Na (.ref (s.heap.objs.size+1))) (PIE X pins σ (.Tuple elts kk tpos) R) E { s with heap:=h' }:=by
 refine Ss he ?_;refine⟨_,_,_,_,H,rfl,I.kept (t':=s.toks) hk,z7e (show(s.heap.objs.size+1:Nat)≠s.heap.objs.size by lia) S,⟨⟨_,he⟩,h1⟩,fun b hb=>?_,q⟩;have hb':s.heap.objs.size<=b:=by
  simp only[Bd,Lj,or_false] at hb;rcases hb with rfl|rfl
  ·exact Ig _
  ·exact Aj _
 exact I.fpOk hb' (I.hok.fresh hb')
def iEnum(K:Ah)(ta:TA):TI:=fun σ H R=>ta σ H fun vs H1=>(∃z,vs=[.str z]/\R (Ite (Its z)) H1)\/∃a xs,vs=[.ref a]/\SqL K H1 a xs/\R (Ite (Itl K a)) H1
theorem x3p(hg:Gl X "enumerate")(hm:X.mg "enumerate" = none)(ha:PA X [a] ta)(hs:Be [a] X.env=[(false,eval a X.env)]:=by rfl):
  PI X (.Tuple elts kk tpos) (.Call (.Name "enumerate" p) [a] [] pos) (iEnum X.K ta):=by
 intro pins s σ H R I h;refine Call_ (q8j I hg hm (by decide +kernel:Hg "enumerate" = some (.type "enumerate")) (Gd (thn (ha pos pins s σ H _ I h) fun us s1 ⟨vs,H1,I1,r1,q1⟩=>?_) hs rfl));rcases q1 with⟨z,e,q⟩|⟨l,xs,e,hq,q⟩
 ·subst e;obtain⟨u,rfl,t,rfl⟩:=vals1 r1;exact call_enumerate_str fun h' he hi hz hk=>z0z I1 (x0p _ z t) he hi hk q
 ·subst e;obtain⟨u,rfl,r⟩:=vals1 r1;cases r;obtain⟨its,rv,pl,_⟩:=I1.list hq;exact call_enumerate_list pl.isList fun h' he hi hz hk=>z0z I1 (z7a l _) he hi hk q
theorem x2k{a:Expr}{ta:TA}{p pos:Pos}(K:Ah)(hK:X.K=K)(hg:Gl X "enumerate")(hm:X.mg "enumerate" = none)(ha:PA X [a] ta)(hs:Be [a] X.env=[(false,eval a X.env)]:=by rfl):
  PI X (.Tuple elts kk tpos) (.Call (.Name "enumerate" p) [a] [] pos) (iEnum K ta):=by subst hK;exact x3p hg hm ha hs
end
end L2
namespace K
open PySem L2 TX
def NSs:Str:=Ad "abcdefghijklmnopqrstuvwxyzABCDEFGHIJKLMNOPQRSTUVWXYZ0123456789-_."
def GSs:Str:=Ad "?*#@"
abbrev NS:List Nat:=tl NSs
abbrev GS:List Nat:=tl GSs
inductive Pt where
 |tx (l:List Nat)
 |gp (c:Nat)
namespace Pt
def fl:Pt->List Nat
 |tx l=>l
 |gp c=>[c]
def isG:Pt->Bool
 |tx _=>false
 |gp _=>true
def ok:Pt->Prop
 |tx l=>l≠[]/\∀c∈l,c∈NS
 |gp c=>c∈GS
def word:Pt->Str
 |tx _=>Ad "text"
 |gp _=>Ad "gap"
def vs(p:Pt):List V:=[.str p.word,.str (mk p.fl)]
def dat(p:Pt):PyData:=.tuple [.str p.word,.str (mk p.fl)]
end Pt
def tp(t:List Nat):List Pt:=if t=[] then[] else[.tx t]
def TKeep(H H':Hp):Prop:=∀T xs,H T=some (.tup xs)->H' T=some (.tup xs)
theorem TKeep.refl(H:Hp):TKeep H H:=fun _ _ h=>h
theorem TKeep.trans(a:TKeep H H1)(b:TKeep H1 H2):TKeep H H2:=fun T xs h=>b T xs (a T xs h)
theorem TKeep.new(k:TKeep H H')(h:H' p=none):TKeep H (upd H' p o):=fun T xs e=>by rw[q0e (q0n (k T xs e) h)];exact k T xs e
theorem TKeep.lst{H H':Hp}{p:Addr}{ys zs:List V}(k:TKeep H H')(h:H' p=some (.lst ys)):TKeep H (upd H' p (.lst zs)):=fun T xs e=>by
 rw[q0e (z6c (k T xs e) h (by intro z;cases z))];exact k T xs e
theorem Fd.tk(F:FeedAt H a b)(x:Fd a b H H'):TKeep H H':=fun T xs e=>by
 obtain⟨i,j,h⟩:=F.fa;exact x.at e (z6c e h (by intro z;cases z))
theorem Same.tk(s:Same H H'):TKeep H H':=fun T xs e=>s _ _ e
theorem Pt.dt{p:Pt}(h:H T=some (.tup p.vs)):Dt K H (.ref T) p.dat :=
 .tup (SqT.of h) (.cons (.str _) (.cons (.str _) .nil))
end K
namespace L2
open PySem PySem.Spec PyProof.Rows
section
variable{κ:Type}[DecidableEq κ]
def valV(kvs:List (κ×V))(k:κ):Option V:=(kvs.find? fun kv=>decide (kv.1=k)).map (·.2)
def putK(kvs:List (κ×V))(k:κ)(v:V):List (κ×V) :=
 if (kvs.any fun kv=>decide (kv.1=k))=true then kvs.map (fun kv=>if kv.1=k then(kv.1,v) else kv) else kvs++[(k,v)]
def dropK(kvs:List (κ×V))(k:κ):List (κ×V):=kvs.filter fun kv=>decide (kv.1≠k)
theorem q1n{p:κ×V}(e:p.1=k):valV (p::r) k=some p.2:=by simp[valV,Hx,e]
theorem q1l{p:κ×V}(e:¬p.1=k):valV (p::r) k=valV r k:=by simp[valV,Hx,e]
theorem q5e(k:κ):∀kvs:List (κ×V),(kvs.any fun kv=>decide (kv.1=k))=(valV kvs k).isSome
 |[]=>rfl
 |p::r=>by
  rw[Qz];by_cases e:p.1=k
  ·simp only[q1n e,decide_eq_true e,Bool.true_or,Option.isSome_some]
  ·rw[q1l e,decide_eq_false e,Bool.false_or];exact q5e k r
theorem z3t(k j:κ)(y:V):∀kvs:List (κ×V),valV (kvs.map fun kv=>if kv.1=k then(kv.1,y) else kv) j=(valV kvs j).map fun x=>if j=k then y else x
 |[]=>rfl
 |p::r=>by
  have ih:=z3t k j y r;rw[Ap];by_cases h:p.1=k
  ·rw[if_pos h];by_cases e:p.1=j
   ·rw[q1n (p:=(p.1,y)) e,q1n e,Js,if_pos (e.symm.trans h)]
   ·rw[q1l (p:=(p.1,y)) e,q1l e,ih]
  ·rw[if_neg h];by_cases e:p.1=j
   ·rw[q1n e,q1n e,Js,if_neg (fun z=>h (e.trans z))]
   ·rw[q1l e,q1l e,ih]
theorem z1a(k j:κ)(y:V):∀kvs:List (κ×V),valV kvs k=none->valV (kvs++[(k,y)]) j=if j=k then some y else valV kvs j
 |[],_=>by
  by_cases e:k=j
  ·rw[if_pos e.symm];exact q1n (p:=(k,y)) e
  ·rw[if_neg (fun z=>e z.symm)];exact q1l (p:=(k,y)) e
 |p::r,hn=>by
  rw[Oq];have hk:¬p.1=k:=fun z=>by rw[q1n z] at hn;cases hn
  rw[q1l hk] at hn;have ih:=z1a k j y r hn;by_cases e:p.1=j
  ·rw[q1n e,q1n e,if_neg (fun z=>hk (e.trans z))]
  ·rw[q1l e,q1l e,ih]
theorem x0r(kvs:List (κ×V))(k j:κ)(y:V):valV (putK kvs k y) j=if j=k then some y else valV kvs j:=by
 unfold putK;by_cases a:(kvs.any fun kv=>decide (kv.1=k))=true
 ·rw[if_pos a,z3t];rw[q5e] at a;by_cases e:j=k
  ·obtain⟨x,hx⟩:=Oj.mp a;rw[if_pos e,e,hx,Js,if_pos rfl]
  ·simp_all
 ·rw[if_neg a];refine z1a k j y kvs ?_;rw[q5e] at a;cases q:valV kvs k with
  |none=>rfl
  |some x=>grind
theorem q2i(kvs:List (κ×V))(k:κ)(v:V):(putK kvs k v).length<=kvs.length+1:=by
 unfold putK;split
 ·grind
 ·grind
theorem x0s{kvs:List (κ×V)}(v:V)(h:valV kvs k=none):putK kvs k v=kvs++[(k,v)]:=by
 unfold putK;rw[q5e,h];exact if_neg (by decide)
theorem RelO.isSome_eq(r:RelO o u):o.isSome=u.isSome:=by
 cases o with
 |none=>cases u with
  |none=>rfl
  |some _=>exact(show False from r).elim
 |some _=>cases u with
  |none=>exact(show False from r).elim
  |some _=>rfl
theorem RelO.getD(r:RelO o u)(rd:RelV d d'):RelV (o.getD d) (u.getD d'):=by
 cases o with
 |none=>cases u with
  |none=>exact rd
  |some _=>exact(show False from r).elim
 |some _=>cases u with
  |none=>exact(show False from r).elim
  |some _=>exact r
theorem KV.val(r:KV kvs vs)(k:κ):RelO (valV kvs k) (valueAt vs k):=by
 induction r with
 |nil=>exact True.intro
 | @cons p q ps qs h t ih =>
  obtain⟨h1,h2⟩:=h;by_cases e:p.1=k
  ·have e':q.1=k:=h1.symm.trans e;have b:valueAt (q::qs) k=some q.2:=by simp[valueAt,Hx,e']
   rw[q1n e,b];exact h2
  ·have e':¬q.1=k:=fun z=>e (h1.trans z);have b:valueAt (q::qs) k=valueAt qs k:=by simp[valueAt,Hx,e']
   rw[q1l e,b];exact ih
theorem KV.any(r:KV kvs vs)(k:κ):(kvs.any fun kv=>decide (kv.1=k))=vs.any fun kv=>decide (kv.1=k):=by
 induction r with
 |nil=>rfl
 |cons h t ih=>simp_all
theorem KV.repl(r:KV kvs vs)(k:κ)(ry:RelV y u):
  KV (kvs.map fun kv=>if kv.1=k then(kv.1,y) else kv) (vs.map fun kv=>if kv.1=k then(kv.1,u) else kv):=by
 induction r with
 |nil=>exact .nil
 | @cons p q ps qs h t ih =>
  refine .cons ?_ ih;by_cases e:p.1=k
  ·simp_all
  ·simp_all
theorem KV.put(r:KV kvs vs)(k:κ)(ry:RelV y u):KV (putK kvs k y) (stored vs k u):=by
 unfold putK stored;rw[r.any k];by_cases e:(vs.any fun kv=>decide (kv.1=k))=true
 ·rw[if_pos e,if_pos e];exact r.repl k ry
 ·rw[if_neg e,if_neg e];exact Cz.snoc r ⟨rfl,ry⟩
theorem KV.drop(r:KV kvs vs)(k:κ):KV (dropK kvs k) (without vs k):=by
 unfold dropK without;induction r with
 |nil=>exact .nil
 | @cons p q ps qs h t ih =>
  obtain⟨h1,h2⟩:=h;rw[Th,Th];by_cases e:p.1=k
  ·simp_all
  ·have e':¬q.1=k:=fun z=>e (h1.trans z);have a:decide (p.1≠k)=true:=by simp[e]
   have b:decide (q.1≠k)=true:=by simp[e']
   rw[if_pos a,if_pos b];exact .cons ⟨h1,h2⟩ ih
theorem KV.keys{kvs:List (κ×V)}(r:KV kvs vs):kvs.map (·.1)=vs.map (·.1):=by
 induction r with
 |nil=>rfl
 |cons h t ih=>grind
theorem KV.length{kvs:List (κ×V)}(r:KV kvs vs):kvs.length=vs.length:=Es r
end
theorem z5h(r:RelV (kV k) u):(mixKind P w).is k u=true:=by
 cases k with
 |inl i=>obtain⟨t,e⟩:=(show ∃t,u=Value.int i t from r);subst e;exact z2f P w i t
 |inr x=>obtain⟨t,e⟩:=(show ∃t,u=Value.str x t from r);subst e;exact z2g P w x t
theorem z1b{P:Program}{w:World}:∀{ks:List Key} {us:List Value},Vals (ks.map kV) us->ItemsAre (mixKind P w) ks us
 |[],_,r=>by rw[List.map_nil] at r;cases r;exact .nil
 |k::ks,_,r=>by
  rw[Ap] at r;cases r with
  |cons h t=>exact .cons (z5h h) (z1b t)
abbrev KT(H:Hp):List (List Key×V)->List (List Key×Addr×Value)->Prop:=Cz fun p q=>p.1=q.1/\H q.2.1=some (.tup (p.1.map kV))/\RelV p.2 q.2.2
theorem KT.val(r:KT H kvs xs)(k:List Key):RelO (valV kvs k) ((atKey xs k).map (·.2)):=by
 induction r with
 |nil=>exact True.intro
 | @cons p q ps qs h t ih =>
  obtain⟨h1,_,h2⟩:=h;by_cases e:p.1=k
  ·have e':q.1=k:=h1.symm.trans e;have b:atKey (q::qs) k=some q.2:=by simp[atKey,Hx,e']
   rw[q1n e,b];exact h2
  ·have e':¬q.1=k:=fun z=>e (h1.trans z);have b:atKey (q::qs) k=atKey qs k:=by simp[atKey,Hx,e']
   rw[q1l e,b];exact ih
theorem KT.repl(r:KT H kvs xs)(k:List Key)(ry:RelV y u):
  KT H (kvs.map fun kv=>if kv.1=k then(kv.1,y) else kv) (xs.map (putAt k u)):=by
 induction r with
 |nil=>exact .nil
 | @cons p q ps qs h t ih =>
  refine .cons ?_ ih;unfold putAt;by_cases e:p.1=k
  ·simp_all
  ·simp_all
theorem KT.put(r:KT H kvs xs)(k:List Key)(hb:H b=some (.tup (k.map kV)))(ry:RelV y u):
  KT H (putK kvs k y) (storedH xs k b u):=by
 have e:(kvs.any fun kv=>decide (kv.1=k))=(atKey xs k).isSome:=by
  rw[q5e,(r.val k).isSome_eq,Nx]
 unfold putK storedH;rw[e];by_cases q:(atKey xs k).isSome=true
 ·rw[if_pos q,if_pos q];exact r.repl k ry
 ·rw[if_neg q,if_neg q];exact Cz.snoc r ⟨rfl,hb,ry⟩
theorem KT.keeps(r:KT H kvs xs)(ht:∀b ys,H b=some (.tup ys)->H' b=some (.tup ys)):KT H' kvs xs :=
 Cz.mapP r fun _ _ z=>⟨z.1,ht _ _ z.2.1,z.2.2⟩
section
variable{P:Program}{w:World}{H:Hp}{h:Heap}{a:Addr}
theorem rd_of(ok:HOk P w H h)(e:Rd H a u):ObjOk P w H h a u:=e.ok ok
theorem z2m(ok:HOk P w H h)(e:Rd H a (.dK kvs)):kvs.length<=sizeLine/\(a==Et)=false/\∃vs,KV kvs vs/\h.DictOf (mixKind P w) a vs :=
 show ObjOk P w H h a (.dK kvs) from rd_of ok e
theorem dk_of(ok:HOk P w H h)(e:H a=some (.dK kvs)):kvs.length<=sizeLine/\(a==Et)=false/\∃vs,KV kvs vs/\h.DictOf (mixKind P w) a vs:=z2m ok (.inl e)
theorem q7l(ok:HOk P w H h)(e:H a=some (.tup (ks.map kV))):(Hu (mixKind P w)).is h ks a:=by
 obtain⟨_,its,r,o,h1,h2,n,h3⟩:=(show ObjOk P w H h a (.tup (ks.map kV)) from ok a _ e)
 exact⟨o,its.toArray,n,h1,h2,h3,by simpa using z1b r⟩
theorem z2n(ok:HOk P w H h)(e:Rd H a (.dT kvs)):kvs.length<=sizeLine/\(a==Et)=false /\
  ∃xs,KT H kvs xs/\h.DictOfH (Hu (mixKind P w)) a xs:=by
 obtain⟨z,y,xs,r,o,es,ep,h1,h2,h3,h4,h5⟩:=(show ObjOk P w H h a (.dT kvs) from rd_of ok e)
 refine⟨z,y,xs,r,o,es,ep,h1,h2,h3,h4,fun x hx=>?_,h5⟩;have all:∀{l:List (List Key×V)} {m:List (List Key×Addr×Value)},KT H l m->∀x∈m,(Hu (mixKind P w)).is h x.1 x.2.1:=by
  intro l m q;induction q with
  |nil=>grind
  | @cons p q ps qs hq t ih =>
   intro x hx;rcases Bd.mp hx with e|hx
   ·subst e;exact q7l ok (by rw[<- hq.1];exact hq.2.1)
   ·exact ih x hx
 exact all r x hx
theorem dt_of(ok:HOk P w H h)(e:H a=some (.dT kvs)):kvs.length<=sizeLine/\(a==Et)=false /\
  ∃xs,KT H kvs xs/\h.DictOfH (Hu (mixKind P w)) a xs:=z2n ok (.inl e)
end
def DGet(H:Hp)(a:Addr)(y:V)(r:Option V):Prop :=
 (∃kvs k,Rd H a (.dK kvs)/\y=kV k/\r=valV kvs k)\/∃kvs k b,Rd H a (.dT kvs)/\y=.ref b/\H b=some (.tup (k.map kV))/\r=valV kvs k
def DPut(H:Hp)(a:Addr)(y v:V)(H':Hp):Prop :=
 (∃kvs k,H a=some (.dK kvs)/\y=kV k/\kvs.length<sizeLine/\H'=upd H a (.dK (putK kvs k v))) \/
 ∃kvs k b,H a=some (.dT kvs)/\y=.ref b/\H b=some (.tup (k.map kV))/\kvs.length<sizeLine/\H'=upd H a (.dT (putK kvs k v))
theorem DGet.k{k:Key}(e:H a=some (.dK kvs)):DGet H a (kV k) (valV kvs k):=.inl ⟨kvs,k,.inl e,rfl,rfl⟩
theorem DGet.t{k:List Key}(e:H a=some (.dT kvs))(eb:H b=some (.tup (k.map kV))):DGet H a (.ref b) (valV kvs k):=.inr ⟨kvs,k,b,.inl e,rfl,eb,rfl⟩
theorem DPut.k{k:Key}(e:H a=some (.dK kvs))(hl:kvs.length<sizeLine):DPut H a (kV k) v (upd H a (.dK (putK kvs k v))):=.inl ⟨kvs,k,e,rfl,hl,rfl⟩
theorem DPut.t{k:List Key}(e:H a=some (.dT kvs))(eb:H b=some (.tup (k.map kV)))(hl:kvs.length<sizeLine):
  DPut H a (.ref b) v (upd H a (.dT (putK kvs k v))):=.inr ⟨kvs,k,b,e,rfl,eb,hl,rfl⟩
section
variable{X:Cx}{pins:List (Addr×Obj)}{σ:St}{H:Hp}{s:Af}{a:Addr}{y v:V}{u r:Value}{o:Option V}{A:Around}{E:Value->Af->Prop}
theorem Inv.big(I:Inv X pins σ H s):Et<s.heap.objs.size:=by
 have h:=(I.mod.glob.keeps I.bk).lt;exact Nat.lt_trans (by decide) h
theorem z7f(hu:A.units+1<cLine)(I:Inv X pins σ H s)(g:DGet H a y (some v))(ry:RelV y u)(h:∀w' s',Inv X pins σ H s'->RelV v w'->Q w' s'):
  wpAny (model X.prog X.w) A (getItem (.ref a) u) Q E s:=by
 rcases g with⟨kvs,k,e,ey,l⟩|⟨kvs,k,b,e,ey,eb,l⟩
 ·subst ey;obtain⟨z,hd,vs,rel,dd⟩:=z2m I.hok e;obtain⟨w',hw,rw'⟩:=RelO.some_of (by rw[l];exact rel.val k);exact wpAny_getItem_of (z5h ry) dd.mapOf hw (h w' _ (I.tok _) rw')
 ·subst ey;cases(show u=Value.ref b from ry);obtain⟨z,hd,xs,rel,dd⟩:=z2n I.hok e;obtain⟨w',hw,rw'⟩:=RelO.some_of (by rw[l];exact rel.val k);obtain⟨p,hp,hp2⟩:=Eo.mp hw;refine wpAny_getItem_heap (Hy hu) (q7l I.hok eb) dd hp ?_;rw[hp2];exact h w' _ (I.tok _) rw'
theorem d_in(hu:A.units+1<cLine)(I:Inv X pins σ H s)(g:DGet H a y o)(ry:RelV y u)(h:∀s',Inv X pins σ H s'->Q (.bool o.isSome) s'):
  wpAny (model X.prog X.w) A (Ca .In u (.ref a)) Q E s:=by
 rcases g with⟨kvs,k,e,ey,l⟩|⟨kvs,k,b,e,ey,eb,l⟩
 ·subst ey;obtain⟨z,hd,vs,rel,dd⟩:=z2m I.hok e;refine wpAny_in_of (z5h ry) hd dd.mapOf ?_;rw[<- (rel.val k).isSome_eq,<- l];exact h _ (I.tok _)
 ·subst ey;cases(show u=Value.ref b from ry);obtain⟨z,hd,xs,rel,dd⟩:=z2n I.hok e;refine wpAny_in_heap (Hy hu) (q7l I.hok eb) hd dd ?_;have q:=(rel.val k).isSome_eq;rw[Nx] at q;rw[<- q,<- l];exact h _ (I.tok _)
theorem x3q(hu:A.units+1<cLine)(I:Inv X pins σ H s)(g:DGet H a y o)(ry:RelV y u)(h:∀s',Inv X pins σ H s'->Q (.bool (!o.isSome)) s'):
  wpAny (model X.prog X.w) A (Ca .NotIn u (.ref a)) Q E s:=by
 rcases g with⟨kvs,k,e,ey,l⟩|⟨kvs,k,b,e,ey,eb,l⟩
 ·subst ey;obtain⟨z,hd,vs,rel,dd⟩:=z2m I.hok e;refine wpAny_notIn_of (z5h ry) hd dd.mapOf ?_;rw[<- (rel.val k).isSome_eq,<- l];exact h _ (I.tok _)
 ·subst ey;cases(show u=Value.ref b from ry);obtain⟨z,hd,xs,rel,dd⟩:=z2n I.hok e;refine wpAny_notIn_heap (Hy hu) (q7l I.hok eb) hd dd ?_;have q:=(rel.val k).isSome_eq;rw[Nx] at q;rw[<- q,<- l];exact h _ (I.tok _)
theorem z2o(I:Inv X pins σ H s)(mu:Mut (H a))(hs:Ep a s.heap h')(he:∃q,h'.get? a=some q)(new:ObjOk X.prog X.w (upd H a ob) h' a ob):
  Inv X pins σ (upd H a ob) { s with heap:=h',toks:=t' } :=
 I.write mu (.inl rfl) (fun b q hb z=>(hs.2 b hb).trans z) he new
theorem dk_new(z:kvs.length<=sizeLine)(hd:(a==Et)=false)(rel:KV kvs vs)(dd:h'.DictOf (mixKind P w) a vs):
  ObjOk P w H' h' a (.dK kvs):=⟨z,hd,vs,rel,dd⟩
theorem z7g(hu:A.units+1<cLine)(I:Inv X pins σ H s)(g:DPut H a y v H')(ry:RelV y u)(rv:RelV v r)(h:∀s',Inv X pins σ H' s'->Q () s'):
  wpAny (model X.prog X.w) A (setItem (.ref a) u r) Q E s:=by
 rcases g with⟨kvs,k,e,ey,l,eH⟩|⟨kvs,k,b,e,ey,eb,l,eH⟩
 ·subst ey eH;obtain⟨z,hd,vs,rel,dd⟩:=dk_of I.hok e;have hz:vs.length<=sizeLine:=by rw[<- rel.length];exact z
  have hl:(putK kvs k v).length<=sizeLine:=by have:=q2i kvs k v;lia
  refine wpAny_setItem_pairs (z5h ry) dd fun h' dd' hs=>h _ ?_;have he:∃q,h'.get? a=some q:=let ⟨q,_,_,hq,_⟩:=dd';⟨q,hq⟩;exact z2o I (by rw[e];exact True.intro) hs he (dk_new hl hd (rel.put k rv) dd')
 ·subst ey eH;cases(show u=Value.ref b from ry);obtain⟨z,hd,xs,rel,dd⟩:=dt_of I.hok e;have hz:xs.length<=sizeLine:=by rw[<- Es rel];exact z
  have hl:(putK kvs k v).length<=sizeLine:=by have:=q2i kvs k v;lia
  refine wpAny_setItem_heap (Hy hu) (q7l I.hok eb) dd fun h' dd' hs=>h _ ?_;obtain⟨q,es,ep,hq,h2,h3,h4,_,h5⟩:=dd';refine z2o I (by rw[e];exact True.intro) hs ⟨q,hq⟩ ⟨hl,hd,_,(rel.put k eb rv).keeps fun c ys ec=>?_,q,es,ep,hq,h2,h3,h4,h5⟩;rw[q0e (z6c ec e (fun z=>nomatch z))];exact ec
end
def NoSl(i:Expr):Prop:=∀ov iv,Pk i false ov iv=operate [ov,iv] (getItem ov iv)
theorem x3r{id:String}(hl:Mc (.type T) "__getitem__" = pure (some (.builtin id)))(hs:NoSl slice)(h:wpAny (model prog w) A (eval value env) (fun o s₁=>wpAny (model prog w) A (eval slice env) (fun i s₂=>s₂.TypeIs o T/\wpAny (model prog w) A (getItem o i) Q E s₂) E s₁) E s):
  wpAny (model prog w) A (eval (.Subscript value slice pos) env) Q E s:=by
 refine Tz (Bu h (fun o s₁ h₁=>Bu h₁ (fun i s₂ h₂=>?_) fun _ _ x=>x) fun _ _ x=>x);obtain⟨hT,h₂⟩:=h₂;refine Ab ?_;refine Ab (wpAny_specialOf hT hl ?_);have fin:wpAny (model prog w) A (Pk slice false o i) (fun r s₃=>wpAny (model prog w) A (letTemporaryGo value o r >>= fun _=>pure r) Q E s₃) E s₂:=by
  rw[hs o i];exact wpAny_operating (Bu h₂ (fun r s₃ h₃=>Ab (wpAny_letTemporaryGo (Ae h₃))) fun _ _ x=>x)
 first
  |exact Ae (Ab fin)
  |exact Ab (Ae (Ab fin))
  |exact Ab fin
theorem z2p{σ:St}(I:Inv X pins σ H s)(g:DGet H a y o):s.TypeIs (.ref a) "dict" := by
 rcases g with⟨kvs,k,e,_,_⟩|⟨kvs,k,b,e,_,_,_⟩
 ·obtain⟨_,_,vs,_,dd⟩:=z2m I.hok e;exact dd.typeIs
 ·obtain⟨_,_,xs,_,dd⟩:=z2n I.hok e;exact dd.typeIs
def tDGet(td ty:TE):TE:=fun σ H Q=>td σ H fun x H1=>ty σ H1 fun y H2=>∃a v,x=.ref a/\DGet H2 a y (some v)/\Q v H2
def tDIn(ty td:TE):TE:=fun σ H Q=>ty σ H fun y H1=>td σ H1 fun x H2=>∃a o,x=.ref a/\DGet H2 a y o/\Q (.bl o.isSome) H2
def tDNotIn(ty td:TE):TE:=fun σ H Q=>ty σ H fun y H1=>td σ H1 fun x H2=>∃a o,x=.ref a/\DGet H2 a y o/\Q (.bl (!o.isSome)) H2
def sDPut(td ty tv:TE):TS:=fun D σ H=>tv σ H fun v H1=>td σ H1 fun x H2=>ty σ H2 fun y H3=>∃a H4,x=.ref a/\DPut H3 a y v H4/\D.nx σ H4
section
variable{X:Cx}{o i e value:Expr}{pos pos' tpos:Pos}{td ty tv:TE}
theorem q4p(hu:X.A.units+1<cLine)(ho:PE X o td)(hi:PE X i ty)(hs:NoSl i):PE X (.Subscript o i pos) (tDGet td ty):=by
 intro pins s σ H Q I h;refine x3r PySem.F.slot_dict_getitem.lookup hs (thn (ho pins s σ H _ I h) fun u s1 ⟨x,H1,I1,rx,q1⟩=>thn (hi pins s1 σ H1 _ I1 q1) fun iv s2 ⟨y,H2,I2,ry,a,v,ex,g,q2⟩=>?_);subst ex;obtain rfl:u=Value.ref a:=rx;exact⟨z2p I2 g,z7f hu I2 g ry fun w' s3 I3 rw'=>⟨v,H2,I3,rw',q2⟩⟩
theorem pc_din(hu:X.A.units+1<cLine)(hi:PE X i ty)(ho:PE X o td):PC X .In i o (tDIn ty td):=by
 intro pins s σ H Q I h;refine thn (hi pins s σ H _ I h) fun iv s1 ⟨y,H1,I1,ry,q1⟩=>thn (ho pins s1 σ H1 _ I1 q1) fun u s2 ⟨x,H2,I2,rx,a,ov,ex,g,q2⟩=>?_;subst ex;obtain rfl:u=Value.ref a:=rx;exact d_in hu I2 g ry fun s3 I3=>⟨.bl ov.isSome,H2,I3,rfl,q2⟩
theorem q5f(hu:X.A.units+1<cLine)(hi:PE X i ty)(ho:PE X o td):PC X .NotIn i o (tDNotIn ty td):=by
 intro pins s σ H Q I h;refine thn (hi pins s σ H _ I h) fun iv s1 ⟨y,H1,I1,ry,q1⟩=>thn (ho pins s1 σ H1 _ I1 q1) fun u s2 ⟨x,H2,I2,rx,a,ov,ex,g,q2⟩=>?_;subst ex;obtain rfl:u=Value.ref a:=rx;exact x3q hu I2 g ry fun s3 I3=>⟨.bl (!ov.isSome),H2,I3,rfl,q2⟩
theorem q9n(hu:X.A.units+1<cLine)(ho:PE X o td)(hi:PE X i ty)(hv:PE X value tv)(hs:Lp value (some (.Subscript o i pos')) pos.line X.env=pure false):
  PS X (.Assign [.Subscript o i pos'] value pos) (sDPut td ty tv):=by
 intro pins s σ H D I h;refine wpAny_Assign_Subscript (thn (hv pins s σ H _ I h) fun r s1 ⟨v,H1,I1,rv,q1⟩=>thn (ho pins s1 σ H1 _ I1 q1) fun u s2 ⟨x,H2,I2,rx,q2⟩=>thn (hi pins s2 σ H2 _ I2 q2) fun iv s3 ⟨y,H3,I3,ry,a,H4,ex,g,q3⟩=>?_) hs;subst ex;obtain rfl:u=Value.ref a:=rx;exact z7g hu I3 g ry rv fun s4 I4=>⟨σ,H4,I4,q3⟩
end
theorem q9o(h:Heap)(hb:Et<h.objs.size):ObjOk P w H (h.push { cls:=.type "dict",data:=.dict #[] }) h.objs.size (.dT []) :=
 ⟨Br _,beq_eq_false_iff_ne.mpr (Cv (Bc hb)),[],.nil,_,#[],0,Ar _ rfl,⟨rfl,rfl,rfl⟩,rfl,rfl,List.nodup_nil⟩
def tDNewT:TE:=fun _ H Q=>∀p,H p=none->Q (.ref p) (upd H p (.dT []))
section
variable{X:Cx}{pos:Pos}
theorem q9p:PE X (.Dict [] [] pos) tDNewT:=fun pins s σ H Q I h =>
 wpAny_Dict_empty ⟨.ref s.heap.objs.size,_,I.laid (t':=s.toks) (fun _ _ q=>Ag _ q) (Aj _) (q9o s.heap I.big),rfl,h _ (I.hok.fresh (Aj _))⟩
end
structure M2 (X:Cx) (o:Expr) (m:Str) (apos:Pos) (e f:Expr) (cpos:Pos):Prop where
 base:Fo o m X.env (eval o X.env)=eval o X.env
 few:((Eh cpos (Be [e,f] X.env)).all (fun x => !x.1)&&(Mu cpos (Jl [] X.env)).all (fun x=>x.1.isSome)
  && decide (([e,f]:List Expr).length+([]:List Qb).length+(if ([]:List Qb).isEmpty then 0 else 1)<30))=true
 line:(apos.endLine==cpos.line)=true
 trees:Eh cpos (Be [e,f] X.env)=[(false,eval e X.env),(false,eval f X.env)]
def IsD(H:Hp)(a:Addr):Prop:=(∃kvs,Rd H a (.dK kvs))\/∃kvs,Rd H a (.dT kvs)
theorem isD_at{σ:St}(I:Inv X pins σ H s)(d:IsD H a):
  s.TypeIs (.ref a) "dict" /\ (∀b,Value.ref a=.ref b->∃ob,s.heap.get? b=some ob/\ob.dict=none)/\(a==Et)=false:=by
 rcases d with⟨kvs,e⟩|⟨kvs,e⟩
 ·obtain⟨_,hd,vs,_,dd⟩:=z2m I.hok e;refine⟨dd.typeIs,fun b q=>?_,hd⟩;cases q;obtain⟨ob,_,_,h1,h2,_⟩:=dd;exact⟨ob,h1,h2.2.1⟩
 ·obtain⟨_,hd,xs,_,dd⟩:=z2n I.hok e;refine⟨dd.typeIs,fun b q=>?_,hd⟩;cases q;obtain⟨ob,_,_,h1,h2,_⟩:=dd;exact⟨ob,h1,h2.2.1⟩
section
variable{X:Cx}{pins:List (Addr×Obj)}{σ:St}{H:Hp}{s:Af}{a:Addr}{y d:V}{u r:Value}{o:Option V}{A:Around}{E:Value->Af->Prop}
theorem d_get2(hu:A.units+1<cLine)(I:Inv X pins σ H s)(g:DGet H a y o)(ry:RelV y u)(rd:RelV d r)(h:∀w' s',Inv X pins σ H s'->RelV (o.getD d) w'->Q w' s'):
  wpAny (model X.prog X.w) A (call (.builtin "dict.get") [.ref a,u,r]) Q E s:=by
 rcases g with⟨kvs,k,e,ey,l⟩|⟨kvs,k,b,e,ey,eb,l⟩
 ·subst ey;obtain⟨z,hd,vs,rel,dd⟩:=z2m I.hok e;refine call_meetsIn Lr dd.typeIs Po (Ox _ _ _) (meets_dict_get_default (mixKind X.prog X.w) a (z5h ry) hd r) ⟨_,dd.mapOf,h _ _ (I.tok _) ?_⟩;rw[l];exact(rel.val k).getD rd
 ·subst ey;cases(show u=Value.ref b from ry);obtain⟨z,hd,xs,rel,dd⟩:=z2n I.hok e;refine call_meetsIn Lr dd.typeIs Po (Ox _ _ _) (meetsH_dict_get_default (Hu (mixKind X.prog X.w)) a b hd r) ⟨Hy hu,k,xs,q7l I.hok eb,dd,h _ _ (I.tok _) ?_⟩;rw[l];exact(rel.val k).getD rd
end
def tDGet2(td ty tx:TE):TE:=fun σ H Q=>td σ H fun x H1=>∃a,x=.ref a/\IsD H1 a/\ty σ H1 fun y H2=>tx σ H2 fun z H3=>∃o,DGet H3 a y o/\Q (o.getD z) H3
section
variable{X:Cx}{o e f:Expr}{apos cpos:Pos}{td ty tx:TE}
theorem x0t(hu:X.A.units+1<cLine)(ho:PE X o td)(he:PE X e ty)(hf:PE X f tx)(m:M2 X o "get" apos e f cpos):PE X (.Call (.Attribute o "get" apos) [e,f] [] cpos) (tDGet2 td ty tx):=by
 intro pins s σ H Q I h;refine wpAny_Call_method m.base m.few m.line Ks Lr PySem.F.type_dict_get (thn (ho pins s σ H _ I h) fun u s1 ⟨x,H1,I1,rx,a,ex,d,q1⟩=>?_);subst ex;obtain rfl:u=Value.ref a:=rx;obtain⟨t1,t2,_⟩:=isD_at I1 d;refine⟨t1,t2,?_⟩;rw[m.trees];refine Lc rfl (Qq (Nc (thn (he pins s1 σ H1 _ I1 q1) fun iv s2 ⟨y,H2,I2,ry,q2⟩ =>
  Nc (thn (hf pins s2 σ H2 _ I2 q2) fun fv s3 ⟨z,H3,I3,rz,ov,g,q3⟩=>So ?_))))
 exact d_get2 hu I3 g ry rz fun w' s4 I4 rw'=>⟨_,H3,I4,rw',q3⟩
end
end L2
namespace K
open PySem L2 TX
def FIs:Str:=Ad "0123456789"
def LEs:Str:=Ad "abcdefghijklmnopqrstuvwxyzABCDEFGHIJKLMNOPQRSTUVWXYZ"
abbrev FI:List Nat:=tl FIs
abbrev LE:List Nat:=tl LEs
def allOf(t s:List Nat):Bool:=decide (t≠[])&&t.all fun c=>decide (c∈s)
def gapTakes(c:Nat)(t:List Nat):Bool:=if c=63 then decide (t.length=1) else if c=35 then allOf t FI else if c=64 then allOf t LE else true
def Pt.takes:Pt->List Nat->Bool
 |.tx l,t=>decide (t=l)
 |.gp c,t=>gapTakes c t
def cut(n:List Nat)(b e:Nat):List Nat:=(n.drop b).take (e-b)
def farTo(p:Pt)(n:List Nat)(L:Nat->Bool)(b k:Nat):Option Nat:=((List.range' b k).filter fun e=>L e&&p.takes (cut n b e)).getLast?
def far(p:Pt)(n:List Nat)(L:Nat->Bool)(b:Nat):Option Nat:=if b<=n.length then farTo p n L b (n.length+1-b) else none
def fits(n:List Nat):List Pt->Nat->Bool
 |[],b=>decide (b=n.length)
 |p::ps,b=>(far p n (fits n ps) b).isSome
def rd(n:List Nat):List Pt->Nat->List (List Nat)
 |[],_=>[]
 |p::ps,b=>(if p.isG then[cut n b ((far p n (fits n ps) b).getD 0)] else[])++rd n ps ((far p n (fits n ps) b).getD 0)
structure DF (H:Hp) (a:Addr) (f:Nat->Option Nat):Prop where
 ex:∃kvs:List (Key×V),H a=some (.dK kvs)/\kvs.length<=5000/\∀b:Nat,valV kvs (Sum.inl (b:Int))=(f b).map fun e=>V.int (e:Nat)
theorem DF.same(h:DF H a f)(sm:Same H H'):DF H' a f:=let ⟨kvs,h1,h2,h3⟩:=h.ex;⟨kvs,sm _ _ h1,h2,h3⟩
theorem DF.get(h:DF H a f)(b:Nat):DGet H a (.int (b:Int)) ((f b).map fun e=>V.int (e:Nat)):=by
 obtain⟨kvs,h1,h2,h3⟩:=h.ex;have:=DGet.k (k:=Sum.inl (b:Int)) h1;rw[h3] at this;exact this
theorem DF.new(h:DF H a f)(hb:H b=none):DF (upd H b o) a f:=h.same ((Same.refl H).new hb)
inductive DS (H:Hp) (n:List Nat):List Addr->List Pt->Prop
 |nil:DS H n [] []
 |cons {d:Addr} {p:Pt} {ds:List Addr} {ps:List Pt}:DF H d (far p n (fits n ps))->DS H n ds ps->DS H n (d::ds) (p::ps)
theorem DS.same(h:DS H n ds ps)(sm:Same H H'):DS H' n ds ps:=by
 induction h with
 |nil=>exact .nil
 |cons a _ ih=>exact .cons (a.same sm) ih
theorem DS.len(h:DS H n ds ps):ds.length=ps.length:=by
 induction h with
 |nil=>rfl
 |cons _ _ ih=>simp[ih]
theorem DS.get(h:DS H n ds ps):∀{i:Nat} {d:Addr},ds[i]?=some d->∃p,ps[i]?=some p/\DF H d (far p n (fits n (ps.drop (i+1)))):=by
 induction h with
 |nil=>simp_all
 | @cons d0 p ds ps a _ ih =>
  intro i d h;cases i with
  |zero=>simp_all
  |succ i =>simp_all
abbrev vN(ns:List (List Nat)):List V:=ns.map fun n=>V.str (mk n)
theorem q0r(l:List Nat):(mk l).length=l.length:=by rw[len,q1h]
theorem mk_inj:mk a=mk b↔a=b:=by grind
theorem dec_str(a b:List Nat):decide (V.str (mk a)=V.str (mk b))=decide (a=b):=by simp_all
end K
namespace PySem.Rv
open Sem (wp)
namespace F
theorem q6g:mroOf (.type "reversed")=pure [.type "reversed",.type "object"]:=by rw[mroOf_type];kernel_rfl
theorem q4q:Mc (.type "reversed") "__new__" = pure (some (.builtin "reversed.__new__")):=by rw[Jt,Gi];kernel_rfl
theorem q5g:Slot "reversed" "__init__" "object.__init__" :=
 .of (owner := "object") (n := "__init__") (by rw[Jt,Gi];kernel_rfl) (by decide +kernel) (by decide +kernel) (by decide +kernel)
  (by first|exact .inl (by rw[Jh];kernel_rfl)|exact .inr (by rw[Jh];kernel_rfl)) (by rw[Ip];kernel_rfl)
theorem called_reversed:TypeCalled "reversed" "reversed.__new__" "object.__init__" :=
 ⟨by decide +kernel,by decide +kernel,⟨_,_,q6g⟩,madeBy_type q6g q4q (by decide +kernel),by decide +kernel,by rw[Ip];kernel_rfl,q5g⟩
theorem typeCall_reversed_1(a:Value):checkTypeCall "reversed" ⟨[a],[]⟩=pure ():=by kernel_rfl
theorem newCall_reversed_1(a:Value):checkBuiltinCall "reversed.__new__" ⟨[.type "reversed",a],[]⟩=pure ():=by kernel_rfl
theorem entry_reversed_new:Ot table "reversed.__new__" = some Dp.«reversed.__new__» := entryFor_of_tree (by kernel_rfl)
theorem slot_lrev_next:Slot "list_reverseiterator" "__next__" "list_reverseiterator.__next__" :=
 .of (owner := "list_reverseiterator") (n := "__next__") (by rw[Jt,Gi];kernel_rfl) (by decide +kernel) (by decide +kernel) (by decide +kernel)
  (by first|exact .inl (by rw[Jh];kernel_rfl)|exact .inr (by rw[Jh];kernel_rfl)) (by rw[Ip];kernel_rfl)
theorem entry_lrev_next:Ot table "list_reverseiterator.__next__" = some Dp.«list_reverseiterator.__next__» := entryFor_of_tree (by kernel_rfl)
theorem slot_lrev_iter:Slot "list_reverseiterator" "__iter__" "list_reverseiterator.__iter__" :=
 .of (owner := "list_reverseiterator") (n := "__iter__") (by rw[Jt,Gi];kernel_rfl) (by decide +kernel) (by decide +kernel) (by decide +kernel)
  (by first|exact .inl (by rw[Jh];kernel_rfl)|exact .inr (by rw[Jh];kernel_rfl)) (by rw[Ip];kernel_rfl)
theorem entry_lrev_iter:Ot table "list_reverseiterator.__iter__" = some Dp.«dict_keyiterator.__iter__» :=
 entryFor_alias (id' := "dict_keyiterator.__iter__") (by kernel_rfl) (by first|rfl|decide +kernel|(unfold String.splitOn;simp +decide [String.splitOnAux])) (by decide +kernel) (by kernel_rfl)
theorem q8r:Manifest.owners.lookup (String.ofList ['r', 'o', 't', 'a', 'r', 'e', 't', 'i', 'e', 's', 'r', 'e', 'v', 'e', 'r', '_', 't', 's', 'i', 'l'].reverse)=some Manifest.sig_list_reverseiterator:=by kernel_rfl
theorem args_lrev_next_1(a:Value):argsOk "list_reverseiterator.__next__" ⟨[a],[]⟩:=by
 unfold argsOk;rw[signature?_of (n:=['_', '_', 't', 'x', 'e', 'n', '_', '_']) (by kernel_rfl) q8r];kernel_rfl
theorem args_lrev_iter_1(a:Value):argsOk "list_reverseiterator.__iter__" ⟨[a],[]⟩:=by
 unfold argsOk;rw[signature?_of (n:=['_', '_', 'r', 'e', 't', 'i', '_', '_']) (by kernel_rfl) q8r];kernel_rfl
theorem sub_reversed:isSubtype (.type "reversed") (.type "reversed")=pure true:=by rw[Ip];kernel_rfl
theorem sub_lrev:isSubtype (.type "list_reverseiterator") (.type "reversed")=pure false:=by rw[Ip];kernel_rfl
end F
open Sem (wp)
def IsRevIter(h:Heap)(it l:Addr)(k:Int):Prop:=∃o,h.get? it=some o/\o.cls=.type "list_reverseiterator" /\ o.data=.fields #[.ref l,.int k 0]
section
variable{prog:Program}{w:World}{A:Around}{E:Value->Af->Prop}{s:Af}
theorem wpAny_pyNext_rev_item{k:Nat}{items}(hit:IsRevIter s.heap it l k)(hl:s.heap.IsList l items)(hx:items[k]?=some x)(hQ:∀h',IsRevIter h' it l ((k:Int)-1)->Ep it s.heap h'->Q (some x) { s with heap:=h' }):wpAny (model prog w) A (Im (.ref it)) Q E s:=by
 obtain⟨o,ho,hc,hd⟩:=id hit;obtain⟨ol,hol,_,nl,hdl⟩:=hl;have hT:s.TypeIs (.ref it) "list_reverseiterator" := ⟨o,ho,hc⟩
 refine Ab (Ds (Cm hT F.slot_lrev_next
  (Ce F.slot_lrev_next hT F.entry_lrev_next ?_ (F.args_lrev_next_1 _))))
 show wpAny _ _ (field (.ref it) 1 >>= _) _ _ s;refine Ab (Bz ho hd rfl ?_);refine Ab (Bz ho hd rfl ?_);refine Ab (wpAny_seqItems hol hdl ?_);simp only[Cp,hx];refine Ab (Fy ho hd (by simp) (Ae ⟨x,rfl,Ae (hQ _ ?_ (Hr ..))⟩));exact⟨_,Ex _ ho (Iq (Ea hd _)),(Su ..).trans hc,by
  rw[Ea hd];simp[Di]⟩
theorem wpAny_pyNext_rev_end(hh:A.handled=none)(hit:IsRevIter s.heap it l k)(hk:k<0)(hQ:∀h',Pm it s.heap h'->Q none { s with heap:=h' }):wpAny (model prog w) A (Im (.ref it)) Q E s:=by
 obtain⟨o,ho,hc,hd⟩:=id hit;have hT:s.TypeIs (.ref it) "list_reverseiterator" := ⟨o,ho,hc⟩
 refine Ab (Ds (Cm hT F.slot_lrev_next
  (Ce F.slot_lrev_next hT F.entry_lrev_next ?_ (F.args_lrev_next_1 _))))
 show wpAny _ _ (field (.ref it) 1 >>= _) _ _ s;refine Ab (Bz ho hd rfl ?_);show wpAny _ _ (if (k<0) then _ else _) _ _ s;rw[if_pos hk];refine Ab (Je (Ab ?_));refine Ab ?_;refine Ab (Bv ?_ (by size_fits));refine Ab (Jo (by first|rfl|(simp only[Qe];rfl)) ?_);refine Bv ?_ (by size_fits);refine Ab (Rb ?_);rw[show A.in1.handled=none from hh];refine Ab (Ae (Tb ?_));refine Ab (Lk ⟨_,Ar _ rfl,rfl⟩ My ?_);exact Ae (hQ _ (fun b o _ e=>Ag _ (Ag _ e)))
theorem wpAny_pyIter_rev(hit:IsRevIter s.heap it l k)(h:Q (.ref it) s):wpAny (model prog w) A (Na (.ref it)) Q E s:=by
 obtain⟨o,ho,hc,hd⟩:=id hit;have hT:s.TypeIs (.ref it) "list_reverseiterator" := ⟨o,ho,hc⟩
 refine Kw hT F.slot_lrev_iter (Ce F.slot_lrev_iter hT F.entry_lrev_iter ?_ (F.args_lrev_iter_1 _));exact Ae ⟨_,rfl, "list_reverseiterator",_,hT,F.slot_lrev_next.lookup,h⟩
theorem q4r(l:Addr)(items:Array Value)(n:Nat):
  Meets (Dp.«reversed.__new__» ⟨[.type "reversed",.ref l],[]⟩) (fun _ R s=>s.heap.get? l=some { cls:=.type "list",dict:=none,data:=.seq items n,slots:=#[] } /\
   R (.ok (.ret (.ref s.heap.objs.size))) { s with heap:=s.heap.push { cls:=.type "list_reverseiterator",data:=.fields #[.ref l,Di (((items.size:Nat):Int)-1)] } }) :=
 .of_wp fun prog w A R s h=>by
  obtain⟨hp,g,d,tk,os⟩:=s;obtain⟨hl,h⟩:=h;have hT:Af.TypeIs ⟨hp,g,d,tk,os⟩ (.ref l) "list" := ⟨_,hl,rfl⟩
  wp_walk
  refine Jo F.sub_reversed ?_
  wp_walk
  refine Jo Jf.lookup ?_
  wp_walk
  refine Jo (Jf.bind (Value.ref l)) ?_
  wp_walk
  have key:Fv (model prog w) A.in1 (Code.call (.builtin "list.__reversed__") ⟨[.ref l],[]⟩) (fun r s'=>r=.ok (.ret (.ref hp.objs.size))/\s'=(⟨hp.push { cls:=.type "list_reverseiterator",data:=.fields #[.ref l,Di (((items.size:Nat):Int)-1)] },g,d,tk,os⟩:Af)) ⟨hp,g,d,tk,os⟩ :=
   Ha Jf.plain F.entry_list_reversed (Jf.check _ _ _ _ _ _ _ _ hT (F.args_list_reversed_1 _) (AutoListH.list___reversed___list_0 l items n prog w A.in1 (fun r s'=>r=.ok (.ret (.ref hp.objs.size))/\s'=(⟨hp.push { cls:=.type "list_reverseiterator",data:=.fields #[.ref l,Di (((items.size:Nat):Int)-1)] },g,d,tk,os⟩:Af)) ⟨hp,g,d,tk,os⟩ ⟨hl,rfl,rfl⟩))
  refine Hj key fun r s' hr=>?_;obtain⟨rfl,rfl⟩:=hr;exact Ae ⟨_,rfl,h⟩
theorem q8e(ft:TypeCalled T newId initId)(hsubU:isSubtype (.type U) (.type T)=pure false)(hct:checkTypeCall T ⟨args,[]⟩=pure ())(hcn:checkBuiltinCall newId ⟨.type T::args,[]⟩=pure ())(entryN:Ot table newId=some Bn)(g:Meets (Bn ⟨.type T::args,[]⟩) S)(h:S A.in1 (wants (fun obj s₁=>s₁.TypeIs obj U/\Q obj s₁) E) s):wpAny (model prog w) A (call (.type T) args) Q E s:=by
 obtain⟨c,tl,hmro⟩:=ft.mro;have hmade:=ft.made;refine Hw (codeAny_of_tree ?_);refine Ae ⟨Nh _ (by decide +kernel),Gj F.entry_type_call ?_⟩;have h1:=ft.notType;have h2:=ft.canCreate;repeat (any_goals (first|assumption|wp_step))
 refine Hj (Ha ft.plain entryN (Jo hcn (g prog w A.in1 _ s h))) fun r s₁ hr=>?_;cases r with
 |error e=>exact hr
 |ok fl =>
  cases fl with
  |ret obj =>
   obtain⟨hT,hq⟩:=hr;repeat (any_goals (first|assumption|wp_step))
  |_=>exact hr.elim
theorem call_reversed_list(hl:s.heap.get? l=some { cls:=.type "list",dict:=none,data:=.seq items n,slots:=#[] })(h:Q (.ref s.heap.objs.size) { s with heap:=s.heap.push { cls:=.type "list_reverseiterator",data:=.fields #[.ref l,Di (((items.size:Nat):Int)-1)] } }):
  wpAny (model prog w) A (call (.type "reversed") [.ref l]) Q E s :=
 q8e F.called_reversed F.sub_lrev (F.typeCall_reversed_1 _) (F.newCall_reversed_1 _) F.entry_reversed_new (q4r l items n) ⟨hl,⟨_,Ar _ rfl,rfl⟩,h⟩
end
end PySem.Rv
namespace L2
open PySem PySem.Spec PyProof.Rows
def Itv(K:Ah)(a:Addr)(n:Nat):It :=
 ⟨fun i H=>∃xs x,SqL K H a xs/\xs.length=n/\xs.reverse[i]?=some x,fun i H x H'=>H'=H/\∀xs,SqL K H a xs->xs.reverse[i]?=some x,fun i _=>n<=i⟩
theorem z5i(x:PySem.Rv.IsRevIter h it l k)(e:∀o,h.get? it=some o->h'.get? it=some o):PySem.Rv.IsRevIter h' it l k:=let ⟨o,ho,r⟩:=x;⟨o,e _ ho,r⟩
theorem x0u{K:Ah}(a it:Addr)(n:Nat):Turn P w K tg (Itv K a n) [it] it (fun i h=>PySem.Rv.IsRevIter h it a ((n:Int)-1-i)) where
 mem:=by simp
 obj:=fun i h st b hb=>by
  have e:b=it:=by grind
  subst e;obtain⟨o,e,c,d⟩:=st;exact⟨o,e,fun v z=>by rw[d] at z;cases z⟩
 keep:=fun i h h' st k=>z5i st fun o e=>k it (by simp) o e
 item:=by
  intro X hP hw hK hc i pins s σ H E I hf st hg;subst hP hw hK;obtain⟨xs,x,hq,hn,hx⟩:=hg;obtain⟨its,rv,p,hz⟩:=I.list hq;have hi:i<xs.length:=by have:=(Bb.mp hx).1;simpa using this
  have hx':xs[xs.length-1-i]?=some x:=by grind
  obtain⟨u,hu,ru⟩:=rv.get hx';obtain⟨f0,f1,f2,f3,f4,f5⟩:=hf it (by simp);have est:((n:Int)-1-(i:Int))=((xs.length-1-i:Nat):Int):=by lia
  have st1:PySem.Rv.IsRevIter s.heap it a ((xs.length-1-i:Nat):Int):=by simp_all
  refine PySem.Rv.wpAny_pyNext_rev_item st1 p.isList (by simpa using hu) fun h' st' sb=>?_;have I1:Inv X pins σ H { s with heap:=h' }:=I.turned (t':=s.toks) (fun b o hb e=>(sb.2 b hb).trans e) f0 f1 f3 f4 f5;obtain⟨o,e,c,d⟩:=id st';refine⟨u,rfl,z2h e c d (by decide) ⟨x,H,I1,ru,⟨rfl,fun ys hy=>by rw[I.list_inj hy hq];exact hx⟩,?_,fun b hb=>(hf b hb).1⟩⟩;have e2:((n:Int)-1-((i+1:Nat):Int))=((xs.length-1-i:Nat):Int)-1:=by lia
  rw[e2];exact st'
 done:=by
  intro X hP hw hK hc i pins s σ H E I hf st hg;obtain⟨f0,f1,f2,f3,f4,f5⟩:=hf it (by simp);have hle:n<=i:=hg;exact PySem.Rv.wpAny_pyNext_rev_end (I.ok.hd hc) st (by lia) fun h' eb=>⟨rfl,I.turned (t':=s.toks) (fun b o hb e=>eb b o hb e) f0 f1 f3 f4 f5⟩
 self:=fun _ _ _ _ _ st h=>PySem.Rv.wpAny_pyIter_rev st h
section
variable{X:Cx}{tg:Expr}
def iRev(K:Ah)(ta:TA):TI:=fun σ H R=>ta σ H fun vs H1=>∃a xs,vs=[.ref a]/\H1 a=some (.lst xs)/\R (Itv K a xs.length) H1
theorem pi_rev(hg:Gl X "reversed")(hm:X.mg "reversed" = none)(ha:PA X [a] ta)(hs:Be [a] X.env=[(false,eval a X.env)]:=by rfl):
  PI X tg (.Call (.Name "reversed" p) [a] [] pos) (iRev X.K ta):=by
 intro pins s σ H R I h;refine Call_ (q8j I hg hm (by decide +kernel:Hg "reversed" = some (.type "reversed")) (Gd (thn (ha pos pins s σ H _ I h) fun us s1 ⟨vs,H1,I1,r1,q1⟩=>?_) hs rfl));obtain⟨l,xs,e,hq,q⟩:=q1;subst e;obtain⟨u,rfl,r⟩:=vals1 r1;cases r;obtain⟨z,its,n,rv,hl,e⟩:=I1.lstM hq;refine PySem.Rv.call_reversed_list e ?_;have hit:PySem.Rv.IsRevIter (s1.heap.push { cls:=.type "list_reverseiterator",data:=.fields #[.ref l,Di (((its.toArray.size:Nat):Int)-1)] }) s1.heap.objs.size l ((xs.length:Int)-1-((0:Nat):Int)):=by
  refine⟨_,Ar _ rfl,rfl,?_⟩;rw[Av,<- hl];simp[Di]
 refine PySem.Rv.wpAny_pyIter_rev hit ?_;refine⟨s1.heap.objs.size,[s1.heap.objs.size],_,_,H1,rfl,I1.kept (t':=s1.toks) fun b o e=>Ag _ e,x0u l _ xs.length,hit,fun b hb=>?_,q⟩;have e:b=s1.heap.objs.size:=by grind
 subst e;exact I1.fpOk (Aj _) (I1.hok.fresh (Aj _))
theorem rev_k{a:Expr}{ta:TA}{p pos:Pos}(K:Ah)(hK:X.K=K)(hg:Gl X "reversed")(hm:X.mg "reversed" = none)(ha:PA X [a] ta)(hs:Be [a] X.env=[(false,eval a X.env)]:=by rfl):
  PI X tg (.Call (.Name "reversed" p) [a] [] pos) (iRev K ta):=by subst hK;exact pi_rev hg hm ha hs
end
theorem Inv.freezeK{σ:St}(I:Inv X pins σ H s)(hd:H d=some u)(ho:s.heap.get? d=some ob)(hu:(∃kvs,u=.dK kvs)\/∃kvs,u=.dT kvs):Inv X pins σ (upd H d (.frz ob u)) s:=by
 have no:∀{v:HO} {b:Addr},H b=some v->((∀kvs,v≠.dK kvs)/\∀kvs,v≠.dT kvs)->b≠d:=fun{v b} z hv y=>by
  subst y;rw[hd] at z;cases z;rcases hu with⟨kvs,rfl⟩|⟨kvs,rfl⟩
  ·exact hv.1 _ rfl
  ·exact hv.2 _ rfl
 have nn:∀{b:Addr},H b=none->b≠d:=fun{b} z y=>by subst y;rw[hd] at z;cases z
 refine⟨I.ok,I.os,I.bare,⟨I.base.keep,I.base.slot,fun b o e n hx=>?_,I.base.there,fun b xs e=>?_,fun b o v e=>?_,fun b ps e=>?_⟩,I.loc,I.cell,?_,fun x c e=>?_,fun p hp=>?_,fun b v e=>?_,I.len⟩
 ·have z:=I.base.free b o e n hx;rw[q0e (nn z)];exact z
 ·have z:=I.base.tups b xs e;rw[q0e (no z ⟨fun _ y=>(by cases y),fun _ y=>(by cases y)⟩)];exact z
 ·have z:=I.base.frzs b o v e;rw[q0e (no z ⟨fun _ y=>(by cases y),fun _ y=>(by cases y)⟩)];exact z
 ·obtain⟨m,z⟩:=I.base.tbls b ps e;exact⟨m,by rw[q0e (no z ⟨fun _ y=>(by cases y),fun _ y=>(by cases y)⟩)];exact z⟩
 ·rw[q0e (nn I.free)];exact I.free
 ·rw[q0e (nn (I.freeC x c e))];exact I.freeC x c e
 ·obtain⟨e,n,ne,nf',dd⟩:=I.pin p hp;exact⟨e,by rw[q0e (nn n)];exact n,ne,nf',dd⟩
 ·have st:∀{b:Addr} {v:HO},ObjOk X.prog X.w H s.heap b v->ObjOk X.prog X.w (upd H d (.frz ob u)) s.heap b v:=fun x =>
   x.stay (fun _ _ _ q=>q) (fun c q=>by rw[q0e (no q ⟨fun _ y=>(by cases y),fun _ y=>(by cases y)⟩)];exact q) fun c xs q=>by rw[q0e (no q ⟨fun _ y=>(by cases y),fun _ y=>(by cases y)⟩)];exact q
  by_cases hb:b=d
  ·subst hb;rw[q0b] at e;cases e;exact⟨ho,st (I.hok b u hd)⟩
  ·rw[q0e hb] at e;exact st (I.hok b v e)
theorem KV.at'(r:KV kvs vs):∀{i:Nat} {k:Key} {v:V},kvs[i]?=some (k,v)->∃u,vs[i]?=some (k,u):=by
 induction r with
 |nil=>simp_all
 | @cons p q ps qs h t ih =>
  intro i k v hx;cases i with
  |zero=>simp at hx;subst hx;obtain⟨q1,q2⟩:=q;have:=h.1;simp at this;subst this;exact⟨q2,rfl⟩
  |succ i=>simp_all
open PySem PySem.Spec PyProof.Rows
section
variable{X:Cx}
theorem z7h:CallR X (.type "str") (fun xs H Q=>∃n:Nat,xs=[.int (n:Int)]/\n<=10^12/\Q (.str (Ad (toString (n:Int)))) H):=by
 intro pins s σ H xs us Q I r h;obtain⟨n,rfl,h1,q⟩:=h;obtain⟨u,rfl,t,rfl⟩:=vals1 r;refine PySem.P.str_of_int ?_ ⟨.str (Ad (toString (n:Int))),H,I.tok _,⟨_,rfl⟩,q⟩;rw[Sd];have h2:n<2^40:=Nf h1 (by decide);have:n.log2<40:=by
  by_cases hz:n=0
  ·rw[hz];decide
  ·exact(Nat.log2_lt hz).mpr h2
 lia
end
end L2
namespace K
open PySem L2 TX
def dg(m:Nat):List Nat:=tl (Ad (toString (m:Int)))
theorem x3s(m:Nat):Ad (toString (m:Int))=mk (dg m):=(z0x _).symm
theorem x0v(m:Nat):dg m=(Nat.toDigits 10 m).map Char.toNat:=W.KIN.signs_num m
theorem q6o(h:m<10):dg m=[48+m]:=by
 rw[x0v,Nat.toDigits_of_lt_base h];exact(by decide:∀m:Nat,m<10->[Nat.digitChar m].map Char.toNat=[48+m]) m h
theorem z7i(h:10<=m):dg m=dg (m / 10)++[48+m%10]:=by
 have hm:m%10<10:=Nat.mod_lt m (by decide);have t:Nat.toDigits 10 (m / 10)++Nat.toDigits 10 (m%10)=Nat.toDigits 10 (10*(m / 10)+m%10):=Nat.toDigits_append_toDigits (by decide) (by lia) hm;rw[Nat.div_add_mod] at t;rw[x0v,x0v,<- t,An];congr 1;exact(x0v (m%10)).symm.trans (q6o hm)
theorem x2l(m:Nat):∀c∈dg m,c∈FI:=by
 have hf:∀d:Nat,d<10->48+d∈FI:=by decide +kernel
 induction m using Nat.strongRecOn with
 |_ m ih =>
  by_cases h:m<10
  ·rw[q6o h];intro c hc;rw[Az.mp hc];exact hf m h
  ·rw[z7i (by lia)];intro c hc;rcases Aw.mp hc with z|z
   ·grind
   ·rw[Az.mp z];exact hf _ (Nat.mod_lt m (by decide))
theorem x2m:∀(k m:Nat),m<10^(k+1)->(dg m).length<=k+1
 |0,m,h=>by rw[q6o (by simpa using h)];exact Aj _
 |k+1,m,h=>by
  by_cases hz:m<10
  ·rw[q6o hz];simp
  ·rw[z7i (by lia),Ai,Dq];have:=x2m k (m / 10) (by rw[Nat.pow_succ] at h;lia);lia
end K
namespace L2
open PySem PySem.Spec PyProof.Rows
theorem Inv.thaw{σ:St}(I:Inv X pins σ H s)(hd:H d=some (.frz ob u))(h0:∀o v,X.H₀ d≠some (.frz o v)):Inv X pins σ (upd H d u) s:=by
 have no:∀{v:HO} {b:Addr},H b=some v->(∀o z,v≠.frz o z)->b≠d:=fun{v b} z hv y=>by
  subst y;rw[hd] at z;cases z;exact hv _ _ rfl
 have nn:∀{b:Addr},H b=none->b≠d:=fun{b} z y=>by subst y;rw[hd] at z;cases z
 refine⟨I.ok,I.os,I.bare,⟨I.base.keep,I.base.slot,fun b o e n hx=>?_,I.base.there,fun b xs e=>?_,fun b o v e=>?_,fun b ps e=>?_⟩,I.loc,I.cell,?_,fun x c e=>?_,fun p hp=>?_,fun b v e=>?_,I.len⟩
 ·have z:=I.base.free b o e n hx;rw[q0e (nn z)];exact z
 ·have z:=I.base.tups b xs e;rw[q0e (no z fun _ _ y=>(by cases y))];exact z
 ·have z:=I.base.frzs b o v e;rw[q0e (fun y=>by subst y;exact h0 _ _ e)];exact z
 ·obtain⟨m,z⟩:=I.base.tbls b ps e;exact⟨m,by rw[q0e (no z fun _ _ y=>(by cases y))];exact z⟩
 ·rw[q0e (nn I.free)];exact I.free
 ·rw[q0e (nn (I.freeC x c e))];exact I.freeC x c e
 ·obtain⟨e,n,ne,nf',dd⟩:=I.pin p hp;exact⟨e,by rw[q0e (nn n)];exact n,ne,nf',dd⟩
 ·have st:∀{b:Addr} {v:HO},ObjOk X.prog X.w H s.heap b v->ObjOk X.prog X.w (upd H d u) s.heap b v:=fun x =>
   x.stay (fun _ _ _ q=>q) (fun c q=>by rw[q0e (no q fun _ _ y=>(by cases y))];exact q) fun c xs q=>by rw[q0e (no q fun _ _ y=>(by cases y))];exact q
  by_cases hb:b=d
  ·subst hb;rw[q0b] at e;cases e;exact st (I.hok b _ hd).2
  ·rw[q0e hb] at e;exact st (I.hok b v e)
def Ends.thaw(D:Ends)(d:Addr):Ends where
 nx:=fun σ H=>∃ob u,H d=some (.frz ob u)/\D.nx σ (upd H d u)
 rt:=fun v H=>∃ob u,H d=some (.frz ob u)/\D.rt v (upd H d u)
 bk:=fun σ H=>∃ob u,H d=some (.frz ob u)/\D.bk σ (upd H d u)
 ct:=fun σ H=>∃ob u,H d=some (.frz ob u)/\D.ct σ (upd H d u)
def tThaw(h₀:Hp)(t:TS):TS:=fun D σ H=>∃d,(∀o v,h₀ d≠some (.frz o v))/\t (D.thaw d) σ H
theorem z2q{X:Cx}{st:Stmt}{t:TS}(h₀:Hp)(hH:X.H₀=h₀)(h:PS X st t):PS X st (tThaw h₀ t):=by
 subst hH;intro pins s σ H D I q;obtain⟨d,hd,q⟩:=q;refine Bu (h pins s σ H _ I q) (fun f s' z=>?_) fun _ _ z=>z;cases f with
 |next=>obtain⟨σ',H',I',ob,u,e,n⟩:=z;exact⟨σ',_,I'.thaw e hd,n⟩
 |brk=>obtain⟨σ',H',I',ob,u,e,n⟩:=z;exact⟨σ',_,I'.thaw e hd,n⟩
 |cont=>obtain⟨σ',H',I',ob,u,e,n⟩:=z;exact⟨σ',_,I'.thaw e hd,n⟩
 |ret v=>obtain⟨x,σ',H',I',r,ob,u,e,n⟩:=z;exact⟨x,σ',_,I'.thaw e hd,r,n⟩
end L2
namespace PySem.Rv
open Sem (wp)
section
variable{prog:Program}{w:World}{A:Around}{E:Value->Af->Prop}{s:Af}{it d:Addr}{i ep:Nat}{dob:Obj}{ens:Array Iv}
theorem keys_iter(hsys:(d==Et)=false)(hT:s.TypeIs (.ref d) "dict")(hdo:s.heap.get? d=some dob)(hda:dob.data=.dict ens ep)(hQ:Q (.ref s.heap.objs.size) { s with heap:=s.heap.push { cls:=.type "dict_keyiterator",data:=.fields #[.ref d,.int 0 0,.int ens.size 0,.int ep 0] } }):
  wpAny (model prog w) A (Na (.ref d)) Q E s:=by
 refine Kw hT Ti (Ce Ti hT F.entry_dict_iter ?_ (F.args_dict_iter_1 _));refine Ab (Ab (Ls hT (Ae ?_)));show wpAny _ _ (Lu d >>= _) _ _ s;unfold Lu;rw[if_neg (by rw[hsys];decide)];refine Ab (Ae (Ab (Gv hdo hda (Ab (Hz hdo hda ?_)))));refine Ab (Bv (Ae ⟨_,rfl, "dict_keyiterator",_,⟨_,Ar _ rfl,rfl⟩,Eg.lookup,?_⟩));simpa[Di] using hQ
theorem keys_item(hki:s.heap.IsKeyIter it d i ens.size ep)(hdo:s.heap.get? d=some dob)(hda:dob.data=.dict ens ep)(hlt:i<ens.size)(hQ:∀h',h'.IsKeyIter it d (i+1) ens.size ep->Ep it s.heap h'->Q (some ens[i].key) { s with heap:=h' }):wpAny (model prog w) A (Im (.ref it)) Q E s:=by
 obtain⟨io,hio,hic,hid⟩:=id hki;refine Ab (Ds (Cm hki.typeIs Eg
  (Ce Eg hki.typeIs Mm ?_ (Me _))))
 refine Ab (Ae (Ab (Ab ?_)));first|refine Ab (Fs hki.typeIs (Ae ?_))|refine Ab (Hq hki.typeIs (Ae ?_))
 refine Ab (Mz hio hid ?_);refine Ab (Ae (Ab (Gv hdo hda ?_)));rw[if_neg (by simp)];refine Ab (Ae (Ab (Hz hdo hda ?_)));rw[if_neg (by simp)];refine Ae ?_;simp only[show ¬((i:Int)<0) from by lia,if_false,Cp,Dh hlt];refine Ab ?_;first|refine Ab (Fs hki.typeIs (Ae ?_))|refine Ab (Hq hki.typeIs (Ae ?_))
 refine Ab (Qf hki.typeIs ?_);show wpAny _ _ (setField (.ref it) 1 (Di ((i:Int)+1)) >>= _) _ _ s;refine Ab (Fy hio hid (by simp) ?_);have hki2:(s.heap.update it (Fq (·.setIfInBounds 1 (Di ((i:Int)+1))))).IsKeyIter it d (i+1) ens.size ep :=
  ⟨_,Ex _ hio (Iq (Ea hid _)),(Su ..).trans hic,by rw[Ea hid];simp[Di]⟩
 refine Ab (Cc (Ab (Qf (s:={ s with heap:=s.heap.update it (Fq (·.setIfInBounds 1 (Di ((i:Int)+1)))) }) hki2.typeIs ?_)));exact Ae (Ae ⟨_,rfl,Ae (hQ _ hki2 (Hr ..))⟩)
theorem keys_end(hh:A.handled=none)(hki:s.heap.IsKeyIter it d i ens.size ep)(hdo:s.heap.get? d=some dob)(hda:dob.data=.dict ens ep)(hge:ens.size<=i)(hQ:∀h',Pm it s.heap h'->Q none { s with heap:=h' }):wpAny (model prog w) A (Im (.ref it)) Q E s:=by
 obtain⟨io,hio,hic,hid⟩:=id hki;refine Ab (Ds (Cm hki.typeIs Eg
  (Ce Eg hki.typeIs Mm ?_ (Me _))))
 refine Ab (Ae (Ab (Ab ?_)));first|refine Ab (Fs hki.typeIs (Ae ?_))|refine Ab (Hq hki.typeIs (Ae ?_))
 refine Ab (Mz hio hid ?_);refine Ab (Ae (Ab (Gv hdo hda ?_)));rw[if_neg (by simp)];refine Ab (Ae (Ab (Hz hdo hda ?_)));rw[if_neg (by simp)];refine Ae ?_;simp only[show ¬((i:Int)<0) from by lia,if_false,Cp,Pp hge];refine Ab ?_;first|refine Ab (Fs hki.typeIs (Ae ?_))|refine Ab (Hq hki.typeIs (Ae ?_))
 show wpAny _ _ (setField (.ref it) 0 .none >>= _) _ _ s;refine Ab (Fy hio hid (by simp) ?_);refine Ab ?_;refine Ab (Bv ?_ (by size_fits));refine Ab (Jo (by first|rfl|(simp only[Qe];rfl)) ?_);refine Bv ?_ (by size_fits);refine Ab (Rb ?_);rw[show A.in1.handled=none from hh];refine Ab (Ae (Tb ?_));refine Ab (Lk ⟨_,Ar _ rfl,rfl⟩ My ?_);exact Ae (hQ _ (((Hr ..).extBut.push _).push _))
end
end PySem.Rv
namespace L2
open PySem PySem.Spec PyProof.Rows
def Itk(d:Addr)(ob:Obj)(kvs:List (List Key×V)):It :=
 ⟨fun i H=>H d=some (.frz ob (.dT kvs))/\i<kvs.length,fun i H x H'=>H'=H/\∃k v b,kvs[i]?=some (k,v)/\H b=some (.tup (k.map kV))/\x=.ref b,fun i H=>H d=some (.frz ob (.dT kvs))/\kvs.length<=i⟩
theorem Cz.at'{F:α->β->Prop}:∀{l:List α} {m:List β} {i:Nat} {p:α},Cz F l m->l[i]?=some p->∃q,m[i]?=some q/\F p q
 |_,_,0,_,.cons h t,e=>by simp at e;subst e;exact⟨_,rfl,h⟩
 |_,_,i+1,_,.cons h t,e=>by
  obtain⟨q,h1,h2⟩:=Cz.at' t (by simpa using e);exact⟨q,by simpa using h1,h2⟩
theorem z7j(ok:HOk P w H h)(hfz:H d=some (.frz ob (.dT kvs)))(hob:ob.data=.dict ens ep):
  h.get? d=some ob/\ens.size=kvs.length/\∀{i:Nat} {k:List Key} {v:V} (hlt:i<ens.size),kvs[i]?=some (k,v)->∃b,ens[i].key=.ref b/\H b=some (.tup (k.map kV)):=by
 obtain⟨hget,z,hsys,xs,hp,o,es,ep',h1,h2,h3,h4,h5⟩:=(show ObjOk P w H h d (.frz ob (.dT kvs)) from ok d _ hfz)
 rw[hget] at h1;cases h1;rw[hob] at h3;cases h3;have hl:=Es hp;have hz:ens.size=xs.length:=by rw[<- El,h4,Ac]
 refine⟨hget,by lia,fun{i k v} hlt hk=>?_⟩;obtain⟨q,hq,e1,e2,e3⟩:=Cz.at' hp hk;refine⟨q.2.1,?_,e2⟩;have:ens.toList[i]?=some (Qm (Hu (mixKind P w)) q):=by simp_all
 rw[Gh,Dh hlt] at this;injection this with this;rw[this];rfl
theorem z5j{K:Ah}(d it:Addr)(ob:Obj)(kvs:List (List Key×V))(ens:Array Iv)(ep:Nat)(hob:ob.data=.dict ens ep):
  Turn P w K tg (Itk d ob kvs) [it] it (fun i h=>h.IsKeyIter it d i ens.size ep) where
 mem:=by simp
 obj:=fun i h st b hb=>by
  have e:b=it:=by grind
  subst e;obtain⟨o,e,c,dd⟩:=st;exact⟨o,e,fun v z=>by rw[dd] at z;cases z⟩
 keep:=fun i h h' st k=>st.at fun o e=>k it (by simp) o e
 item:=by
  intro X hP hw hK hc i pins s σ H E I hf st hg;obtain⟨hfz,hi⟩:=hg;obtain⟨hget,hsz,hkey⟩:=z7j I.hok hfz hob;obtain⟨f0,f1,f2,f3,f4,f5⟩:=hf it (by simp);obtain⟨⟨k,v⟩,hkv⟩:∃p,kvs[i]?=some p:=⟨kvs[i],by simp[hi]⟩
  have hlt:i<ens.size:=by lia
  obtain⟨b,hb1,hb2⟩:=hkey hlt hkv;refine PySem.Rv.keys_item st hget hob hlt fun h' st' sb=>?_
  rw[hb1];have I1:Inv X pins σ H { s with heap:=h' }:=I.turned (t':=s.toks) (fun b o hb e=>(sb.2 b hb).trans e) f0 f1 f3 f4 f5;obtain⟨o,e,c,dd⟩:=id st';exact⟨.ref b,rfl,z2h e c dd (by decide) ⟨.ref b,H,I1,rfl,⟨rfl,k,v,b,hkv,hb2,rfl⟩,st',fun b hb=>(hf b hb).1⟩⟩
 done:=by
  intro X hP hw hK hc i pins s σ H E I hf st hg;obtain⟨hfz,hi⟩:=hg;obtain⟨hget,hsz,hkey⟩:=z7j I.hok hfz hob;obtain⟨f0,f1,f2,f3,f4,f5⟩:=hf it (by simp);exact PySem.Rv.keys_end (I.ok.hd hc) st hget hob (by lia) fun h' eb=>⟨rfl,I.turned (t':=s.toks) (fun b o hb e=>eb b o hb e) f0 f1 f3 f4 f5⟩
 self:=fun _ _ _ _ _ st h=>wpAny_pyIter_keyiter st h
section
variable{X:Cx}{tg l:Expr}{tl:TE}
def iDictT(tl:TE):TI:=fun σ H R=>tl σ H fun x H1=>∃d kvs,x=.ref d/\H1 d=some (.dT kvs)/\∀ob,R (Itk d ob kvs) (upd H1 d (.frz ob (.dT kvs)))
theorem x0w(hl:PE X l tl):PI X tg l (iDictT tl):=by
 intro pins s σ H R I h;refine thn (hl pins s σ H _ I h) fun v s1 ⟨x,H1,I1,r1,q1⟩=>?_;obtain⟨d,kvs,e,hd,q⟩:=q1;subst e;cases r1;obtain⟨z,hsys,xs,hp,ob,ens,ep,ho,hex,hob,h4,h5⟩:=(show ObjOk X.prog X.w H1 s1.heap d (.dT kvs) from I1.hok d _ hd)
 refine PySem.Rv.keys_iter hsys ⟨ob,ho,hex.1⟩ ho hob ?_;have hne:=Bc (Am ho);have I2:=(I1.freezeK hd ho (.inr ⟨_,rfl⟩)).kept (t':=s1.toks) (h':=s1.heap.push { cls:=.type "dict_keyiterator",data:=.fields #[.ref d,.int 0 0,.int ens.size 0,.int ep 0] }) fun b o e=>Ag _ e;refine⟨s1.heap.objs.size,[s1.heap.objs.size],_,_,_,rfl,I2,z5j d _ ob kvs ens ep hob,⟨_,Ar _ rfl,rfl,rfl⟩,fun b hb=>?_,q ob⟩;have e:b=s1.heap.objs.size:=by grind
 subst e;exact I1.fpOk (Aj _) (by rw[q0e (Cv hne)];exact I1.hok.fresh (Aj _))
theorem z3u(K:Ah)(hK:X.K=K)(hl:PE X l tl):PI X tg l (iDictT tl):=x0w hl
theorem q7m{g:TG}{tb:TS}{D:Ends}(Pv:Nat->St->Hp->Prop)(h0:Pv 0 σ H)(hl:∀i σ H,Pv i σ H->H d=some (.frz ob (.dT kvs)))(hs:∀i k v b σ H,kvs[i]?=some (k,v)->H b=some (.tup (k.map kV))->Pv i σ H->g (.ref b) σ H fun σ2 H2=>tb { D with nx:=Pv (i+1),ct:=Pv (i+1),bk:=D.nx } σ2 H2)(hd:∀σ H,Pv kvs.length σ H->D.nx σ H):
  ∃W:Nat->Nat->St->Hp->Prop,(∃m,W 0 m σ H)/\∀i m σ H,W i m σ H ->
   ((Itk d ob kvs).stop i H/\D.nx σ H)\/((Itk d ob kvs).go i H/\∃N:St->Hp->Prop,(∀σ' H',N σ' H'->∃m',m'<m/\W (i+1) m' σ' H')/\∀x H',(Itk d ob kvs).yld i H x H'->g x σ H' fun σ2 H2=>tb { D with nx:=N,ct:=N,bk:=D.nx } σ2 H2):=by
 refine x2j Pv h0 (fun i σ H h p=>⟨hl i σ H p,h⟩) (fun σ H p=>⟨hl _ σ H p,Aj _⟩) (fun i x σ H H' h p yl=>?_) hd;obtain⟨rfl,k,v,b,hk,hb,rfl⟩:=yl;exact hs i k v b σ _ hk hb p
end
end L2
namespace SB
open PySem PyProof.Rows
section
variable{prog:Program}{w:World}{A:Around}{E:Value->Af->Prop}{s:Af}
def Tells(prog:Program)(w:World)(A:Around)(s:Af)(kd:Ll)(S:Value->Prop)(r:Value->Int):Prop :=
 ∀(E:Value->Af->Prop) (x y:Value) (Q:Bool->Af->Prop),S x->S y->Q (decide (r x<r y)) s->wpAny (model prog w) A (keyLt' kd x y) Q E s
def rk(r:Value->Int)(xs:Array Keyed)(i:Nat):Int:=((xs[i]?).map fun p=>r p.1).getD 0
theorem x3t(h:xs[i]?=ys[j]?):rk r xs i=rk r ys j:=by unfold rk;rw[h]
theorem rk_if[Decidable c](h:xs[i]?=if c then ys[a]? else ys[b]?):rk r xs i=if c then rk r ys a else rk r ys b:=by
 by_cases hc:c
 ·rw[if_pos hc] at h ⊢;exact x3t h
 ·rw[if_neg hc] at h ⊢;exact x3t h
theorem z7k(hj:j<=xs.size)(k:Nat):rk r (Mg xs i j ((j-i) / 2)) k=if i<=k/\k<j then rk r xs (i+j-1-k) else rk r xs k:=rk_if (getElem?_mirror_all hj k)
theorem x2n(hn:n<xs.size)(hd:d<=n)(k:Nat):rk r (bubble xs n d) k=if k=n-d then rk r xs n else if n-d<k/\k<=n then rk r xs (k-1) else rk r xs k:=by
 have e:=getElem?_bubble hn d hd k;by_cases h:k=n-d
 ·rw[if_pos h] at e ⊢;exact x3t e
 ·rw[if_neg h] at e ⊢;exact rk_if e
structure Mid (kd:Ll) (a₀:Array Keyed) (st:Ia):Prop where
 pm:(arrOf st).Perm a₀
 kn:kindOf st=kd
 fl:Tj st=none
 pd:Pd st=#[]
variable{kd:Ll}{S:Value->Prop}{r:Value->Int}{a₀:Array Keyed}
theorem Mid.sz{st:Ia}(h:Mid kd a₀ st):(arrOf st).size=a₀.size:=h.pm.size_eq
theorem Mid.put{st:Ia}(h:Mid kd a₀ st)(p:xs.Perm (arrOf st)):Mid kd a₀ (setArr st xs):=⟨p.trans h.pm,h.kn,h.fl,h.pd⟩
theorem z7l{st:Ia}(T:Tells prog w A s kd S r)(hS:∀p∈a₀.toList,S p.1)(m:Mid kd a₀ st)(hi:i<a₀.size)(hj:j<a₀.size)(h:Q (some (decide (rk r (arrOf st) i<rk r (arrOf st) j))) st):wpS (model prog w) A E s (ltAt' i j) Q st:=by
 have get:∀{k:Nat},k<a₀.size->∃p,(arrOf st)[k]?=some p/\S p.1/\rk r (arrOf st) k=r p.1:=fun{k} hk=>by
  have hk':k<(arrOf st).size:=by rw[m.sz];exact hk
  have e:(arrOf st)[k]?=some (arrOf st)[k]:=getElem?_pos _ k hk';refine⟨_,e,hS _ ((Np.mp m.pm).mem_iff.mp (by simp)),?_⟩;unfold rk;rw[e];rfl
 obtain⟨p,e1,s1,r1⟩:=get hi;obtain⟨q,e2,s2,r2⟩:=get hj;rw[r1,r2] at h;refine Cf (Qg ?_);show wpS _ _ _ _ (elem' (arrOf st) i >>= fun x=>elem' (arrOf st) j >>= fun y=>lt' x y) Q st;rw[elem'_eq,elem'_eq,e1,e2];refine Cf (Dg (Cf (Dg ?_)));rw[lt'_eq];refine Cf (Qg ?_);rw[m.kn];exact Cf (wpS_lift (Ds (T _ p.1 q.1 _ s1 s2 ⟨rfl,Dg h⟩)))
def Up(r:Value->Int)(xs:Array Keyed)(n:Nat):Prop:=∀i j,i<=j->j<n->rk r xs i<=rk r xs j
def Down(r:Value->Int)(xs:Array Keyed)(n:Nat):Prop:=∀i j,i<=j->j<n->rk r xs j<=rk r xs i
theorem Up.one:Up r xs 1:=fun i j h1 h2=>by rw[show i=j by lia];exact Pq _
theorem Up.more(h:Up r xs n)(h1:1<=n)(e:rk r xs (n-1)<=rk r xs n):Up r xs (n+1):=fun i j a b=>by
 by_cases z:j<n
 ·exact h i j a z
 ·have hj:j=n:=by lia
  subst hj;by_cases y:i=j
  ·grind
  ·have:=h i (j-1) (by lia) (by lia);lia
theorem Down.more(h:Down r xs n)(h1:1<=n)(e:rk r xs n<=rk r xs (n-1)):Down r xs (n+1):=fun i j a b=>by
 by_cases z:j<n
 ·exact h i j a z
 ·have hj:j=n:=by lia
  subst hj;by_cases y:i=j
  ·grind
  ·have:=h i (j-1) (by lia) (by lia);lia
theorem Down.mir(h:Down r xs n)(hn:n<=xs.size):Up r (Mg xs 0 n ((n-0) / 2)) n:=fun i j a b=>by
 rw[z7k hn,z7k hn,if_pos (by lia),if_pos (by lia)];exact h _ _ (by lia) (by lia)
theorem q7n(hj:j<=xs.size)(h:∀k,i<=k->k<j->rk r xs k=rk r xs (j-1))(k:Nat):rk r (Mg xs i j ((j-i) / 2)) k=rk r xs k:=by
 rw[z7k hj];by_cases z:i<=k/\k<j
 ·grind
 ·rw[if_neg z]
theorem x2o{st:Ia}(T:Tells prog w A s kd S r)(hS:∀p∈a₀.toList,S p.1)(m:Mid kd a₀ st)(hn:n<=a₀.size)(h1:1<=a)(han:a<=n)(u:Up r (arrOf st) a)(h:∀k,a<=k->k<=n->Up r (arrOf st) k->(k=n\/rk r (arrOf st) k<rk r (arrOf st) (k-1))->Q (none,k) st):wpS (model prog w) A E s (ascLoop a n) Q st:=by
 refine Kb (fun x c t=>t=st/\c=(none,x)/\Up r (arrOf st) x) (fun x c t hx hxn ⟨et,ec,ux⟩=>?_) (fun c t ⟨et,ec,ux⟩=>?_) ⟨rfl,rfl,u⟩
 ·subst et ec;refine Cf (z7l T hS m (by lia) (by lia) ?_);by_cases z:rk r (arrOf t) x<rk r (arrOf t) (x-1)
  ·simp only[decide_eq_true z,if_true];exact Dg (h x hx (by lia) ux (.inr z))
  ·simp only[decide_eq_false z,Bw,if_false];exact Dg ⟨rfl,rfl,ux.more (by lia) (by lia)⟩
 ·grind
theorem z7m{st:Ia}(T:Tells prog w A s kd S r)(hS:∀p∈a₀.toList,S p.1)(m:Mid kd a₀ st)(hn:n<=a₀.size)(h1:1<=k)(hkn:k<=n)(d:Down r (arrOf st) k)(h:∀j t,Mid kd a₀ t->1<=j->j<=n->Up r (arrOf t) j->Q (some j) t):wpS (model prog w) A E s (tail3 k n) Q st:=by
 have m2:=m.put (Pr (arrOf st) 0 k ((k-0) / 2));refine Cf (Pu (Cf (x2o T hS m2 hn h1 hkn (d.mir (by rw[m.sz];lia)) fun j a b u _=>Dg (h j _ m2 (by lia) b u))))
theorem x3u{st:Ia}(T:Tells prog w A s kd S r)(hS:∀p∈a₀.toList,S p.1)(m:Mid kd a₀ st)(hn:n<=a₀.size)(h1:1<=k)(hkn:k<=n)(d:Down r (arrOf st) k)(h:∀j q t,Mid kd a₀ t->k<=j->j<=n->Down r (arrOf t) j->q+1<=j->(∀i,j-(q+1)<=i->i<j->rk r (arrOf t) i=rk r (arrOf t) (j-1))->Q (none,j,q) t):wpS (model prog w) A E s (descLoop k n) Q st:=by
 refine Kb (fun x c t=>∃q,c=(none,x,q)/\Mid kd a₀ t/\Down r (arrOf t) x/\q+1<=x/\∀i,x-(q+1)<=i->i<x->rk r (arrOf t) i=rk r (arrOf t) (x-1))
  (fun x c t hx hxn ⟨q,ec,mt,dx,hq,eq⟩=>?_) (fun c t ⟨q,ec,mt,dx,hq,eq⟩=>?_) ⟨0,rfl,m,d,by lia,fun i a b=>by rw[show i=k-1 by lia]⟩
 ·subst ec;have zs:x<=(arrOf t).size:=by rw[mt.sz];lia
  dsimp only;refine Cf (z7l T hS mt (by lia) (by lia) ?_);by_cases z:rk r (arrOf t) x<rk r (arrOf t) (x-1)
  ·simp only[decide_eq_true z,if_true];by_cases y:q>0
   ·rw[if_pos y];have em:=fun k=>q7n zs eq k;have d2:Down r (Mg (arrOf t) (x-(q+1)) x ((x-(x-(q+1))) / 2)) x:=fun i j a b=>by rw[em,em];exact dx i j a b
    exact Cf (Pu (Dg ⟨0,rfl,mt.put (Pr _ _ _ _),d2.more (by lia) (by rw[em,em];lia),by lia,fun i a b=>by rw[show i=x+1-1 by lia]⟩))
   ·rw[if_neg y];exact Dg ⟨0,rfl,mt,dx.more (by lia) (by lia),by lia,fun i a b=>by rw[show i=x+1-1 by lia]⟩
  ·simp only[decide_eq_false z,Bw,if_false];refine Cf (z7l T hS mt (by lia) (by lia) ?_);by_cases y:rk r (arrOf t) (x-1)<rk r (arrOf t) x
   ·simp only[decide_eq_true y,if_true];exact Dg (h x q t mt hx (by lia) dx hq eq)
   ·simp only[decide_eq_false y,Bw,if_false];have ex:rk r (arrOf t) x=rk r (arrOf t) (x-1):=by lia
    refine Dg ⟨q+1,rfl,mt,dx.more (by lia) (by lia),by lia,fun i a b=>?_⟩;rw[show x+1-1=x by lia,ex];by_cases c:i=x
    ·rw[c,ex]
    ·grind
 ·grind
theorem z7n{st:Ia}(T:Tells prog w A s kd S r)(hS:∀p∈a₀.toList,S p.1)(m:Mid kd a₀ st)(hn:n<=a₀.size)(hkn:k+1<=n)(d:Down r (arrOf st) (k+1))(h:∀j t,Mid kd a₀ t->1<=j->j<=n->Up r (arrOf t) j->Q (some j) t):wpS (model prog w) A E s (descPart k n) Q st:=by
 refine Cf (wpS_lift (Je ⟨rfl,Cf (x3u T hS m hn (by lia) hkn d fun j q t mt a b dt hq eq=>?_)⟩));have zs:j<=(arrOf t).size:=by rw[mt.sz];lia
 dsimp only;by_cases y:q>0
 ·rw[if_pos y];exact Cf (Pu (z7m T hS (mt.put (Pr _ _ _ _)) hn (by lia) b (fun i i' a' b'=>by show rk r (Mg _ _ _ _) i'<=rk r (Mg _ _ _ _) i;rw[q7n zs eq,q7n zs eq];exact dt i i' a' b') h))
 ·rw[if_neg y];exact z7m T hS mt hn (by lia) b dt h
theorem run_ok{st:Ia}(T:Tells prog w A s kd S r)(hS:∀p∈a₀.toList,S p.1)(m:Mid kd a₀ st)(hn:n<=a₀.size)(h1:1<=n)(h:∀j t,Mid kd a₀ t->1<=j->j<=n->Up r (arrOf t) j->Q (some j) t):wpS (model prog w) A E s (countRun' 0 n) Q st:=by
 rw[countRun0_eq];refine Cf (x2o T hS m hn (Aj 1) h1 Up.one fun k a b u o=>?_);have zs:k<=(arrOf st).size:=by rw[m.sz];lia
 dsimp only;by_cases e:k=n
 ·rw[if_pos (by simpa using e)];exact Dg (h k st m a b u)
 rw[if_neg (by simpa using e)];by_cases g:k>1
 ·rw[if_pos g];refine Cf (z7l T hS m (by lia) (by lia) ?_);by_cases z:rk r (arrOf st) 0<rk r (arrOf st) (k-1)
  ·simp only[decide_eq_true z,if_true];exact Dg (h k st m a b u)
  ·simp only[decide_eq_false z,Bw,if_false];have al:∀i,0<=i->i<k->rk r (arrOf st) i=rk r (arrOf st) (k-1):=fun i _ hi=>by
    have u1:=u 0 i (by lia) hi;have u2:=u i (k-1) (by lia) (by lia);lia
   refine Cf (Pu (z7n T hS (m.put (Pr _ _ _ _)) hn (by lia) (Down.more (fun i j a' b'=>?_) (by lia) ?_) h))
   ·show rk r (Mg _ _ _ _) j<=rk r (Mg _ _ _ _) i;rw[q7n zs al,q7n zs al,al i (by lia) (by lia),al j (by lia) (by lia)];exact Pq _
   ·show rk r (Mg _ _ _ _) k<=rk r (Mg _ _ _ _) (k-1);rw[q7n zs al,q7n zs al];lia
 ·rw[if_neg g];exact z7n T hS m hn (by lia) (Down.more (fun i j a' b'=>by rw[show i=j by lia];exact Pq _) (by lia) (by lia)) h
theorem ins_ok{st:Ia}(T:Tells prog w A s kd S r)(hS:∀p∈a₀.toList,S p.1)(m:Mid kd a₀ st)(hn:n<=a₀.size)(hk:k<=n)(u:Up r (arrOf st) k)(h:∀t,Mid kd a₀ t->Up r (arrOf t) n->Q true t):wpS (model prog w) A E s (binarySort' 0 n k) Q st:=by
 rw[binarySort'_eq];simp only[Nat.zero_add];refine Cf (To (Kb (fun j c t=>c=(none,())/\Mid kd a₀ t/\Up r (arrOf t) (min j n)) (Q:=fun c t=>c=(none,())/\Mid kd a₀ t/\Up r (arrOf t) n) ?step ?fin ⟨rfl,m,?init⟩) ?post)
 case step =>
  rintro j c t hj hjn ⟨rfl,mt,ut⟩;refine Cf (To (Kb (fun x c t'=>t'=t/\∃lo hi,c=(none,lo,hi)/\lo<=hi/\hi<=j/\hi-lo<=j-x/\(∀i,i<lo->rk r (arrOf t) i<=rk r (arrOf t) j)/\∀i,hi<=i->i<j->rk r (arrOf t) j<rk r (arrOf t) i)
   (Q:=fun c t'=>t'=t/\∃lo hi,c=(none,lo,hi)/\lo<=j/\(∀i,i<lo->rk r (arrOf t) i<=rk r (arrOf t) j)/\∀i,lo<=i->i<j->rk r (arrOf t) j<rk r (arrOf t) i)
   ?st2 ?fi2 ⟨rfl,0,j,rfl,by lia,by lia,by lia,fun i z=>by lia,fun i z y=>by lia⟩) ?po2)
  case st2 =>
   rintro x c t' hx hxj ⟨rfl,lo,hi,rfl,a1,a2,a3,a4,a5⟩;dsimp only;by_cases z:lo>=hi
   ·rw[if_pos z];exact Dg ⟨rfl,lo,hi,rfl,by lia,a4,fun i b c=>a5 i (by lia) c⟩
   ·rw[if_neg z];refine Cf (z7l T hS mt (by lia) (by lia) ?_);by_cases y:rk r (arrOf t') j<rk r (arrOf t') ((lo+hi) / 2)
    ·simp only[decide_eq_true y,if_true];refine Dg ⟨rfl,lo,(lo+hi) / 2,rfl,by lia,by lia,by lia,a4,fun i b c=>?_⟩;have:=ut ((lo+hi) / 2) i b (by lia);lia
    ·simp only[decide_eq_false y,Bw,if_false];refine Dg ⟨rfl,(lo+hi) / 2+1,hi,rfl,by lia,a2,by lia,fun i b=>?_,a5⟩;have:=ut i ((lo+hi) / 2) (by lia) (by lia);lia
  case fi2 =>
   rintro c t' ⟨rfl,lo,hi,rfl,a1,a2,a3,a4,a5⟩;exact⟨rfl,lo,hi,rfl,by lia,a4,fun i b c=>a5 i (by lia) c⟩
  case po2 =>
   rintro c t' ⟨rfl,lo,hi,rfl,a1,a4,a5⟩;rw[moveDown'_eq];have zs:j<(arrOf t').size:=by rw[mt.sz];lia
   refine Cf (Uh (Dg ⟨rfl,mt.put (bubble_perm _ _ _),fun i i' b c=>?_⟩));have e1:j-(j-lo)=lo:=by lia
   rw[x2n zs (by lia),x2n zs (by lia),e1];by_cases b1:i=lo
   ·grind
   ·rw[if_neg b1];by_cases b2:i'=lo
    ·grind
    ·rw[if_neg b2];by_cases b3:lo<i/\i<=j
     ·rw[if_pos b3,if_pos (by lia)];exact ut _ _ (by lia) (by lia)
     ·rw[if_neg b3];by_cases b4:lo<i'/\i'<=j
      ·grind
      ·rw[if_neg b4];exact ut _ _ b (by lia)
 case fin =>
  rintro c t ⟨ec,mt,ut⟩;have e:min (max (max k 1) n) n=n:=by lia
  rw[e] at ut;exact⟨ec,mt,ut⟩
 case init =>
  intro i j a b;by_cases z:k=0
  ·grind
  ·exact u i j a (by lia)
 case post =>
  rintro c t ⟨rfl,mt,ut⟩;exact Dg (h t mt ut)
structure Fin' (a₀:Array Keyed) (r:Value->Int) (st:Ia):Prop where
 pm:(arrOf st).Perm a₀
 fl:Tj st=none
 pd:Pd st=#[(0,a₀.size,0)]
 up:Up r (arrOf st) a₀.size
theorem x3v{st:Ia}(T:Tells prog w A s kd S r)(hS:∀p∈a₀.toList,S p.1)(m:Mid kd a₀ st)(h2:2<=a₀.size)(h64:a₀.size<64)(h:∀t,(arrOf t).Perm a₀->Tj t=none->Up r (arrOf t) a₀.size->Q () t):wpS (model prog w) A E s sortRuns' Q st:=by
 rw[sortRuns'_eq];have em:minRun' a₀.size a₀.size 0=a₀.size:=by
  cases z:a₀.size with
  |zero=>rfl
  |succ f=>rw[minRun'_succ,if_pos (by lia)]
 have fin:∀{t:Ia},Mid kd a₀ t->Up r (arrOf t) a₀.size->Fin' a₀ r (setPending t ((Pd t).push (0,a₀.size,0))):=fun{t} mt ut=>⟨mt.pm,mt.fl,by show(Pd t).push _=_;rw[mt.pd];rfl,ut⟩
 have none_back:∀{t:Ia},Mid kd a₀ t->(Pd t).back?=none:=fun{t} mt=>by rw[mt.pd];rfl
 refine Cf (Qg ?_);simp only[m.sz,em];refine Cf (To (Kb (fun x c t=>(x=0/\c=(none,0)/\Mid kd a₀ t)\/(1<=x/\c=(none,a₀.size)/\Fin' a₀ r t)) (Q:=fun c t=>c=(none,a₀.size)/\Fin' a₀ r t) ?st1 ?fi1 (.inl ⟨rfl,rfl,m⟩)) ?po1)
 case st1 =>
  intro x c t _ hx o;rcases o with⟨rfl,rfl,mt⟩|⟨x1,rfl,f⟩
  ·dsimp only;rw[if_neg (by lia)];simp only[Kc,Nat.min_self,Nat.zero_add];refine Cf (run_ok T hS mt (Aj _) (by lia) fun j t' mt' j1 j2 ut'=>?_);dsimp only;by_cases z:j<a₀.size
   ·rw[if_pos z];refine Cf (wpS_lift (Je ⟨rfl,Cf (ins_ok T hS mt' (Aj _) j2 ut' fun t2 mt2 ut2=>?_)⟩));refine Cf (Qg ?_);rw[none_back mt2];exact Cf (Uh (Dg (.inr ⟨by lia,rfl,fin mt2 ut2⟩)))
   ·rw[if_neg z];have ej:j=a₀.size:=by lia
    subst ej;refine Cf (Qg ?_);rw[none_back mt'];exact Cf (Uh (Dg (.inr ⟨by lia,rfl,fin mt' ut'⟩)))
  ·dsimp only;rw[if_pos (Aj _)];exact Dg ⟨rfl,f⟩
 case fi1 =>
  intro c t o;rcases o with⟨z,_⟩|⟨_,ec,f⟩
  ·lia
  ·exact⟨ec,f⟩
 case po1 =>
  rintro c t ⟨rfl,f⟩;refine Cf (To (Kb (fun _ c t'=>t'=t/\c=(none,())) (Q:=fun c t'=>t'=t/\c=(none,())) ?st3 (fun _ _ z=>z) ⟨rfl,rfl⟩) ?po3)
  case st3 =>
   rintro x c t' _ _ ⟨rfl,rfl⟩;refine Cf (Qg ?_);rw[if_pos (by rw[f.pd];exact Aj 1)];exact Dg ⟨rfl,rfl⟩
  case po3 =>
   rintro c t' ⟨rfl,rfl⟩;exact Dg (h _ f.pm f.fl f.up)
end
end SB
namespace PySem.Rv
open Sem (wp)
abbrev itemObj(d:Addr)(i n ep:Nat)(f0 f1 ok ov:Value):Obj:={ cls:=.type "dict_itemiterator",dict:=none,data:=.fields #[f0,f1,.ref d,.int i 0,.int n 0,.int ep 0,ok,ov],slots:=#[] }
def ItemIt(h:Heap)(it d:Addr)(i n ep:Nat):Prop:=∃f0 f1 ok ov,h.get? it=some (itemObj d i n ep f0 f1 ok ov)/\(f0=.none\/∃a:Addr,f0=Di a)
theorem ItemIt.typeIs{s:Af}(x:ItemIt s.heap it d i n ep):s.TypeIs (.ref it) "dict_itemiterator" := by
 obtain⟨f0,f1,ok,ov,e,_⟩:=x;exact⟨_,e,rfl⟩
theorem ItemIt.lt(x:ItemIt h it d i n ep):it<h.objs.size:=by
 obtain⟨f0,f1,ok,ov,e,_⟩:=x;exact Am e
theorem ItemIt.keep(x:ItemIt h it d i n ep)(k:∀o,h.get? it=some o->h'.get? it=some o):ItemIt h' it d i n ep:=by
 obtain⟨f0,f1,ok,ov,e,z⟩:=x;exact⟨f0,f1,ok,ov,k _ e,z⟩
section
variable{prog:Program}{w:World}{A:Around}{E:Value->Af->Prop}{s:Af}{it d v:Addr}{i ep:Nat}{dob:Obj}{ens:Array Iv}
theorem items_iter(hv:s.heap.IsItemsView v d)(hdo:s.heap.get? d=some dob)(hda:dob.data=.dict ens ep)(hQ:Q (.ref s.heap.objs.size) { s with heap:=s.heap.push (itemObj d 0 ens.size ep .none (.bool false) .none .none) }):wpAny (model prog w) A (Na (.ref v)) Q E s:=by
 obtain⟨o,ho,hc,hf⟩:=id hv;refine Kw hv.typeIs Pw (Ce Pw hv.typeIs F.entry_dict_items_iter ?_ (F.args_dict_items_iter_1 _));unfold Dp.«dict_items.__iter__»;refine Ab (Ae (Ab ?_));unfold Dp.Dict_items.dictOf;refine Ab (Bz ho hf rfl (Ae (Ab ?_)));unfold Dp.Dict_items.newIterator;refine Ab (Gv hdo hda (Ab (Hz hdo hda ?_)));simp only[show Ir "dict_itemiterator" = true from by decide,if_true];refine Bv (Ae ⟨_,rfl, "dict_itemiterator",_,⟨_,Ar _ rfl,rfl⟩,Dj.lookup,?_⟩) (by simp[sizeOk,Km,Er]);simpa[Di,itemObj,Km] using hQ
theorem q7o(e:s.heap.get? it=some (itemObj d i n ep f0 f1 ok ov))(hk:k<8)(hQ:∀h',h'.get? it=some { cls:=.type "dict_itemiterator",dict:=none,data:=.fields ((#[f0,f1,.ref d,.int i 0,.int n 0,.int ep 0,ok,ov]:Array Value).setIfInBounds k x),slots:=#[] }->Ep it s.heap h'->Q () { s with heap:=h' }):
  wpAny (model prog w) A (setField (.ref it) k x) Q E s:=Gf e (by simpa using hk) hQ
theorem owned(x:ItemIt s.heap it d i n ep)(hQ:∀b h',ItemIt h' it d i n ep->Ep it s.heap h'->Q b { s with heap:=h' }):
  wpAny (model prog w) A (Dp.Dict_items.ownedTupleIsFree (.ref it)) Q E s:=by
 obtain⟨f0,f1,ok,ov,e,z⟩:=id x;refine Ab (Bz e rfl rfl ?_);rcases z with rfl|⟨a,rfl⟩
 ·exact Ae (hQ true s.heap x (Kx _ _))
 ·show wpAny _ _ (loadIfAlive (Int.toNat (a:Int)) >>= _) _ _ _;have al:∀{Q':Option Obj->Af->Prop},Q' (s.heap.get? (Int.toNat (a:Int))) s->wpAny (model prog w) A (loadIfAlive (Int.toNat (a:Int))) Q' E s:=fun h' _ _ _=>h';refine Ab (al ?_);by_cases hn:(s.heap.get? (Int.toNat (a:Int))).isNone=true
  ·rw[if_pos hn];exact Ae (hQ true s.heap x (Kx _ _))
  ·rw[if_neg hn];refine Ab (Bz e rfl (x:=f1) rfl ?_);by_cases hb:(f1 != Value.bool true)=true
   ·rw[if_pos hb];refine Ab (q7o e (by decide) fun h' e' sb=>Ae (hQ false h' ⟨_,_,_,_,e',.inr ⟨a,rfl⟩⟩ sb))
   ·rw[if_neg hb];exact Ae (hQ false s.heap x (Kx _ _))
theorem items_item(x:ItemIt s.heap it d i ens.size ep)(hdo:s.heap.get? d=some dob)(hda:dob.data=.dict ens ep)(hlt:i<ens.size)(hQ:∀h',ItemIt h' it d (i+1) ens.size ep->h'.get? s.heap.objs.size=some { cls:=.type "tuple",data:=.seq #[ens[i].key,ens[i].val] }->h'.objs.size=s.heap.objs.size+1 ->
   (∀b o,b≠it->s.heap.get? b=some o->h'.get? b=some o)->Q (some (.ref s.heap.objs.size)) { s with heap:=h' }):wpAny (model prog w) A (Im (.ref it)) Q E s:=by
 obtain⟨f0,f1,ok,ov,e,z⟩:=id x;have hT:=x.typeIs;refine Ab (Ds (Cm hT Dj (Ce Dj hT Mh ?_ (Lv _))));refine Ab (Ae (Ab (Ab ?_)));first|refine Ab (Fh hT (Ae ?_))|refine Ab (Hb hT (Ae ?_))
 refine Ab (Mz e rfl ?_);simp only[show Ir "dict_itemiterator" = true from by decide,if_true];refine Ab (Ae (Ab (Gv hdo hda ?_)));rw[if_neg (by simp)];refine Ab (Ae (Ab (Hz hdo hda ?_)));rw[if_neg (by simp)];refine Ae ?_;simp only[show ¬((i:Int)<0) from by lia,if_false,Cp,Dh hlt];refine Ab ?_;first|refine Ab (Fh hT (Ae ?_))|refine Ab (Hb hT (Ae ?_))
 refine Ab (Le hT ?_);show wpAny _ _ (setField (.ref it) 3 (Di ((i:Int)+1)) >>= _) _ _ s;refine Ab (q7o e (by decide) fun h₁ e₁ sb₁=>?_);have x₁:ItemIt h₁ it d (i+1) ens.size ep:=⟨f0,f1,ok,ov,by rw[e₁];simp[itemObj,Di],z⟩
 refine Ab (Cc ?_);refine Ab (Le x₁.typeIs (Ab (Le x₁.typeIs ?_)));have z₁:=sb₁.1;have hil:=Bc x.lt;refine Ab (Qd ?_);refine Ab (owned (x₁.keep fun o q=>Ag _ q) fun b h₂ x₂ sb₂=>?_);have t₂:h₂.get? s.heap.objs.size=some { cls:=.type "tuple",data:=.seq #[ens[i].key,ens[i].val] }:=by
  rw[sb₂.2 _ (Cv hil),<- z₁];exact Ar _ rfl
 have n₂:h₂.objs.size=s.heap.objs.size+1:=by rw[sb₂.1];show(h₁.push _).objs.size=_;rw[He,z₁]
 have k₂:∀b o,b≠it->s.heap.get? b=some o->h₂.get? b=some o:=fun b o hb q=>by
  rw[sb₂.2 b hb];exact Ag _ ((sb₁.2 b hb).trans q)
 have ez:(Value.ref h₁.objs.size)=.ref s.heap.objs.size:=by rw[z₁]
 cases b with
 |false =>
  refine Ae (Ae ⟨_,rfl,Ae ?_⟩);rw[ez];exact hQ h₂ x₂ t₂ n₂ k₂
 |true =>
  obtain⟨g0,g1,ok2,ov2,e₂,_⟩:=x₂;refine Ab (Bz e₂ rfl rfl (Ab (Bz e₂ rfl rfl ?_)));refine Ab (q7o e₂ (by decide) fun h₃ e₃ sb₃=>?_);refine Ab (q7o e₃ (by decide) fun h₄ e₄ sb₄=>?_);refine Ab (q7o e₄ (by decide) fun h₅ e₅ sb₅=>?_);refine Ab (q7o e₅ (by decide) fun h₆ e₆ sb₆=>?_);have kk:∀b o,b≠it->h₂.get? b=some o->h₆.get? b=some o:=fun b o hb q=>(sb₆.2 b hb).trans ((sb₅.2 b hb).trans ((sb₄.2 b hb).trans ((sb₃.2 b hb).trans q)))
  refine Ab (wpAny_letGo (Ae (Ae ⟨_,rfl,Ae ?_⟩)));rw[ez];refine hQ h₆ ⟨_,_,_,_,e₆,.inr ⟨_,rfl⟩⟩ (kk _ _ (Cv hil) t₂) ?_ fun b o hb q=>kk b o hb (k₂ b o hb q);rw[sb₆.1];rw[sb₅.1];rw[sb₄.1];rw[sb₃.1];exact n₂
theorem items_end(hh:A.handled=none)(x:ItemIt s.heap it d i ens.size ep)(hdo:s.heap.get? d=some dob)(hda:dob.data=.dict ens ep)(hge:ens.size<=i)(hQ:∀h',Pm it s.heap h'->Q none { s with heap:=h' }):wpAny (model prog w) A (Im (.ref it)) Q E s:=by
 obtain⟨f0,f1,ok,ov,e,z⟩:=id x;have hT:=x.typeIs;refine Ab (Ds (Cm hT Dj (Ce Dj hT Mh ?_ (Lv _))));refine Ab (Ae (Ab (Ab ?_)));first|refine Ab (Fh hT (Ae ?_))|refine Ab (Hb hT (Ae ?_))
 refine Ab (Mz e rfl ?_);simp only[show Ir "dict_itemiterator" = true from by decide,if_true];refine Ab (Ae (Ab (Gv hdo hda ?_)));rw[if_neg (by simp)];refine Ab (Ae (Ab (Hz hdo hda ?_)));rw[if_neg (by simp)];refine Ae ?_;simp only[show ¬((i:Int)<0) from by lia,if_false,Cp,Pp hge];refine Ab ?_;first|refine Ab (Fh hT (Ae ?_))|refine Ab (Hb hT (Ae ?_))
 show wpAny _ _ (setField (.ref it) 2 .none >>= _) _ _ s;refine Ab (Fy e rfl (by simp) ?_);show wpAny _ _ (newExc (.type "StopIteration") [] >>= _) _ _ _;refine Ab ?_;refine Ab (Bv (Ab (Jo (by first|rfl|(simp only[Qe];rfl)) ?_)) (by size_fits));refine Bv ?_ (by size_fits);refine Ab (Rb ?_);rw[show A.in1.handled=none from hh];refine Ab (Ae (Tb ?_));refine Ab (Lk ⟨_,Ar _ rfl,rfl⟩ My ?_);exact Ae (hQ _ (((Hr ..).extBut.push _).push _))
theorem items_go (x : ItemIt s.heap it d i n ep) (hQ : ∀ h', ItemIt h' it d i n ep → Ep it s.heap h' → Q () { s with heap := h' }) :
    wpAny (model prog w) A (Jr tg (.ref it) u) Q E s := by
  obtain ⟨f0, f1, ok, ov, e, z⟩ := id x
  have same := hQ s.heap x (Kx _ _)
  cases tg <;> first
    | exact Ae same
    | (cases u <;> first
        | exact Ae same
        | (refine Ab (Qn e ?_)
           refine wpAny_ite_split (fun _ => ?_) (fun _ => Ae same)
           exact q7o e (by decide) fun h' e' sb => hQ h' ⟨_, _, _, _, e', .inl rfl⟩ sb))
end
end PySem.Rv
namespace SB
open PySem PyProof.Rows TX
abbrev Pth:=List (List Nat)
def pLt:Pth->Pth->Bool
 |[],[]=>false
 |[],_::_=>true
 |_::_,[]=>false
 |a::r,b::t=>if a=b then pLt r t else decide (a<b)
theorem q5h(a b:List Nat)(r t:Pth):pLt (a::r) (b::t)=if a=b then pLt r t else decide (a<b):=rfl
theorem q5r:∀p:Pth,pLt p p=false
 |[]=>rfl
 |a::r=>by rw[q5h,if_pos rfl];exact q5r r
theorem z1c{c:List Nat}(h:a<b)(h':b<c):a<c:=List.lt_trans h h'
theorem x3w{b:List Nat}(h:¬a<b)(h':¬b<a):a=b:=List.le_antisymm (List.not_lt.mp h') (List.not_lt.mp h)
theorem z1d:∀{p q t:Pth},pLt p q=true->pLt q t=true->pLt p t=true
 |[],[],_,h,_=>by cases h
 |_::_,[],_,h,_=>by cases h
 |_,_::_,[],_,h=>by cases h
 |[],_::_,_::_,_,_=>rfl
 |a::p,b::q,c::t,h,h'=>by
  rw[q5h] at h h' ⊢;by_cases e1:a=b
  ·subst e1;rw[if_pos rfl] at h;by_cases e2:a=c
   ·rw[if_pos e2] at h' ⊢;exact z1d h h'
   ·rw[if_neg e2] at h' ⊢;exact h'
  ·rw[if_neg e1] at h;by_cases e2:b=c
   ·subst e2;rw[if_neg e1];exact h
   ·rw[if_neg e2] at h';have h1:=of_decide_eq_true h;have h2:=of_decide_eq_true h';have h3:=z1c h1 h2;rw[if_neg (fun e=>by subst e;exact absurd (z1c h1 h2) (List.lt_irrefl _))];exact decide_eq_true h3
theorem z2r:∀{p q:Pth},pLt p q=false->pLt q p=false->p=q
 |[],[],_,_=>rfl
 |[],_::_,h,_=>by cases h
 |_::_,[],_,h=>by cases h
 |a::p,b::q,h,h'=>by
  rw[q5h] at h h';by_cases e:a=b
  ·subst e;rw[if_pos rfl] at h h';rw[z2r h h']
  ·rw[if_neg e] at h;rw[if_neg (Cv e)] at h';exact absurd (x3w (of_decide_eq_false h) (of_decide_eq_false h')) e
def pRank(ps:List Pth)(p:Pth):Nat:=(ps.filter fun q=>pLt q p).length
theorem z1e{α:Type}{f g:α->Bool}:∀(l:List α),(∀x∈l,f x=true->g x=true)->(l.filter f).length<=(l.filter g).length
 |[],_=>Aj _
 |x::r,h=>by
  have ih:=z1e r fun y hy=>h y (Ak _ hy);by_cases hf:f x=true
  ·simp_all
  ·rw[Kt hf];by_cases hg:g x=true
   ·rw[Ku hg];exact Gw ih
   ·simp_all
theorem z1f{α:Type}{f g:α->Bool}{y:α}:∀(l:List α),(∀x∈l,f x=true->g x=true)->y∈l->f y=false->g y=true->(l.filter f).length<(l.filter g).length
 |[],_,hy,_,_=>by cases hy
 |x::r,h,hy,h1,h2=>by
  rcases Bd.mp hy with e|hy
  ·subst e;rw[Kt (by rw[h1];decide),Ku h2];exact Nat.lt_succ_of_le (z1e r fun z hz=>h z (Ak _ hz))
  ·have ih:=z1f r (fun z hz=>h z (Ak _ hz)) hy h1 h2;by_cases hf:f x=true
   ·simp_all
   ·rw[Kt hf];by_cases hg:g x=true
    ·rw[Ku hg];exact Il ih
    ·simp_all
theorem q8s(hp:p∈ps)(h:pLt p q=true):pRank ps p<pRank ps q :=
 z1f ps (fun x _ hx=>z1d hx h) hp (q5r p) h
theorem z2s(hp:p∈ps)(hq:q∈ps):pLt p q=decide ((pRank ps p:Int)<(pRank ps q:Int)):=by
 cases h:pLt p q with
 |true=>have:=q8s hp h;exact(decide_eq_true (by lia)).symm
 |false =>
  cases h':pLt q p with
  |true=>have:=q8s hq h';exact(decide_eq_false (by lia)).symm
  |false=>rw[z2r h h'];exact(decide_eq_false (by lia)).symm
def PathAt(h:Heap)(v:Value)(p:Pth):Prop:=∃a its,v=.ref a/\IsTup h a its/\Ht its.toList (p.map mk)
theorem mk_inj(h:mk a=mk b):a=b:=by have:=congrArg tl h;rwa [q1h,q1h] at this
theorem q7p:∀{vs:List Value} {ss ts:List Str},Ht vs ss->Ht vs ts->ss=ts
 |_,_,_,.nil,.nil=>rfl
 |_,_,_,.cons y t h,.cons _ _ h'=>by rw[q7p h h']
theorem q8t:∀{p q:Pth},p.map mk=q.map mk->p=q
 |[],[],_=>rfl
 |[],_::_,h=>by simp at h
 |_::_,[],h=>by simp at h
 |a::p,b::q,h=>by
  rw[Ap,Ap] at h;injection h with h1 h2;rw[mk_inj h1,q8t h2]
theorem q2j:∀{vs:List Value} {p:Pth},Ht vs (p.map mk)->vs.length=p.length
 |_,[],.nil=>rfl
 |vs,n::p,h=>by
  rw[Ap] at h;cases h with
  |cons _ _ h'=>rw[Bm,Bm,q2j h']
theorem IsTup.inj(h1:IsTup h a x)(h2:IsTup h a y):x=y:=by
 obtain⟨o,e,_,n,d⟩:=h1;obtain⟨o',e',_,n',d'⟩:=h2;rw[e] at e';cases e';rw[d] at d';cases d';rfl
theorem PathAt.inj(h1:PathAt h v p)(h2:PathAt h v q):p=q:=by
 obtain⟨a,its,rfl,t,s⟩:=h1;obtain⟨a',its',e,t',s'⟩:=h2;cases e;rw[IsTup.inj t t'] at s;exact q8t (q7p s s')
theorem IsTup.keep(t:IsTup h a x)(k:∀o,h.get? a=some o->h'.get? a=some o):IsTup h' a x:=let ⟨o,e,r⟩:=t;⟨o,k o e,r⟩
theorem PathAt.keep(x:PathAt h v p)(k:∀b o,h.get? b=some o->h'.get? b=some o):PathAt h' v p:=let ⟨a,its,e,t,s⟩:=x;⟨a,its,e,IsTup.keep t fun o=>k a o,s⟩
def dP(p:Pth):List PyData:=p.map fun n=>PyData.str (mk n)
def Low(p:Pth):Prop:=∀n∈p,∀c∈n,c<128
theorem q8u:∀{p:Pth} {vs:List Value},Ht vs (p.map mk)->∃as,ReadsAll h vs (dP p) as
 |[],_,.nil=>⟨_,.nil⟩
 |n::p,vs,x=>by
  rw[Ap] at x;cases x with
  |cons y t s =>
   obtain⟨as,h'⟩:=q8u s;exact⟨_,.cons (.str _ t) h'⟩
theorem PathAt.reads(x:PathAt h v p):∃as,Reads h v (.tuple (dP p)) as:=by
 obtain⟨a,its,rfl,⟨o,e,c,n,d⟩,s⟩:=x;obtain⟨as,r⟩:=q8u s;exact⟨_,.tuple e c d r⟩
theorem z7o(h:∀c∈l,c<128):Se (mk l)=true:=by
 unfold Se;simp only[mk,List.all_toArray,Fx];intro c hc;have:=h c hc;simp;lia
theorem z1g:∀{p:Pth},Low p->Kv (dP p)=true
 |[],_=>rfl
 |n::r,h=>by
  have h1:=z7o (h n Ao);have ih:=z1g fun x hx=>h x (Ak _ hx);show Kv (PyData.str (mk n)::dP r)=true;simp only[Kv,Jg,h1,ih,Bool.and_self]
theorem q6p:∀p:Pth,Ey (dP p)<=1
 |[]=>by simp[dP,Ey]
 |n::r=>by
  have ih:=q6p r;show Ey (PyData.str (mk n)::dP r)<=1;simp only[Ey,Ni];lia
theorem q7q:∀p q:Pth,Gs (dP p) (dP q)=decide (p=q)
 |[],[]=>rfl
 |[],_::_=>rfl
 |_::_,[]=>rfl
 |a::p,b::q=>by
  show Gs (PyData.str (mk a)::dP p) (PyData.str (mk b)::dP q)=_;have e:Gs (PyData.str (mk a)::dP p) (PyData.str (mk b)::dP q)=(Eu (PyData.str (mk a)) (PyData.str (mk b))&&Gs (dP p) (dP q)):=by simp only[Gs]
  have e2:Eu (PyData.str (mk a)) (PyData.str (mk b))=(mk a==mk b):=by simp only[Eu]
  rw[e,e2,q7q p q];by_cases h:a=b
  ·subst h;simp
  ·grind
section
variable{prog:Program}{w:World}{A:Around}{E:Value->Af->Prop}{s:Af}{x y:Value}{p q:Pth}
theorem x0x(hx:PathAt s.heap x p)(hy:PathAt s.heap y q)(lp:Low p)(lq:Low q)(hu:A.units+2<cLine):Dz A s x y (decide (p=q)):=by
 obtain⟨as,r1⟩:=hx.reads;obtain⟨bs,r2⟩:=hy.reads;have h:=SeqAt.eqAt_reads (.tuple (dP p)) (.tuple (dP q)) A s x y as bs r1 r2 (by simp only[Jg,z1g lp]) (by simp only[Jg,z1g lq]) (by
  have h1:(PyData.tuple (dP p)).depth=Ey (dP p)+1:=by simp only[Ni]
  have:=q6p p;lia)
 have e:Eu (.tuple (dP p)) (.tuple (dP q))=decide (p=q):=by simp only[Eu,q7q]
 rwa [e] at h
theorem z1h(l b:Addr)(items items2:Array Value)(n n2:Nat)(dd dd2:Option Addr)(sl sl2:Array (Option Value))(p q:Pth)(hi:Ht items.toList (p.map mk))(hj:Ht items2.toList (q.map mk)):
  Meets (Dp.«tuple.__lt__» ⟨[.ref l,.ref b],[]⟩)
   (fun _ R s=>s.heap.get? l=some { cls:=.type "tuple",dict:=dd,data:=.seq items n,slots:=sl }/\s.heap.get? b=some { cls:=.type "tuple",dict:=dd2,data:=.seq items2 n2,slots:=sl2 } /\
    R (.ok (.ret (.bool (pLt p q)))) s) :=
 .of_wp fun prog w A R s h=>by
  obtain⟨hp,g,d,tk,os⟩:=s;obtain⟨hl,hb,h⟩:=h;have f2:=AutoSeq1.sub_tuple_tuple;have z1:items.size=p.length:=by have:=q2j hi;simpa using this
  have z2:items2.size=q.length:=by have:=q2j hj;simpa using this
  wp_walk using Mi hl,Mi hb,wpAny_forIn_list _ (fun rest c s'=>c.1=none/\s'=⟨hp,g,d,tk,os⟩/\∃(vs ws:List Value) (p' q':Pth),rest=vs.zip ws /\
   Ht vs (p'.map mk)/\Ht ws (q'.map mk)/\p'.length+items2.size=q'.length+items.size/\R (.ok (.ret (.bool (pLt p' q')))) ⟨hp,g,d,tk,os⟩) _
  case turn =>
   rintro⟨y,x⟩ rest c s' ⟨hb',rfl,vs,ws,p',q',hz,hvi,hwi,hlen,hR⟩;cases p' with
   |nil=>cases hvi;rw[Sv] at hz;cases hz
   |cons m p' =>
    cases q' with
    |nil=>cases hwi;rw[Sf] at hz;cases hz
    |cons m' q' =>
     rw[Ap] at hvi hwi;cases hvi with
     |cons _ t hvi' =>
      cases hwi with
      |cons _ u hwi' =>
       rw[Kd] at hz;injection hz with hyx hrest;injection hyx with hy hx;subst hy hx;rw[q5h] at hR;simp only[Bm] at hlen;refine Ab (Nd (mk m) t (mk m') u (A:=A.in1) (s:=⟨hp,g,d,tk,os⟩) prog w _ _ ?_);by_cases e:m=m'
       ·subst e;rw[if_pos rfl] at hR;rw[beq_self_eq_true]
        wp_walk
        exact⟨rfl,rfl,_,_,_,_,hrest,hvi',hwi',by lia,hR⟩
       ·rw[if_neg e] at hR;have e2:(mk m==mk m')=false:=beq_eq_false_iff_ne.mpr fun z=>e (mk_inj z);rw[e2];have hri:∀(E:Value->Af->Prop) (Q:Value->Af->Prop),Q (.bool (decide (m<m'))) ⟨hp,g,d,tk,os⟩->wpAny (model prog w) A.in1 (richCompare .Lt (.str (mk m) t) (.str (mk m') u)) Q E ⟨hp,g,d,tk,os⟩:=fun E Q hq =>
         (Rj (by
          have e3:(mk m).cps.toList=m:=q1h m;have e4:(mk m').cps.toList=m':=q1h m';rw[e3,e4];exact hq):wpAny (model prog w) A.in1 (Ca .Lt (.str (mk m) t) (.str (mk m') u)) Q E ⟨hp,g,d,tk,os⟩)
        wp_walk using hri
        exact⟨_,rfl,by simpa using hR⟩
  case fin =>
   rintro⟨b1,b2⟩ s' ⟨hb',rfl,vs,ws,p',q',hz,hvi,hwi,hlen,hR⟩;simp only at hb';subst hb';have hv:pLt p' q'=decide (items.size<items2.size):=by
    cases p' with
    |nil =>
     cases q' with
     |nil=>exact(decide_eq_false (by simp only[Ej] at hlen;lia)).symm
     |cons m' q'=>exact(decide_eq_true (by simp only[Ej,Bm] at hlen;lia)).symm
    |cons m p' =>
     cases q' with
     |nil=>exact(decide_eq_false (by simp only[Ej,Bm] at hlen;lia)).symm
     |cons m' q' =>
      rw[Ap] at hvi hwi;cases hvi with
      |cons _ t _=>cases hwi with|cons _ u _=>rw[Kd] at hz;cases hz
   rw[hv] at hR
   wp_walk
   exact⟨_,rfl,by simpa[Dp.Tuple.tupleCompareSizes] using hR⟩
  case h =>
   exact⟨rfl,rfl,items.toList,items2.toList,p,q,rfl,hi,hj,by lia,h⟩
theorem x0y{Q:Value->Af->Prop}(hx:PathAt s.heap x p)(hy:PathAt s.heap y q)(hu:A.units<cLine)(h:Q (.bool (pLt p q)) s):wpAny (model prog w) A (Ca .Lt x y) Q E s:=by
 obtain⟨l,items,rfl,hl,hi⟩:=hx;obtain⟨b,items2,rfl,hb,hj⟩:=hy;obtain⟨⟨cls,dd,data,sl⟩,ho,hc,n,hd⟩:=id hl;obtain⟨⟨cls2,dd2,data2,sl2⟩,ho2,hc2,n2,hd2⟩:=id hb;simp only at hc hd hc2 hd2;subst hc hd hc2 hd2;exact richCompare_meets_room (op:=.Lt) ⟨_,ho,rfl⟩ ⟨_,ho2,rfl⟩ PySem.F.slot_tuple_lt PySem.F.entry_tuple_lt (PySem.F.args_tuple_lt_2 _ _) (z1h l b items items2 n n2 dd dd2 sl sl2 p q hi hj)
  ⟨ho,ho2,show Value.bool (pLt p q)≠Value.notImplemented/\Q (.bool (pLt p q)) s from⟨(fun x=>nomatch x),h⟩⟩ hu
theorem x3x{b:Bool}{m m':List Nat}{t u:Tok}{Q:Bool->Af->Prop}(h:Q (decide (m<m')) s):wpAny (model prog w) A (oneLt' b (.str (mk m) t) (.str (mk m') u)) Q E s:=by
 have e3:(mk m).cps.toList=m:=q1h m;have e4:(mk m').cps.toList=m':=q1h m';cases b with
 |true=>exact oneLt_str (by rw[e3,e4];exact h)
 |false =>
  rw[oneLt'_eq];simp only[Bw,if_false];exact Ab ((Rj (by rw[e3,e4];exact Ei h):wpAny (model prog w) A (Ca .Lt (.str (mk m) t) (.str (mk m') u)) _ E s))
theorem x0z{Q:Bool->Af->Prop}(hx:PathAt s.heap x p)(hy:PathAt s.heap y q)(hu:A.units<cLine)(h:Q (pLt p q) s):wpAny (model prog w) A (oneLt' false x y) Q E s:=by
 rw[oneLt'_eq];simp only[Bw,if_false];exact Ab (x0y hx hy hu (Ei h):wpAny (model prog w) A (Ca .Lt x y) _ E s)
theorem z7p{b:Bool}{Q:Bool->Af->Prop}(hx:PathAt s.heap x p)(hy:PathAt s.heap y q)(h:Q (pLt p q) s):wpAny (model prog w) A (keyLt' (Sm b) x y) Q E s:=by
 obtain⟨l,items,rfl,⟨o,ho,hc,n,hd⟩,hi⟩:=hx;obtain⟨m,items2,rfl,⟨o2,ho2,hc2,n2,hd2⟩,hj⟩:=hy;refine Ab (m:=Gb (.ref l)) (Ke ho hd (Ab (m:=Gb (.ref m)) (Ke ho2 hd2 ?_)));have z1:items.size=p.length:=by have:=q2j hi;simpa using this
 have z2:items2.size=q.length:=by have:=q2j hj;simpa using this
 refine Ab (wpAny_forIn_list _ (fun rest c s'=>c=(none,())/\s'=s/\∃(vs ws:List Value) (p' q':Pth) (k:Nat),rest=(vs.zip ws).zipIdx k/\Ht vs (p'.map mk)/\Ht ws (q'.map mk) /\
   p'.length+items2.size=q'.length+items.size/\Q (pLt p' q') s) (fun c s'=>match c.1 with|some r=>Q r s'|none=>c.1=none/\Q (decide (items.size<items2.size)) s') ?turn ?fin _ _ ?h0|>fun z=>Bu z ?post fun _ _ e=>e)
 case post =>
  rintro⟨c,⟨⟩⟩ s' hc;cases c with
  |none=>exact Ae hc.2
  |some r=>exact Ae hc
 case h0=>exact⟨rfl,rfl,items.toList,items2.toList,p,q,0,rfl,hi,hj,by lia,h⟩
 case fin =>
  rintro c s' ⟨rfl,rfl,vs,ws,p',q',k,hz,hv,hw,hl,hQ⟩;have e:pLt p' q'=decide (items.size<items2.size):=by
   cases p' with
   |nil =>
    cases q' with
    |nil=>exact(decide_eq_false (by simp only[Ej] at hl;lia)).symm
    |cons m' q'=>exact(decide_eq_true (by simp only[Ej,Bm] at hl;lia)).symm
   |cons m p' =>
    cases q' with
    |nil=>exact(decide_eq_false (by simp only[Ej,Bm] at hl;lia)).symm
    |cons m' q' =>
     rw[Ap] at hv hw;cases hv with
     |cons _ t _=>cases hw with|cons _ u _=>rw[Kd,Tp] at hz;cases hz
  rw[e] at hQ;exact⟨rfl,hQ⟩
 case turn =>
  rintro⟨⟨y,x⟩,i⟩ rest c s' ⟨rfl,rfl,vs,ws,p',q',k,hz,hv,hw,hl,hQ⟩;cases p' with
  |nil=>cases hv;rw[Sv] at hz;cases hz
  |cons m p' =>
   cases q' with
   |nil=>cases hw;rw[Sf] at hz;cases hz
   |cons m' q' =>
    rw[Ap] at hv hw;cases hv with
    |cons _ t hv' =>
     cases hw with
     |cons _ u hw' =>
      rw[Kd,Tp] at hz;injection hz with h1 h2;injection h1 with h1 h3;injection h1 with h4 h5;subst h4 h5 h3;rw[q5h] at hQ;simp only[Bm] at hl;refine Ab (Nd (mk m) t (mk m') u (A:=A) (s:=s') prog w _ _ ?_);by_cases e:m=m'
      ·subst e;rw[if_pos rfl] at hQ;rw[beq_self_eq_true];simp only[Rc,Bw,if_false];exact Ae ⟨rfl,rfl,_,_,_,_,_,h2,hv',hw',by lia,hQ⟩
      ·rw[if_neg e] at hQ;have e2:(mk m==mk m')=false:=beq_eq_false_iff_ne.mpr fun z=>e (mk_inj z);rw[e2];simp only[Bool.not_false,if_true];exact Ab (x3x (b:=b&&i==0) (Ae hQ))
def PairAt(h:Heap)(v:Value)(p:Pth)(m:Value):Prop:=∃a k,v=.ref a/\IsTup h a #[k,m]/\PathAt h k p
theorem PairAt.keep{h h':Heap}{v m:Value}{p:Pth}(x:PairAt h v p m)(k:∀b o,h.get? b=some o->h'.get? b=some o):PairAt h' v p m:=let ⟨a,z,e,t,s⟩:=x;⟨a,z,e,IsTup.keep t fun o=>k a o,s.keep k⟩
theorem z7q{m m':Value}{Q:Bool->Af->Prop}(hx:PairAt s.heap x p m)(hy:PairAt s.heap y q m')(hxy:p=q->x=y)(lp:Low p)(lq:Low q)(hu:A.units+2<cLine)(h:Q (pLt p q) s):wpAny (model prog w) A (keyLt' (Sm false) x y) Q E s:=by
 obtain⟨l,k,rfl,hl,hk⟩:=hx;obtain⟨l2,k2,rfl,hl2,hk2⟩:=hy;obtain⟨o,ho,hc,n,hd⟩:=id hl;obtain⟨o2,ho2,hc2,n2,hd2⟩:=id hl2;refine Ab (m:=Gb (.ref l)) (Ke ho hd (Ab (m:=Gb (.ref l2)) (Ke ho2 hd2 ?_)));show wpAny (model prog w) A (forIn [((k,k2),0),((m,m'),1)] ((none,()):Option Bool×Unit) _ >>= _) Q E s;rw[Pc];refine Ab (Ab (Ab (x0x hk hk2 lp lq hu prog w _ _ ?_)));by_cases e:p=q
 ·have e1:=hxy e;cases e1;have e2:=IsTup.inj hl hl2;have e3:k=k2/\m=m':=by
   have:=congrArg Array.toList e2;simpa using this
  obtain⟨rfl,rfl⟩:=e3;subst e;rw[decide_eq_true rfl];simp only[Rc,Bw,if_false];refine Ae ?_;dsimp only;rw[Pc];refine Ab (Ab (Ua m (A:=A) (s:=s) prog w _ _ ?_));simp only[Rc,Bw,if_false];refine Ae ?_;dsimp only;rw[List.forIn_nil];refine Ae (Ae ?_);rw[q5r] at h;simpa using h
 ·rw[decide_eq_false e];simp only[Bool.not_false,if_true,Mt];refine Ab (x0z hk hk2 (by lia) (Ae ?_));exact Ae (Ae h)
theorem z2t{α β:Type}{f:α->Sem β}{g:α->β}:∀(l:List α) {Q:List β->Af->Prop},(∀a∈l,∀(Q':β->Af->Prop),Q' (g a) s->wpAny (model prog w) A (f a) Q' E s)->Q (l.map g) s->wpAny (model prog w) A (l.mapM f) Q E s
 |[],Q,_,h=>by rw[List.mapM_nil];exact Ae h
 |a::l,Q,hf,h=>by
  rw[List.mapM_cons];refine Ab (hf a Ao _ (Ab (z2t l (fun b hb=>hf b (Ak _ hb)) (Ae h))))
theorem x1a{a:Addr}{its:Array Value}{Q:Option Value->Af->Prop}(t:IsTup s.heap a its)(h:Q its[0]? s):wpAny (model prog w) A (firstOfTuple' (.ref a)) Q E s:=by
 obtain⟨o,ho,hc,n,hd⟩:=t;refine Ab (m:=typeOf (.ref a)) (Hn (T := "tuple") ⟨o,ho,hc⟩ ?_);have e:(Value.type "tuple" != Value.type "tuple")=false:=by decide
 rw[e];simp only[Bw,if_false];exact Ab (m:=Gb (.ref a)) (Ke ho hd (Ae h))
theorem z7r{T:String}{vs:List Value}{fs:Value->Value}{Q:Ll->Af->Prop}(hne:vs≠[])(hf:∀v∈vs,∃a its,v=.ref a/\IsTup s.heap a its/\its[0]?=some (fs v))(hT:∀v∈vs,s.TypeIs (fs v) T)(h:Q (Sm (Value.type T != Value.type "tuple")) s):wpAny (model prog w) A (keyKind' vs.toArray) Q E s:=by
 rw[keyKind'_eq,Sw];refine Ab (Ab (z2t (g:=fun v=>some (fs v)) vs (fun v hv Q' h'=>?_) (Ae ?_)))
 ·obtain⟨a,its,rfl,t,e⟩:=hf v hv;exact x1a t (by rw[e];exact h')
 ·have hall:((vs.map fun v=>some (fs v)).toArray.all fun x=>x.isSome)=true:=by simp
  rw[if_pos (by simpa using hall)];refine Ab (Je ?_);rw[oneTypeOnly'_eq];have e:Array.filterMap id (vs.map fun v=>some (fs v)).toArray=(vs.map fs).toArray:=by
   simp[Sa]
  rw[e,Sw];refine Ab (Ab (Ab (z2t (g:=fun _=>Value.type T) (vs.map fs) (fun x hx Q' h'=>?_) (Ae ?_))))
  ·obtain⟨v,hv,rfl⟩:=Al.mp hx;exact Hn (hT v hv) h'
  ·cases vs with
   |nil=>exact absurd rfl hne
   |cons v vs =>
    have e0:(((v::vs).map fs).map fun _=>Value.type T).toArray[0]?=some (Value.type T):=by simp
    have ea:((((v::vs).map fs).map fun _=>Value.type T).toArray.all fun x=>x==Value.type T)=true:=by simp
    rw[e0];dsimp only;rw[ea];simp only[if_true];exact Ae (Ae (by simpa using h))
end
open PySem PyProof.Rows TX
section
variable{prog:Program}{w:World}{A:Around}{E:Value->Af->Prop}{s:Af}{kd:Ll}{S:Value->Prop}{r:Value->Int}{vs:List Value}
def KeptBut(a:Addr)(h h':Heap):Prop:=∀b o,b≠a->h.get? b=some o->h'.get? b=some o
structure Sorted (r:Value->Int) (vs:List Value) (out:Array Value):Prop where
 perm:out.toList.Perm vs
 rise:out.toList.Pairwise fun x y=>r x<=r y
theorem x1b{xs:Array Keyed}(hp:xs.Perm (pairsOf vs)):(∀p∈xs.toList,p.1=p.2)/\(xs.map (·.2)).toList.Perm vs:=by
 have hl:xs.toList.Perm (vs.zip vs):=by rw[<- pairsOf_toList];exact Np.mp hp
 refine⟨fun p hp'=>(mem_zip_self (hl.mem_iff.mp hp')).1,?_⟩;rw[Tq];have:=hl.map (·.2)
 rwa [List.map_snd_zip (Aj _)] at this
theorem z1i{st:Ia}(hp:(arrOf st).Perm (pairsOf vs))(u:Up r (arrOf st) (pairsOf vs).size):Sorted r vs ((arrOf st).map (·.2)):=by
 obtain⟨h1,h2⟩:=x1b hp;refine⟨h2,?_⟩;rw[List.pairwise_iff_getElem];intro i j hi hj hij;have hi':i<(arrOf st).size:=by simp_all
 have hj':j<(arrOf st).size:=by simp_all
 have e:=u i j (Hh hij) (by rw[<- hp.size_eq];exact hj');have k:∀{n:Nat} (hn:n<(arrOf st).size),rk r (arrOf st) n=r (arrOf st)[n].2:=fun{n} hn=>by
  unfold rk;rw[getElem?_pos (arrOf st) n hn];show r (arrOf st)[n].1=_;rw[h1 (arrOf st)[n] (by simp)]
 rw[k hi',k hj'] at e;simpa using e
theorem z7s(ho:s.heap.get? a=some (Ji "list" vs.toArray n))(h64:vs.length<64)(hS:∀v∈vs,S v)(hk:2<=vs.length->∀s' (E:Value->Af->Prop) (Q:Ll->Af->Prop),KeptBut a s.heap s'.heap->Q kd s'->wpAny (model prog w) A (keyKind' vs.toArray) Q E s')(T:∀s',KeptBut a s.heap s'.heap->Tells prog w A s' kd S r)(h:∀out,Sorted r vs out->P (.done (.ret .none)) { s with heap:=sortedHeap s.heap a vs out }):
  wpAny (model prog w) A (Dp.«list.sort» ⟨[.ref a],[]⟩) P E s:=by
 have hz2:=pairsOf_size vs;have hz3:vs.length<=sizeLine:=by rw[Er];lia
 rw[list_sort_plain];refine Ab (Ke ho rfl (Ab (Rf ho rfl ?_)));have o1:=get?_update_seq ho (fun _=>#[]);refine Ab (Tc o1 rfl (Ab (Qd (Ab (wpAny_newList (Cc ?_))))));generalize hg:(((s.heap.update a (Ef fun _=>#[])).push (Ji "tuple" vs.toArray 0)).push (Ji "list" #[] 0))=g;have kg:KeptBut a s.heap g:=fun b o hb e=>by
  rw[<- hg];exact Ag _ (Ag _ ((Bx _ _ (Cv hb)).trans e))
 have og:=Ag (Ji "list" #[] 0) (Ag (Ji "tuple" vs.toArray 0) o1);rw[hg] at og;have fin:∀out,Sorted r vs out->P (.done (.ret .none)) { s with heap:=g.update a (Ef fun _=>out) }:=fun out so=>by
  have:=h out so;unfold sortedHeap at this
  rwa [hg] at this
 by_cases h2:vs.length<2
 ·have h2':vs.toArray.size<2:=by simpa using h2
  simp only[if_pos h2'];refine Ab (Ae ?_);refine Ab (Ae (Ab (Tc og rfl (Ab (Rf og rfl ?_ (hsz2:=by show((pairsOf vs).map _).size<=_;rw[Array.size_map];lia))))));simp only[bne_self_eq_false,Bw,if_false];exact Ae (fin _ (z1i (Ui _) fun i j a' b'=>by rw[show i=j by lia];exact Pq _))
 ·have h2':¬vs.toArray.size<2:=by simpa using h2
  simp only[if_neg h2'];refine Ab (hk (by lia) _ _ _ kg ?_);refine Ab (Bu (x3v (a₀:=pairsOf vs) (Q:=fun _ t=>(arrOf t).Perm (pairsOf vs)/\Tj t=none/\Up r (arrOf t) (pairsOf vs).size) (T _ kg) (fun p hp=>hS _ ?_)
   ⟨Ui _,rfl,rfl,rfl⟩ (by lia) (by lia) fun t a1 a2 a3=>⟨a1,a2,a3⟩) ?_ fun _ _ e=>e)
  ·rw[pairsOf_toList] at hp;exact(mem_zip_self hp).2
  ·rintro⟨⟨⟩,t⟩ s' ⟨rfl,pm,fl,up⟩;refine Ab (Tc og rfl (Ab (Rf og rfl ?_ (hsz2:=by show((arrOf t).map _).size<=_;rw[Array.size_map,pm.size_eq];lia))));rw[fl];simp only[bne_self_eq_false,Bw,if_false];exact Ae (fin _ (z1i pm up))
end
section
variable{prog:Program}{w:World}{A:Around}{E:Value->Af->Prop}{s:Af}
structure Ready (prog:Program) (w:World) (A:Around) (vs:List Value) (h:Heap) (kd:Ll) (S:Value->Prop) (r:Value->Int):Prop where
 few:vs.length<64
 all:∀v∈vs,S v
 kind:2<=vs.length->∀A' s' (E:Value->Af->Prop) (Q:Ll->Af->Prop),A'.units<=A.units+9->(∀b o,h.get? b=some o->s'.heap.get? b=some o)->Q kd s'->wpAny (model prog w) A' (keyKind' vs.toArray) Q E s'
 tells:∀A' s',A'.units<=A.units+9->(∀b o,h.get? b=some o->s'.heap.get? b=some o)->Tells prog w A' s' kd S r
theorem sorted_ok
  (hc:∀{Q':List Value->Af->Prop},(∀vs h tk kd S r,Ready prog w A vs h kd S r ->
    (∀h' out,Sorted r vs out->(∀b o,h.get? b=some o->h'.get? b=some o)->(∃e,h'.get? h.objs.size=some (Ji "list" out e))->Q (.ref h.objs.size) { s with heap:=h',toks:=tk })->Q' vs { s with heap:=h,toks:=tk }) ->
   wpAny (model prog w) A.in1 (collect x) Q' E s):wpAny (model prog w) A (call (.builtin "sorted") [x]) Q E s:=by
 refine Calls.call_function_entry kind_sorted plain_sorted entry_sorted (args_sorted1 _) ?_;refine Ab (Ae (Ab (hc fun vs h tk kd S r rd hQ=>?_)));have hz3:vs.length<=sizeLine:=by have:=rd.few;rw[Er];lia
 refine Ab (wpAny_newList ?_);have ho:(h.push (Ji "list" vs.toArray 0)).get? h.objs.size=some (Ji "list" vs.toArray 0):=Ar _ rfl;have kb:∀{g:Heap},KeptBut h.objs.size (h.push (Ji "list" vs.toArray 0)) g->∀b o,h.get? b=some o->g.get? b=some o:=fun kg b o e=>kg b o (Bc (Am e)) (Ag _ e);refine Ab (Cc (Ce slot_list_sort ⟨_,ho,rfl⟩ entry_list_sort (z7s ho rd.few rd.all (fun h2 s' E Q kg q=>rd.kind h2 _ s' E Q (by show A.units+1+1<=_;lia) (kb kg) q) (fun s' kg=>rd.tells _ s' (by show A.units+1+1<=_;lia) (kb kg)) fun out so=>⟨_,rfl,?_⟩) (args_list_sort _)));refine Ae ⟨_,rfl,hQ _ out so (fun b o e=>?_) (sortedHeap_at ho)⟩;have:=sortedHeap_old (vs:=vs) (out:=out) (h:=h.push (Ji "list" vs.toArray 0)) (Bc (Am e)) (by rw[size_push'];exact Il (Am e));rw[this];exact Ag _ e
theorem perm_map_inv {α β : Type} {g : α → β} : ∀ {l m : List β}, l.Perm m → ∀ {zs : List α}, m = zs.map g → ∃ zs' : List α, zs'.Perm zs ∧ l = zs'.map g := by
  intro l m h;induction h with
  | nil => simp_all
  | cons x h ih => intro zs e; cases zs with
    | nil => cases e
    | cons z zs =>
      injection e with e1 e2;obtain ⟨zs', h1, h2⟩ := ih e2;exact ⟨z :: zs', h1.cons z, by rw [Ap, ← h2, e1]⟩
  | swap x y l => intro zs e; cases zs with
    | nil => cases e
    | cons z zs => cases zs with
      | nil => cases e
      | cons z2 zs =>
        injection e with e1 e2;injection e2 with e2 e3;exact ⟨z2 :: z :: zs, List.Perm.swap _ _ _, by rw [Ap, Ap, ← e1, ← e2, ← e3]⟩
  | trans h1 h2 ih1 ih2 => intro zs e
                           obtain ⟨zs', p1, e1⟩ := ih2 e;obtain ⟨zs2, p2, e2⟩ := ih1 e1;exact ⟨zs2, p2.trans p1, e2⟩
open Classical in
noncomputable def keyBy (K:Value->Pth->Prop) (v:Value):Pth:=if h:∃p,K v p then choose h else[]
theorem q4f{K:Value->Pth->Prop}(hK:∀v p q,K v p->K v q->p=q){v:Value}{p:Pth}(h:K v p):keyBy K v=p:=by
 unfold keyBy;have hx:∃p,K v p:=⟨p,h⟩
 rw[dif_pos hx];exact hK v _ _ (Classical.choose_spec hx) h
theorem rise_paths{K:Value->Pth->Prop}(hK:∀v p q,K v p->K v q->p=q){α:Type}{g:α->Value}{f:α->Pth}:∀{zs:List α},(∀z∈zs,K (g z) (f z)/\f z∈ps)->(zs.map g).Pairwise (fun x y=>(pRank ps (keyBy K x):Int)<=(pRank ps (keyBy K y):Int))->(zs.map f).Pairwise fun a b=>pLt b a=false
 |[],_,_=>.nil
 |z::zs,hz,h=>by
  rw[Ap] at h ⊢;obtain⟨h1,h2⟩:=Kg.mp h;refine Kg.mpr ⟨fun b hb=>?_,rise_paths hK (fun y hy=>hz y (Ak _ hy)) h2⟩;obtain⟨y,hy,rfl⟩:=Al.mp hb;obtain⟨k1,m1⟩:=hz z Ao;obtain⟨k2,m2⟩:=hz y (Ak _ hy);have:=h1 (g y) (Al.mpr ⟨y,hy,rfl⟩);rw[q4f hK k1,q4f hK k2] at this;rw[z2s m2 m1];exact decide_eq_false (by lia)
theorem ready_paths(few:vs.length<64)(hp:∀v∈vs,∃p∈ps,p≠[]/\PathAt h v p):
  Ready prog w A vs h (Sm true) (fun v=>∃p∈ps,PathAt h v p) (fun v=>(pRank ps (keyBy (PathAt h) v):Int)) where
 few:=few
 all:=fun v hv=>let ⟨p,a,_,b⟩:=hp v hv;⟨p,a,b⟩
 kind:=fun h2 A' s' E Q _ k q=>by
  have hne:vs≠[]:=fun z=>by rw[z] at h2;simp at h2
  have ex:∀v∈vs,∃a its n p t,v=.ref a/\IsTup s'.heap a its/\its[0]?=some (.str (mk n) t):=fun v hv=>by
   obtain⟨p,_,hne,x⟩:=hp v hv;obtain⟨a,its,rfl,tt,st⟩:=x.keep k;cases p with
   |nil=>exact absurd rfl hne
   |cons n p =>
    obtain⟨l⟩:=its;cases st with
    |cons _ t st'=>exact⟨a,_,n,p,t,rfl,tt,rfl⟩
  refine z7r (fs:=fun v=>(match v with|.ref a=>(match s'.heap.get? a with|some o=>(match o.data with|.seq its _=>its.getD 0 .none|_=>.none)|none=>.none)|_=>.none)) hne (fun v hv=>?_) (fun v hv=>?_) (by rw[show(Value.type "str" != Value.type "tuple")=true from by decide];exact q)
  ·obtain⟨a,its,n,p,t,rfl,tt,e⟩:=ex v hv;refine⟨a,its,rfl,tt,?_⟩;obtain⟨o,e1,e2,m,e3⟩:=tt;simp only[e1,e3];rw[e,Nj,e];rfl
  ·obtain⟨a,its,n,p,t,rfl,tt,e⟩:=ex v hv;obtain⟨o,e1,e2,m,e3⟩:=tt;simp only[e1,e3];rw[Nj,e];exact Kl _ _ _
 tells:=fun A' s' _ k E x y Q ⟨p,hp1,x1⟩ ⟨q,hq1,y1⟩ h'=>by
  refine z7p (x1.keep k) (y1.keep k) ?_;have hK:∀v p q,PathAt h v p->PathAt h v q->p=q:=fun _ _ _ a b=>a.inj b;have e1:=q4f hK x1;have e2:=q4f hK y1;rw[z2s hp1 hq1,<- e1,<- e2];exact h'
theorem PairAt.inj(h1:PairAt h v p m)(h2:PairAt h v q m'):p=q:=by
 obtain⟨a,k,rfl,t,s⟩:=h1;obtain⟨a',k',e,t',s'⟩:=h2;cases e;have e:=congrArg Array.toList (IsTup.inj t t');have e2:k=k':=by grind
 subst e2;exact s.inj s'
theorem ready_pairs(few:vs.length<64)(hp:∀v∈vs,∃p∈ps,∃m,Low p/\PairAt h v p m)(hi:∀u∈vs,∀v∈vs,∀p m m',PairAt h u p m->PairAt h v p m'->u=v)(hu:A.units+12<cLine):
  Ready prog w A vs h (Sm false) (fun v=>v∈vs) (fun v=>(pRank ps (keyBy (fun v p=>∃m,PairAt h v p m) v):Int)) where
 few:=few
 all:=fun v hv=>hv
 kind:=fun h2 A' s' E Q _ k q=>by
  have hne:vs≠[]:=fun z=>by rw[z] at h2;simp at h2
  have ex:∀v∈vs,∃a b its m,v=.ref a/\IsTup s'.heap a #[.ref b,m]/\IsTup s'.heap b its:=fun v hv=>by
   obtain⟨p,_,m,_,x⟩:=hp v hv;obtain⟨a,z,rfl,tt,b,its,rfl,t2,_⟩:=x.keep k;exact⟨a,b,its,m,rfl,tt,t2⟩
  refine z7r (fs:=fun v=>(match v with|.ref a=>(match s'.heap.get? a with|some o=>(match o.data with|.seq its _=>its.getD 0 .none|_=>.none)|none=>.none)|_=>.none)) hne (fun v hv=>?_) (fun v hv=>?_) (by rw[show(Value.type "tuple" != Value.type "tuple")=false from by decide];exact q)
  ·obtain⟨a,b,its,m,rfl,tt,_⟩:=ex v hv;refine⟨a,_,rfl,tt,?_⟩;obtain⟨o,e1,e2,n,e3⟩:=tt;simp only[e1,e3];rfl
  ·obtain⟨a,b,its,m,rfl,tt,t2⟩:=ex v hv;obtain⟨o,e1,e2,n,e3⟩:=tt;simp only[e1,e3];obtain⟨o2,f1,f2,_⟩:=t2;exact⟨o2,f1,f2⟩
 tells:=fun A' s' hA k E x y Q hx hy h'=>by
  obtain⟨p,hp1,m,lp,x1⟩:=hp x hx;obtain⟨q,hq1,m',lq,y1⟩:=hp y hy;refine z7q (x1.keep k) (y1.keep k) (fun e=>by subst e;exact hi x hx y hy _ _ _ x1 y1) lp lq (by lia) ?_;have hK:∀v p q,(∃m,PairAt h v p m)->(∃m,PairAt h v q m)->p=q:=fun v p q ⟨_,a⟩ ⟨_,b⟩=>PairAt.inj a b
  have e1:=q4f hK ⟨m,x1⟩;have e2:=q4f hK ⟨m',y1⟩;rw[z2s hp1 hq1,<- e1,<- e2];exact h'
end
end SB
namespace PySem.Rv
open Sem (wp)
structure Runs (prog:Program) (w:World) (A:Around) (S I:Addr) (n:Nat) (Fc:List Value->Heap->Prop) (It:Nat->Heap->Prop):Prop where
 keepF:∀acc h h',Fc acc h->(∀b o,b≠S->b≠I->h.get? b=some o->h'.get? b=some o)->Fc acc h'
 keepI:∀i h h',It i h->(∀b o,b≠S->h.get? b=some o->h'.get? b=some o)->It i h'
 item:∀acc (s:Af) (Q:Option Value->Af->Prop) (E:Value->Af->Prop),acc.length<n->Fc acc s.heap->It acc.length s.heap ->
  (∀v h',Fc (acc++[v]) h'->It (acc.length+1) h'->(∀b o,b≠I->s.heap.get? b=some o->h'.get? b=some o)->Q (some v) { s with heap:=h' })->wpAny (model prog w) A.in1 (Im (.ref I)) Q E s
 done:∀(s:Af) (Q:Option Value->Af->Prop) (E:Value->Af->Prop),It n s.heap->(∀h',(∀b o,b≠I->s.heap.get? b=some o->h'.get? b=some o)->Q none { s with heap:=h' })->wpAny (model prog w) A.in1 (Im (.ref I)) Q E s
section
variable{prog:Program}{w:World}{A:Around}{E:Value->Af->Prop}{S I:Addr}{n:Nat}{Fc:List Value->Heap->Prop}{It:Nat->Heap->Prop}
theorem grow(W:Runs prog w A S I n Fc It)(hSI:S≠I)(hn:n<=sizeLine)(res:Value):∀(k:Nat) (acc:List Value) (s:Af) (c:Nat),n-acc.length=k->acc.length<=n->Fc acc s.heap->It acc.length s.heap ->
  s.heap.get? S=some { cls:=.type "list",data:=.seq acc.toArray c } ->
  (∀acc' h' c',acc'.length=n->Fc acc' h'->(∀b o,b≠S->b≠I->s.heap.get? b=some o->h'.get? b=some o)->h'.get? S=some { cls:=.type "list",data:=.seq acc'.toArray c' }->R (.ok (.ret res)) { s with heap:=h' }) ->
  Fv (model prog w) A (.builtin "list.extend.loop" ⟨[.ref S,.ref I,res],[]⟩) R s:=by
 intro k;induction k with
 |zero =>
  intro acc s c hk hl f i hS hR;refine Gj Rk ?_;rw[Fi Hs _];have e:acc.length=n:=by lia
  refine Ab (W.done s _ _ (by rw[<- e];exact i) fun h' kp=>Ae ?_);exact hR acc h' c e (W.keepF _ _ _ f fun b o _ hb q=>kp b o hb q) (fun b o _ hb q=>kp b o hb q) (kp S _ hSI hS)
 |succ k ih =>
  intro acc s c hk hl f i hS hR;refine Gj Rk ?_;rw[Fi Hs _];refine Ab (W.item acc s _ _ (by lia) f i fun v h' f' i' kp=>?_);have hS':=kp S _ hSI hS;have oth:∀b o,b≠S->h'.get? b=some o->(h'.update S (Ef (·.push v))).get? b=some o:=fun b o hb q=>(Bx _ _ (Cv hb)).trans q;have hS2:(h'.update S (Ef (·.push v))).get? S=some { cls:=.type "list",data:=.seq (acc++[v]).toArray (c+1) }:=by
   have:=Iu hS' (fun x=>x.push v);rw[this];simp
  refine Ab (Pe hS' rfl (Ae ⟨Jj Hs _,ih (acc++[v]) _ (c+1) (by rw[Ai,Dq];lia) (by rw[Ai,Dq];lia)
   (W.keepF _ _ _ f' fun b o hb _ q=>oth b o hb q) (by rw[Ai,Dq];exact W.keepI _ _ _ i' oth) hS2 fun acc' h2 c' e2 f2 k2 s2=>hR acc' h2 c' e2 f2 (fun b o hb hb' q=>k2 b o hb hb' (oth b o hb (kp b o hb' q))) s2⟩) (by rw[Av];lia) (by simp;lia))
theorem collect_runs(hT:∀h,(∀b o,s.heap.get? b=some o->h.get? b=some o)->(⟨h,s.gens,s.drawn,s.toks,s.os⟩:Af).TypeIs (.ref v) T)(hv:v<s.heap.objs.size)(h1:(Value.type T==Value.type "list")=false)(h2:(Value.type T==Value.type "tuple")=false)(hint:∀(A:Around) (E:Value->Af->Prop) (s':Af) (Q:Bool->Af->Prop),s'.TypeIs (.ref v) T->Q false s'->wpAny (model prog w) A (Dp.List.listLengthHint (.ref v)) Q E s')(iter:∀(A:Around) (E:Value->Af->Prop) (h:Heap) (Q:Value->Af->Prop),(∀b o,s.heap.get? b=some o->h.get? b=some o)->Q (.ref h.objs.size) { s with heap:=h.push oI }->wpAny (model prog w) A (Na (.ref v)) Q E { s with heap:=h })(hoI:∀h:Heap,(h.push oI).get? h.objs.size=some oI)(W:Runs prog w A s.heap.objs.size (s.heap.objs.size+1) n Fc It)(hn:n<=sizeLine)(h0:∀h,(∀b o,s.heap.get? b=some o->h.get? b=some o)->h.get? (s.heap.objs.size+1)=some oI->Fc [] h/\It 0 h)(hQ:∀acc h,acc.length=n->Fc acc h->s.heap.objs.size<=h.objs.size->(∀b o,s.heap.get? b=some o->h.get? b=some o)->Q acc { s with heap:=h }):wpAny (model prog w) A (collect (.ref v)) Q E s:=by
 refine Ab (wpAny_runValue (Gj F.entry_proto_collect ?_));rw[Fi F.plain_proto_collect _];refine Ab (Bv (Ae ⟨Jj Sy _,Gj F.entry_list_iadd ?_⟩));rw[Fi Sy _];show wpAny _ A.in1 (Dp.List.listExtendWith (.ref s.heap.objs.size) (.ref v) (.ref s.heap.objs.size)) _ _ { s with heap:=s.heap.push { cls:=.type "list",data:=.seq ([]:List Value).toArray } };generalize hg:s.heap.push { cls:=.type "list",data:=.seq ([]:List Value).toArray }=g;have kg:∀b o,s.heap.get? b=some o->g.get? b=some o:=fun b o q=>by rw[<- hg];exact Ag _ q
 have gz:g.objs.size=s.heap.objs.size+1:=by rw[<- hg];exact He _ _
 have gS:g.get? s.heap.objs.size=some { cls:=.type "list",data:=.seq ([]:List Value).toArray }:=by rw[<- hg];exact Ar _ rfl
 refine Ab (Hn (hT g kg) ?_);have hs:Ou (.ref s.heap.objs.size) (.ref v)=false:=by simp[Ou,Fb hv]
 simp only[hs,h1,h2,Bool.or_false,Bw,if_false];refine Ab (iter _ _ g _ kg ?_);rw[gz];have kI:∀b o,g.get? b=some o->(g.push oI).get? b=some o:=fun b o q=>Ag _ q;have hS₁:=kI _ _ gS;have put:∀(h:Heap) (c:Nat),(∀b o,b≠s.heap.objs.size->(g.push oI).get? b=some o->h.get? b=some o)->h.get? s.heap.objs.size=some { cls:=.type "list",data:=.seq ([]:List Value).toArray c }->h.get? (s.heap.objs.size+1)=some oI ->
   Fv (model prog w) A (.builtin "list.extend.loop" ⟨[.ref s.heap.objs.size,.ref (s.heap.objs.size+1),.ref s.heap.objs.size],[]⟩) (fun r s'=>∃acc c',r=.ok (.ret (.ref s.heap.objs.size))/\s'.heap.get? s.heap.objs.size=some { cls:=.type "list",data:=.seq acc c' }/\Q acc.toList s') { s with heap:=h }:=by
  intro h c kh hh hi;obtain⟨f,i⟩:=h0 h (fun b o q=>kh b o (Bc (Am q)) (kI b o (kg b o q))) hi;refine grow W (Bc (Hi _)) hn _ n [] _ c (by simp) (Br _) f i hh fun acc h' c' e f' k' s'=>⟨acc.toArray,c',rfl,s',?_⟩
  have:=hQ acc h' e f' (Hh (Am s')) fun b o q=>k' b o (Bc (Am q)) (Bc (Il (Am q))) (kh b o (Bc (Am q)) (kI b o (kg b o q)));simpa using this
 have gI:(g.push oI).get? (s.heap.objs.size+1)=some oI:=by grind
 refine Ab (Cc (hint _ _ _ _ (hT (g.push oI) fun b o q=>kI b o (kg b o q)) ?_));have last:∀(h:Heap) (c:Nat),(∀b o,b≠s.heap.objs.size->(g.push oI).get? b=some o->h.get? b=some o)->h.get? s.heap.objs.size=some { cls:=.type "list",data:=.seq ([]:List Value).toArray c }->h.get? (s.heap.objs.size+1)=some oI->∀{R:Result->Af->Prop},
   (∀s' acc c',s'.heap.get? s.heap.objs.size=some { cls:=.type "list",data:=.seq acc c' }->Q acc.toList s'->R (.ok (.ret (.ref s.heap.objs.size))) s')->Fv (model prog w) A (.builtin "list.extend.loop" ⟨[.ref s.heap.objs.size,.ref (s.heap.objs.size+1),.ref s.heap.objs.size],[]⟩) R { s with heap:=h }:=by
  intro h c kh hh hi R hR;refine Hj (put h c kh hh hi) fun r s' z=>?_;obtain⟨acc,c',rfl,e,q⟩:=z;exact hR s' acc c' e q
 refine wpAny_ite_split (fun _=>?_) (fun _=>?_)
 ·refine Ab (Je (Ab ?_));show wpAny _ _ (updateSeq s.heap.objs.size (·.push .none) >>= fun _=>updateSeq s.heap.objs.size (·.pop)) _ _ _;refine Ab (Pe hS₁ rfl ?_);have hS₂:=Iu hS₁ (fun x=>x.push Value.none);refine Pe hS₂ rfl ?_;have hS₃:=Iu hS₂ (fun x=>x.pop);have oth:∀b o,b≠s.heap.objs.size->(g.push oI).get? b=some o->(((g.push oI).update s.heap.objs.size (Ef fun x=>x.push Value.none)).update s.heap.objs.size (Ef fun x=>x.pop)).get? b=some o :=
   fun b o hb q=>(Bx _ _ (Cv hb)).trans ((Bx _ _ (Cv hb)).trans q)
  refine Ae ⟨Jj Hs _,last _ _ oth hS₃ (oth _ _ (Fb (Hi _)) gI) fun s' acc c' e q=>?_⟩;exact Ab (Qn e (Ae q))
 ·refine Ae ⟨Jj Hs _,last _ _ (fun b o _ q=>q) hS₁ gI fun s' acc c' e q=>?_⟩;exact Ab (Qn e (Ae q))
end
end PySem.Rv
namespace L2
open PySem PySem.Spec PyProof.Rows SB TX
def kP(p:Pth):List Key:=p.map fun n=>Sum.inr (mk n)
abbrev vP(p:Pth):List V:=p.map fun n=>V.str (mk n)
theorem q3i(p:Pth):(kP p).map kV=vP p:=by unfold kP;rw[Ba];rfl
abbrev HRow:=Pth×V
abbrev dR(rows:List HRow):HO:=.dT (rows.map fun r=>(kP r.1,r.2))
theorem z1j:∀{p:Pth} {us:List Value},Vals (vP p) us->Ht us (p.map mk)
 |[],_,.nil=>.nil
 |n::p,us,h=>by
  cases h with
  |cons r t =>
   obtain⟨k,rfl⟩:=r;exact .cons _ k (z1j t)
section
variable{X:Cx}{pins:List (Addr×Obj)}{σ:St}{H:Hp}{s:Af}
theorem Inv.path(I:Inv X pins σ H s)(h:H b=some (.tup (vP p))):PathAt s.heap (.ref b) p:=by
 obtain⟨z,its,r,t⟩:=I.hok b _ h;exact⟨b,its.toArray,rfl,t,by simpa using z1j r⟩
theorem Inv.rows(I:Inv X pins σ H s){rows:List HRow}(hd:H d=some (dR rows)):(d==Et)=false/\rows.length<=sizeLine/\∃ob es ep,s.heap.get? d=some ob/\ob.ExactDict/\ob.data=.dict es ep/\(rows.map (·.1)).Nodup /\
  ∃zs:List (Addr×Value×HRow),zs.map (·.2.2)=rows/\es.toList.map (fun e=>(e.key,e.val))=zs.map (fun z=>(Value.ref z.1,z.2.1))/\∀z∈zs,H z.1=some (.tup (vP z.2.2.1))/\RelV z.2.2.2 z.2.1:=by
 obtain⟨z,hsys,xs,hp,ob,es,ep,ho,hex,hob,h4,h5⟩:=(show ObjOk X.prog X.w H s.heap d (dR rows) from I.hok d _ hd)
 rw[Ac] at z;have go:∀(rows:List HRow) (xs:List (List Key×Addr×Value)),Cz (fun(p:List Key×V) (q:List Key×Addr×Value)=>p.1=q.1/\H q.2.1=some (.tup (p.1.map kV))/\RelV p.2 q.2.2) (rows.map fun r=>(kP r.1,r.2)) xs ->
   xs.map (·.1)=rows.map (fun r=>kP r.1)/\∃zs:List (Addr×Value×HRow),zs.map (·.2.2)=rows/\(xs.map (Qm (Hu (mixKind X.prog X.w)))).map (fun e=>(e.key,e.val))=zs.map (fun z=>(Value.ref z.1,z.2.1))/\∀z∈zs,H z.1=some (.tup (vP z.2.2.1))/\RelV z.2.2.2 z.2.1:=by
  intro rows;induction rows with
  |nil=>intro xs h;cases h;exact⟨rfl,[],rfl,rfl,fun _ h=>nomatch h⟩
  |cons r rows ih =>
   intro xs h;cases h with
   |cons hq t =>
    rename_i q ys;obtain⟨e1,e2,e3⟩:=hq;obtain⟨i0,zs,i1,i2,i3⟩:=ih ys t;refine⟨by rw[Ap,Ap,i0,<- e1],(q.2.1,q.2.2,r)::zs,by rw[Ap,i1],by rw[Ap,Ap,Ap,i2];rfl,fun z hz=>?_⟩;rcases Bd.mp hz with rfl|hz
    ·exact⟨by rw[<- q3i];exact e2,e3⟩
    ·exact i3 z hz
 obtain⟨g0,zs,g1,g2,g3⟩:=go rows xs hp;refine⟨hsys,z,ob,es,ep,ho,hex,hob,?_,zs,g1,by rw[h4];exact g2,g3⟩;rw[g0] at h5;have e:rows.map (fun r=>kP r.1)=(rows.map (·.1)).map kP:=by simp_all
 rw[e] at h5;exact(List.pairwise_map.mp h5).imp fun hne z=>hne (by rw[z])
end
abbrev PTs(H:Hp):List Addr->List Pth->Prop:=Cz fun b p=>H b=some (.tup (vP p))
def rSortD:List V->Hp->VK->Prop:=fun vs H Q=>∃d rows,vs=[.ref d]/\H d=some (dR rows)/\rows.length<64/\(∀r∈rows,r.1≠[]) /\
 ∀L bs ps,H L=none->ps.Perm (rows.map (·.1))->ps.Pairwise (fun a b=>pLt b a=false)->PTs H bs ps->Q (.ref L) (upd H L (.lst (bs.map V.ref)))
theorem q7r:∀(bs:List Addr),Vals (bs.map V.ref) (bs.map Value.ref)
 |[]=>.nil
 |b::bs=>.cons rfl (q7r bs)
theorem x2p{H:Hp}{α:Type}{f:α->Addr}{g:α->Pth}:∀{zs:List α},(∀z∈zs,H (f z)=some (.tup (vP (g z))))->PTs H (zs.map f) (zs.map g)
 |[],_=>.nil
 |z::zs,h=>.cons (h z Ao) (x2p fun y hy=>h y (Ak _ hy))
theorem q8v(hr:Room k X.A):CallR X (.builtin "sorted") rSortD:=by
 intro pins s σ H xs us Q I rv h;obtain⟨d,rows,rfl,hd,few,hne,q⟩:=h;obtain⟨u,rfl,ru⟩:=rv.one;cases ru;obtain⟨hsys,hz,ob,es,ep,ho,hex,hob,nd,zs,z1,z2,z3⟩:=I.rows hd;have hlen:es.size=rows.length:=by
  have:=congrArg List.length z2;rw[Ac,Ac,El] at this;rw[this,<- z1,Ac]
 have hkeys:∀{i:Nat} (hi:i<es.size),∃z∈zs,zs[i]?=some z/\es[i].key=.ref z.1:=fun{i} hi=>by
  have e:=congrArg (fun l=>l[i]?) z2;simp only[Aq,Gh,Dh hi,Js] at e;cases hzi:zs[i]? with
  |none=>simp_all
  |some z =>
   rw[hzi] at e;injection e with e;injection e with e1 e2;exact⟨z,As hzi,rfl,e1⟩
 have hdL:=Am ho;refine SB.sorted_ok fun{Q'} kk=>?_;refine PySem.Rv.collect_runs (n:=es.size) (Fc:=fun acc _=>acc=(zs.take acc.length).map fun z=>Value.ref z.1)
  (It:=fun i h=>h.IsKeyIter (s.heap.objs.size+1) d i es.size ep/\h.get? d=some ob) (fun h kh=>⟨ob,kh _ _ ho,hex.1⟩) hdL (by decide) (by decide) (fun A E s' Q hT hq=>W.kdl_hint_dict hT hq)
  (fun A E h Q kh hq=>PySem.Rv.keys_iter hsys ⟨ob,kh _ _ ho,hex.1⟩ (kh _ _ ho) hob hq) (fun h=>Ar _ rfl) ⟨fun acc h h' f _=>f,fun i h h' ⟨f1,f2⟩ kp=>⟨f1.at fun o e=>kp _ _ (Fb (Hi _)) e,kp _ _ (Bc hdL) f2⟩,?_,?_⟩ (by lia)
  (fun h kh ki=>⟨rfl,⟨_,ki,rfl,rfl⟩,kh _ _ ho⟩) (fun acc h el f hz2 kh=>?_)
 ·intro acc s' Q E hl f ⟨i1,i2⟩ hq;refine PySem.Rv.keys_item i1 i2 hob hl fun h' j1 sb=>?_;obtain⟨z,hzm,hzi,hzk⟩:=hkeys hl;rw[hzk];refine hq _ h' ?_ ⟨j1,(sb.2 d (Bc (Il hdL))).trans i2⟩ fun b o hb e=>(sb.2 b hb).trans e;rw[Ai,Dq,Mx,hzi,An,<- f];rfl
 ·intro s' Q E ⟨i1,i2⟩ hq;exact PySem.Rv.keys_end hr.hd i1 i2 hob (Aj _) fun h' eb=>hq h' fun b o hb e=>eb b o hb e
 ·have hzl:zs.length=es.size:=by rw[hlen,<- z1,Ac]
  have ea:acc=zs.map fun z=>Value.ref z.1:=by grind
  have hpa:∀v∈acc,∃p∈rows.map (·.1),p≠[]/\PathAt h v p:=fun v hv=>by
   rw[ea] at hv;obtain⟨z,hzm,rfl⟩:=Al.mp hv;have hm:z.2.2∈rows:=by grind
   exact⟨z.2.2.1,Al.mpr ⟨_,hm,rfl⟩,hne _ hm,(I.path (z3 z hzm).1).keep kh⟩
  refine kk acc h s.toks _ _ _ (SB.ready_paths (by lia) hpa) fun h' out so kh' ⟨e,he⟩=>?_;have pm:=so.perm;rw[ea] at pm;obtain⟨zs',p1,p2⟩:=SB.perm_map_inv pm rfl;have hrise:=so.rise;rw[p2] at hrise;have hps:=SB.rise_paths (fun _ _ _ a b=>a.inj b) (fun z hz=>by
   have hzm:=p1.mem_iff.mp hz;have hm:z.2.2∈rows:=by grind
   exact⟨(I.path (z3 z hzm).1).keep kh,Al.mpr ⟨_,hm,rfl⟩⟩) hrise
  have keep:=fun b o z=>kh' b o (kh b o z);have hfr:=I.hok.fresh hz2;have eo:out.toList=(zs'.map (·.1)).map Value.ref:=by rw[p2,Ba];rfl
  have el2:(zs'.map (·.1)).length=es.size:=by rw[Ac,p1.length_eq,hzl]
  refine⟨.ref h.objs.size,upd H h.objs.size (.lst ((zs'.map (·.1)).map V.ref)),I.laid (t':=s.toks) keep hz2 ⟨by rw[Ac,el2];lia,_,e,q7r _,?_⟩,rfl,?_⟩
  ·rw[he,<- eo]
  ·refine q _ (zs'.map (·.1)) (zs'.map fun z=>z.2.2.1) hfr ?_ hps (x2p fun z hz=>(z3 z (p1.mem_iff.mp hz)).1);have:=p1.map fun z:Addr×Value×HRow=>z.2.2.1;have e3:zs.map (fun z=>z.2.2.1)=rows.map (·.1):=by rw[<- z1,Ba];rfl
   rwa [e3] at this
def vwO(v d:Addr):HO:=.ext fun h=>h.IsItemsView v d
def rItems:V->List V->Hp->VK->Prop:=fun x vs H Q=>∃d rows,x=.ref d/\vs=[]/\H d=some (dR rows)/\∀v,H v=none->Q (.ref v) (upd H v (vwO v d))
theorem z3v:MtR X "dict.items" rItems:=by
 intro pins s σ H x vs v us Q I rx rv h;obtain⟨d,rows,rfl,rfl,hd,q⟩:=h;cases rx;have hus:=rv.zero;subst hus;obtain⟨hsys,hz,ob,es,ep,ho,hex,hob,_⟩:=I.rows hd;refine Ce F.slot_dict_items ⟨ob,ho,hex.1⟩ F.entry_dict_items ?_ (F.args_dict_items_1 _);refine Ab ?_;unfold Dp.Dict.noArgs;refine Ab (Ls ⟨ob,ho,hex.1⟩ ?_);show wpAny _ _ (pure d) _ _ s;refine Ae ?_;unfold Lu;rw[if_neg (by rw[hsys];exact Bl)];refine Ab (Ae (Ab (Bv (Ae ⟨_,rfl,.ref s.heap.objs.size,_,I.laid (t':=s.toks) (fun b u e=>Ag _ e) (Aj _) ?_,rfl,q _ I.fresh⟩))));exact⟨⟨_,Ar _ rfl,rfl,rfl⟩,⟨_,Ar _ rfl⟩,fun h1 h2 ⟨o,e,c,dd⟩ k=>⟨o,k o e,c,dd⟩⟩
def PR(H:Hp)(a:Addr)(r:HRow):Prop:=∃b,H a=some (.tup [.ref b,r.2])/\H b=some (.tup (vP r.1))
abbrev PRs(H:Hp):List Addr->List HRow->Prop:=Cz (PR H)
def rSortV:List V->Hp->VK->Prop:=fun vs H Q=>∃v d rows,vs=[.ref v]/\H v=some (vwO v d)/\H d=some (dR rows)/\rows.length<64/\(∀r∈rows,Low r.1) /\
 ∀L as rs H',H L=none->rs.Perm rows->(rs.map (·.1)).Pairwise (fun a b=>pLt b a=false)->Same H H'->H' L=some (.lst (as.map V.ref))->PRs H' as rs->Q (.ref L) H'
theorem Inv.tracks{σ:St}:∀{zs:List (Addr×List V)} {H:Hp},Inv X pins σ H s->X.s₀.heap.objs.size<=n->(zs.map (·.1)).Nodup ->
  (∀z∈zs,n<=z.1/\FpOk X pins H z.1/\z.2.length<=sizeLine/\∃its,Vals z.2 its/\IsTup s.heap z.1 its.toArray)->∃H',Inv X pins σ H' s/\Same H H'/\(∀z∈zs,H' z.1=some (.tup z.2))/\∀b,(∀z∈zs,z.1≠b)->H' b=H b:=by
 intro zs;induction zs with
 |nil=>intro H I _ _ _;exact⟨H,I,Same.refl H,(fun _ h=>nomatch h),fun _ _=>rfl⟩
 |cons z zs ih =>
  intro H I hn nd hz;obtain⟨h1,h2,h3,its,h4,h5⟩:=hz z Ao;rw[Ap,Dd] at nd;have I2:=I.track (o:=.tup z.2) (Cn hn h1) h2 ⟨h3,its,h4,h5⟩;obtain⟨H',J,sm,ht,ho⟩:=ih I2 hn nd.2 (fun y hy=>by
   obtain⟨g1,g2,g3,g4⟩:=hz y (Ak _ hy);exact⟨g1,⟨by rw[q0e (fun e=>nd.1 (by rw[<- e];exact Al.mpr ⟨y,hy,rfl⟩))];exact g2.1,g2.2⟩,g3,g4⟩)
  refine⟨H',J,((Same.refl H).new h2.1).trans sm,fun y hy=>?_,fun b hb'=>?_⟩
  ·rcases Bd.mp hy with rfl|hy
   ·exact sm _ _ q0b
   ·exact ht y hy
  ·rw[ho b fun y hy=>hb' y (Ak _ hy),q0e (Cv (hb' z Ao))]
theorem q4g{α β:Type}{f:α->β}:∀{l:List α},(l.map f).Nodup->∀{x y:α},x∈l->y∈l->f x=f y->x=y
 |[],_,_,_,h,_,_=>nomatch h
 |a::l,nd,x,y,hx,hy,e=>by
  rw[Ap,Dd] at nd;rcases Bd.mp hx with ex|hx1
  ·rcases Bd.mp hy with ey|hy1
   ·rw[ex,ey]
   ·exact absurd (by rw[<- ex,e];exact Al.mpr ⟨y,hy1,rfl⟩) nd.1
  ·rcases Bd.mp hy with ey|hy1
   ·exact absurd (by rw[<- ey,<- e];exact Al.mpr ⟨x,hx1,rfl⟩) nd.1
   ·exact q4g nd.2 hx1 hy1 e
abbrev Zt:=Addr×Value×HRow
structure Made (h:Heap) (lo:Nat) (ws:List (Addr×Zt)):Prop where
 rise:(ws.map (·.1)).Pairwise fun a b:Nat=>a<b
 low:∀x∈ws,lo<=(show Nat from x.1)
 at_:∀x∈ws,IsTup h x.1 #[.ref x.2.1,x.2.2.1]
theorem Made.keep{lo:Nat}(m:Made h lo ws)(k:∀(a:Nat) o,lo<=a->h.get? a=some o->h'.get? a=some o):Made h' lo ws :=
 ⟨m.rise,m.low,fun x hx=>SB.IsTup.keep (m.at_ x hx) fun o e=>k _ o (m.low x hx) e⟩
theorem z7t{H:Hp}{α:Type}{f:α->Addr}{g:α->HRow}:∀{zs:List α},(∀z∈zs,PR H (f z) (g z))->PRs H (zs.map f) (zs.map g)
 |[],_=>.nil
 |z::zs,h=>.cons (h z Ao) (z7t fun y hy=>h y (Ak _ hy))
theorem z5k(hr:Room k X.A):CallR X (.builtin "sorted") rSortV:=by
 intro pins s σ H xs us Q I rv h;obtain⟨v,d,rows,rfl,hv,hd,few,hlow,q⟩:=h;obtain⟨u,rfl,ru⟩:=rv.one;cases ru;obtain⟨hsys,hz,ob,es,ep,ho,hex,hob,nd,zs,z1,z2,z3⟩:=I.rows hd;obtain⟨vo,vho,vc,vd⟩:s.heap.IsItemsView v d:=(I.hok v _ hv).1;have hlen:es.size=rows.length:=by
  have:=congrArg List.length z2;rw[Ac,Ac,El] at this;rw[this,<- z1,Ac]
 have hkeys:∀{i:Nat} (hi:i<es.size),∃z∈zs,zs[i]?=some z/\es[i].key=.ref z.1/\es[i].val=z.2.1:=fun{i} hi=>by
  have e:=congrArg (fun l=>l[i]?) z2;simp only[Aq,Gh,Dh hi,Js] at e;cases hzi:zs[i]? with
  |none=>simp_all
  |some z =>
   rw[hzi] at e;injection e with e;injection e with e1 e2;exact⟨z,As hzi,rfl,e1,e2⟩
 have hzl:zs.length=es.size:=by grind
 have hdL:=Am ho;have hu:=hr.un;refine SB.sorted_ok fun{Q'} kk=>?_;refine PySem.Rv.collect_runs (n:=es.size) (oI:=PySem.Rv.itemObj d 0 es.size ep .none (.bool false) .none .none) (Fc:=fun acc h=>∃ws,acc=ws.map (fun x=>Value.ref x.1)/\ws.map (·.2)=zs.take acc.length/\Made h (s.heap.objs.size+2) ws)
  (It:=fun i h=>PySem.Rv.ItemIt h (s.heap.objs.size+1) d i es.size ep/\h.get? d=some ob) (fun h kh=>⟨vo,kh _ _ vho,vc⟩) (Am vho) (by decide) (by decide) (fun A E s' Q hT hq=>W.kdx_hint hT hq)
  (fun A E h Q kh hq=>PySem.Rv.items_iter ⟨vo,kh _ _ vho,vc,vd⟩ (kh _ _ ho) hob hq) (fun h=>Ar _ rfl) ⟨?_,fun i h h' ⟨f1,f2⟩ kp=>⟨f1.keep fun o e=>kp _ _ (Fb (Hi _)) e,kp _ _ (Bc hdL) f2⟩,?_,?_⟩ (by lia)
  (fun h kh ki=>⟨⟨[],rfl,rfl,.nil,(fun _ z=>nomatch z),(fun _ z=>nomatch z)⟩,⟨_,_,_,_,ki,.inl rfl⟩,kh _ _ ho⟩) (fun acc h el f hz2 kh=>?_)
 ·rintro acc h h' ⟨ws,e1,e2,m⟩ kp;refine⟨ws,e1,e2,m.keep fun a o ha e=>kp a o (fun z=>?_) (fun z=>?_) e⟩
  ·rw[z] at ha;exact absurd ha (by lia)
  ·grind
 ·rintro acc s' Q E hl ⟨ws,e1,e2,m⟩ ⟨i1,i2⟩ hq;refine PySem.Rv.items_item i1 i2 hob hl fun h' j1 j2 j3 j4=>?_;obtain⟨z,hzm,hzi,hzk,hzv⟩:=hkeys hl;have lo:=i1.lt;have ni:∀{a:Nat},s.heap.objs.size+2<=a->a≠s.heap.objs.size+1:=fun h=>by lia
  refine hq _ h' ⟨ws++[(s'.heap.objs.size,z)],by rw[e1,An];rfl,?_,?_⟩ ⟨j1,j4 d ob (Bc (Il hdL)) i2⟩ j4
  ·rw[An,e2,Ai,Dq,Mx,hzi];rfl
  ·have m':=m.keep (h':=h') fun a o ha e=>j4 a o (ni ha) e;refine⟨?_,fun x hx=>?_,fun x hx=>?_⟩
   ·rw[An];refine List.pairwise_append.mpr ⟨m.rise,Oy _ _,fun a ha b hb=>?_⟩;obtain⟨x,hx,rfl⟩:=Al.mp ha;have hb':b=s'.heap.objs.size:=by simpa using hb
    rw[hb'];obtain⟨o,eo,_⟩:=m.at_ x hx;exact Am eo
   ·rcases Aw.mp hx with hx|hx
    ·exact m.low x hx
    ·rw[Az.mp hx];exact lo
   ·rcases Aw.mp hx with hx|hx
    ·exact m'.at_ x hx
    ·rw[Az.mp hx];refine⟨_,j2,rfl,0,?_⟩;rw[hzk,hzv]
 ·rintro s' Q E ⟨i1,i2⟩ hq;exact PySem.Rv.items_end hr.hd i1 i2 hob (Aj _) fun h' eb=>hq h' fun b o hb e=>eb b o hb e
 ·obtain⟨ws,e1,e2,m⟩:=f;rw[el,<- hzl,Bi] at e2;have hwz:∀{x:Addr×Zt},x∈ws->x.2∈zs:=fun{x} hx=>by rw[<- e2];exact Al.mpr ⟨x,hx,rfl⟩
  have hrow:∀{x:Addr×Zt},x∈ws->x.2.2.2∈rows:=fun{x} hx=>by rw[<- z1];exact Al.mpr ⟨_,hwz hx,rfl⟩
  have hpa:∀{x:Addr×Zt},x∈ws->PairAt h (.ref x.1) x.2.2.2.1 x.2.2.1:=fun{x} hx=>⟨x.1,.ref x.2.1,rfl,m.at_ x hx,(I.path (z3 _ (hwz hx)).1).keep kh⟩
  have hnd:(ws.map fun x=>x.2.2.2.1).Nodup:=by grind
  have hacc:∀{w:Value},w∈acc->∃x∈ws,w=.ref x.1:=fun{w} hw=>by
   rw[e1] at hw;obtain⟨x,hx,rfl⟩:=Al.mp hw;exact⟨x,hx,rfl⟩
  refine kk acc h s.toks _ _ _ (SB.ready_pairs (ps:=rows.map (·.1)) (by lia) (fun w hw=>?_) (fun w hw y hy p mm mm' hp1 hp2=>?_) (by lia)) fun h' out so kh' ⟨e,he⟩=>?_
  ·grind
  ·obtain⟨x,hx,rfl⟩:=hacc hw;obtain⟨x2,hx2,rfl⟩:=hacc hy;have q1:=SB.PairAt.inj hp1 (hpa hx);have q2:=SB.PairAt.inj hp2 (hpa hx2);rw[q4g hnd hx hx2 (q1.symm.trans q2)]
  ·have pm:=so.perm;rw[e1] at pm;obtain⟨ws',p1,p2⟩:=SB.perm_map_inv pm rfl;have hrise:=so.rise;rw[p2] at hrise;have hps:=SB.rise_paths (fun w a b ⟨_,x⟩ ⟨_,y⟩=>SB.PairAt.inj x y) (fun x hx=>by
    have hxm:=p1.mem_iff.mp hx;exact⟨⟨_,hpa hxm⟩,Al.mpr ⟨_,hrow hxm,rfl⟩⟩) hrise
   have keep:=fun b o z=>kh' b o (kh b o z);have I1:=I.kept (t':=s.toks) keep;have hlo:=fun{x} hx=>Cn (Nat.le_add_right _ 2) (m.low x (p1.mem_iff.mp hx));have ndA:(ws'.map (·.1)).Nodup:=by
    have:(ws.map (·.1)).Nodup:=m.rise.imp fun h e=>by subst e;exact absurd h (Fn _)
    exact(p1.map (·.1)).nodup_iff.mpr this
   obtain⟨H1,J,sm,ht,hot⟩:=I1.tracks (zs:=ws'.map fun x=>(x.1,[V.ref x.2.1,x.2.2.2.2])) I.sz (by rw[Ba];exact ndA) (fun z hz=>by
    obtain⟨x,hx,rfl⟩:=Al.mp hz;refine⟨hlo hx,I.fpOk (hlo hx) (I.hok.fresh (hlo hx)),by show 2<=sizeLine;decide,[.ref x.2.1,x.2.2.1],.cons rfl (.cons (z3 _ (hwz (p1.mem_iff.mp hx))).2 .nil),?_⟩;exact SB.IsTup.keep (m.at_ x (p1.mem_iff.mp hx)) fun o e=>kh' _ o e)
   have hL1:H1 h.objs.size=none:=by
    rw[hot _ fun z hz e=>?_]
    ·exact I.hok.fresh hz2
    ·obtain⟨x,hx,rfl⟩:=Al.mp hz;obtain⟨o,eo,_⟩:=m.at_ x (p1.mem_iff.mp hx);exact absurd (Am eo) (by rw[show x.1=h.objs.size from e];exact Fn _)
   have el2:(ws'.map (·.1)).length=es.size:=by rw[Ac,p1.length_eq,<- hzl,<- e2,Ac]
   have eo:out.toList=(ws'.map (·.1)).map Value.ref:=by rw[p2,Ba];rfl
   have J2:=J.track (o:=.lst ((ws'.map (·.1)).map V.ref)) (Cn I.sz hz2) (I.fpOk hz2 hL1) ⟨by rw[Ac,el2];lia,_,e,q7r _,by rw[<- eo];exact he⟩;have sm2:Same H (upd H1 h.objs.size (.lst ((ws'.map (·.1)).map V.ref))):=sm.trans ((Same.refl H1).new hL1);refine⟨.ref h.objs.size,_,J2,rfl,q _ (ws'.map (·.1)) (ws'.map fun x=>x.2.2.2) _ (I.hok.fresh hz2) ?_ (by rw[Ba];exact hps) sm2 q0b (z7t fun x hx=>?_)⟩
   ·have e3:ws.map (fun x=>x.2.2.2)=rows:=by rw[<- z1,<- e2,Ba];rfl
    rw[<- e3];exact p1.map _
   ·refine⟨x.2.1,?_,sm2 _ _ (z3 _ (hwz (p1.mem_iff.mp hx))).1⟩;exact(Same.refl H1).new hL1 _ _ (ht _ (Al.mpr ⟨x,hx,rfl⟩))
open PySem PySem.Spec PyProof.Rows
theorem d_set{σ:St}(hu:A.units+1<cLine)(I:Inv X pins σ H s)(e:H a=some (.dT kvs))(eb:H b=some (.tup (k.map kV)))(l:kvs.length<sizeLine)(rv:RelV v r)(h:∀s',Inv X pins σ (upd H a (.dT (putK kvs k v))) s'->(∀b o,b≠a->s.heap.get? b=some o->s'.heap.get? b=some o)->Q () s'):wpAny (model X.prog X.w) A (dictSet a (.ref b) r) Q E s:=by
 obtain⟨z,hd,xs,rel,dd⟩:=dt_of I.hok e;have hz:xs.length<=sizeLine:=by rw[<- Es rel];exact z
 have hl:(putK kvs k v).length<=sizeLine:=by have:=q2i kvs k v;lia
 refine wpAny_dictSet_heap (show(Hu (mixKind X.prog X.w)).room A from Nat.lt_of_succ_lt hu) (q7l I.hok eb) dd fun h' dd' hs=>h _ ?_ fun b o hb e=>(hs.2 b hb).trans e;obtain⟨q,es,ep,hq,h2,h3,h4,_,h5⟩:=dd';refine z2o I (by rw[e];exact True.intro) hs ⟨q,hq⟩ ⟨hl,hd,_,(rel.put k eb rv).keeps fun c ys ec=>?_,q,es,ep,hq,h2,h3,h4,h5⟩;rw[q0e (z6c ec e (fun z=>nomatch z))];exact ec
def CompWD(J:It)(g:TG)(tt:TT)(tk tv:TE)(σ0:St)(D:Addr)(Fin:List (List Key×V)->Hp->Prop)(H1:Hp):Prop :=
 ∃W:Nat->Nat->List (List Key×V)->Hp->Prop,(∃m,W 0 m [] (upd H1 D (.dT [])))/\∀i m ys H,W i m ys H->H D=some (.dT ys) /\
  ((J.stop i H/\Fin ys H)\/(J.go i H/\∃N:List (List Key×V)->Hp->Prop,(∀zs H',N zs H'->∃m',m'<m/\W (i+1) m' zs H')/\∀x H',J.yld i H x H'->g x σ0 H' fun σ2 H2=>Keeps0 σ0 σ2/\tt σ2 H2 fun b H3 =>
   if b=true then tk σ2 H3 fun y H4=>tv σ2 H4 fun v H5=>∃k c,y=.ref c/\H5 c=some (.tup (k.map kV))/\H5 D=some (.dT ys)/\ys.length<sizeLine/\N (putK ys k v) (upd H5 D (.dT (putK ys k v)))
   else N ys H3))
theorem z1k{σ:St}{Fin:Addr->List (List Key×V)->Hp->Prop}{RR:Value->Addr->Result->Af->Prop}(hc:X.calm=true)(hkind:scope.kind=.function)(hnc:∀y∈scope.names,y.2≠.cell)(hc1:∀x c,cl.lookup x=some c->X.env.cells.lookup x=some c)(hc2:∀x,(x,Bh.free)∈scope.names->∃c,cl.lookup x=some c)(co:CapOk X scope caps)(hg:∀C s H,PG (cxComp X (tg++caps.map (·.1)) scope cl C fp s H) target g)(ht:∀C s H,PIfs (cxComp X (tg++caps.map (·.1)) scope cl C fp s H) ifs tt)(he:∀C s H,PE (cxComp X (tg++caps.map (·.1)) scope cl C fp s H) kx tk)(hv:∀C s H,PE (cxComp X (tg++caps.map (·.1)) scope cl C fp s H) vx tv)(hu:X.A.units+1<cLine)(I2:Inv X pins σ H1 s₂)(T:Turn X.prog X.w X.K target J fp it tn)(st:tn 0 s₂.heap)(hf:∀b∈fp,FpOk X pins H1 b)(hw:∀D,H1 D=none->CompWD J g tt tk tv (tg0 tg σ caps) D (Fin D) H1)(hRR:∀D C ys H' s',H1 D=none->Inv X pins σ H' s'->(∃m,s'.heap.Ns C m)->FpOk X pins H' C->Fin D ys H'->RR (.ref D) C (.ok .next) s'):
  wpAny (model X.prog X.w) X.A newDict (fun acc s₃=>wpAny (model X.prog X.w) X.A (newFunctionEnv scope X.env.globals cl [] X.env.qual none .none (some X.env)) (fun cenv s₄ =>
   Fv (model X.prog X.w) X.A (.compStart (.DictComp kx vx [⟨target,iter,ifs,0⟩] scope pos) 0 (.ref it) acc { cenv with scope:=relabel scope X.env }) (RR acc cenv.locals) s₄) E s₃) E s₂:=by
 have I3:Inv X pins σ (upd H1 s₂.heap.objs.size (.dT [])) { s₂ with heap:=s₂.heap.push { cls:=.type "dict",dict:=none,data:=.dict #[] },toks:=s₂.toks }:=I2.laid (fun _ _ q=>Ag _ q) (Aj _) (q9o s₂.heap I2.big);have hD0:=I2.fresh;refine Bv (Qr hnc (by intro y hy;simp at hy) (fun h₁ hns₁ hsb₁=>?_) hkind);dsimp only at hns₁ hsb₁ ⊢;generalize hDd:s₂.heap.objs.size=D at I3 hD0 hns₁ hsb₁ ⊢;generalize hs3:({ s₂ with heap:=s₂.heap.push { cls:=.type "dict",dict:=none,data:=.dict #[] } }:Af)=s₃ at I3 hns₁ hsb₁ ⊢;have e3:s₂.heap.push { cls:=.type "dict",dict:=none,data:=.dict #[] }=s₃.heap:=by grind
 have o3:({ s₂ with heap:=h₁,toks:=s₂.toks+([]:List (Str×Value)).length }:Af)={ s₃ with heap:=h₁,toks:=s₂.toks }:=by grind
 have size3:s₃.heap.objs.size=D+1:=by rw[<- e3,He,hDd]
 rw[e3] at hns₁ hsb₁ ⊢;have old3:∀b o,s₂.heap.get? b=some o->s₃.heap.get? b=some o:=fun b o e=>by rw[<- e3];exact Ag _ e
 generalize hCd:s₃.heap.objs.size=C at hns₁ hsb₁ ⊢;have hk:=fun b o e=>hsb₁.extBut b o (by rw[<- hCd];exact Bc (Am e)) (Ag _ e);have fpo:∀b∈fp,∃o,s₂.heap.get? b=some o:=fun b hb=>by obtain⟨o,e,_⟩:=T.obj 0 _ st b hb;exact⟨o,e⟩
 have fpne:∀b∈fp,b≠D:=fun b hb=>by obtain⟨o,e⟩:=fpo b hb;rw[<- hDd];exact Bc (Am e)
 have hf3:∀b∈fp,FpOk X pins (upd H1 D (.dT [])) b:=fun b hb=>⟨by rw[q0e (fpne b hb)];exact(hf b hb).1,(hf b hb).2⟩
 have IY:=Inv.ofcomp (tk:=s₂.toks) tg I3 hkind hnc hc1 hc2 hf3 (fun b hb=>let ⟨o,e⟩:=fpo b hb;⟨o,old3 b o e⟩) (Jw hCd) hns₁ hk co;have FC:FpOk X pins H1 C:=by
  have z:=I3.fpOk (H':=H1) (Jw hCd) (I2.hok.fresh (by rw[hDd,<- hCd,size3];exact Ig _));exact z
 generalize hY:cxComp X (tg++caps.map (·.1)) scope cl C fp s₃ (upd H1 D (.dT []))=Y at IY;have hgY:PG Y target g:=by grind
 have htY:PIfs Y ifs tt:=by grind
 have heY:PE Y kx tk:=by grind
 have hvY:PE Y vx tv:=by grind
 have hYp:Y.prog=X.prog:=by rw[<- hY];rfl
 have hYw:Y.w=X.w:=by rw[<- hY];rfl
 have hYK:Y.K=X.K:=by rw[<- hY];rfl
 have hYA:Y.A=X.A:=by rw[<- hY];rfl
 have hYe:Y.env=Fg scope cl C X.env:=by rw[<- hY];rfl
 have hYx:Y.ex=fp:=by rw[<- hY];rfl
 have hYn:Y.pn=[]:=by rw[<- hY];rfl
 have hYc:Y.calm=true:=by rw[<- hY];exact hc
 have hYxe:Y.xe=fun _ _=>False:=by rw[<- hY];rfl
 have fpY:∀{H':Hp},(∀b∈fp,H' b=none)->∀b∈fp,FpOk Y [] H' b:=fun{H'} hn b hb=>by
  refine⟨hn b hb,?_,?_,.inl (by rw[hYx];exact hb),fun x c e=>?_,fun p hp=>?_⟩
  ·have:=(IY.ok.exf b (by rw[hYx];exact hb)).1;exact this
  ·exact IY.ok.exfs b (by rw[hYx];exact hb)
  ·exact(IY.ok.exf b (by rw[hYx];exact hb)).2 x c e
  ·grind
 obtain⟨W,⟨m0,w0⟩,turn⟩:=hw D hD0;have stY:=T.keep 0 _ _ st fun b hb o e=>hk b o (old3 b o e)
 have back:∀{H':Hp} {s':Af} {σ':St},Inv Y [] σ' H' s'->Inv X pins σ H' s':=fun{H' s' σ'} IE=>by
  have hun:=IE.base;have hos:=IE.os;rw[<- hY] at hun hos;exact I3.call' hos hun (by have z:=IE.hok;rw[hYp,hYw] at z;exact z) IE.bare fun b hb=>⟨(hf b hb).2.2.2.1,(hf b hb).2.1,(hf b hb).2.2.2.2.1,(hf b hb).2.2.2.2.2⟩
 have gY:∀pins s σ H v u Q (E':Value->Af->Prop),Inv Y pins σ H s->RelV v u->g v σ H Q->wpAny (model X.prog X.w) X.A (assign target (Fg scope cl C X.env) u) (fun _ s'=>∃σ' H',Inv Y pins σ' H' s'/\Q σ' H') E' s:=fun pins s σ H v u Q E' IE r q=>by
  have z:=hgY pins s σ H v u Q IE r q;rw[hYp,hYw,hYA,hYe,hYxe] at z;exact Bu z (fun _ _ x=>x) fun _ _ f=>f.elim
 have tY:∀pins s σ H Q (E':Value->Af->Prop),Inv Y pins σ H s->tt σ H Q->wpAny (model X.prog X.w) X.A (forIn ifs true fun c r=>if r=true then do let ok<-isTrue c (Fg scope cl C X.env) (eval c (Fg scope cl C X.env));pure (ForInStep.yield ok) else pure (ForInStep.yield r)) (TP Y pins σ Q) E' s:=fun pins s σ H Q E' IE q=>by
  have z:=htY pins s σ H Q IE q;rw[hYp,hYw,hYA,hYe,hYxe] at z;exact Bu z (fun _ _ x=>x) fun _ _ f=>f.elim
 have eY:∀pins s σ H Q (E':Value->Af->Prop),Inv Y pins σ H s->tk σ H Q->wpAny (model X.prog X.w) X.A (eval kx (Fg scope cl C X.env)) (EP Y pins σ Q) E' s:=fun pins s σ H Q E' IE q=>by
  have z:=heY pins s σ H Q IE q;rw[hYp,hYw,hYA,hYe,hYxe] at z;exact Bu z (fun _ _ x=>x) fun _ _ f=>f.elim
 have vY:∀pins s σ H Q (E':Value->Af->Prop),Inv Y pins σ H s->tv σ H Q->wpAny (model X.prog X.w) X.A (eval vx (Fg scope cl C X.env)) (EP Y pins σ Q) E' s:=fun pins s σ H Q E' IE q=>by
  have z:=hvY pins s σ H Q IE q;rw[hYp,hYw,hYA,hYe,hYxe] at z;exact Bu z (fun _ _ x=>x) fun _ _ f=>f.elim
 have tiY:∀i pins s σ H (E':Value->Af->Prop),Inv Y pins σ H s->(∀b∈fp,FpOk Y pins H b)->tn i s.heap->J.go i H ->
   wpAny (model X.prog X.w) X.A (Im (.ref it)) (fun r s1=>∃u,r=some u /\
    wpAny (model X.prog X.w) X.A (Jr target (.ref it) u) (fun _ s2=>∃x H',Inv Y pins σ H' s2/\RelV x u/\J.yld i H x H'/\tn (i+1) s2.heap/\∀b∈fp,H' b=none) E' s1) E' s:=fun i pins s σ H E' IE hfy st go=>by
  have z:=T.item Y hYp hYw hYK hYc i pins s σ H E' IE hfy st go;rw[hYA] at z;exact z
 have tdY:∀i pins s σ H (E':Value->Af->Prop),Inv Y pins σ H s->(∀b∈fp,FpOk Y pins H b)->tn i s.heap->J.stop i H ->
   wpAny (model X.prog X.w) X.A (Im (.ref it)) (fun r s1=>r=none/\Inv Y pins σ H s1) E' s:=fun i pins s σ H E' IE hfy st go=>by
  have z:=T.done Y hYp hYw hYK hYc i pins s σ H E' IE hfy st go;rw[hYA] at z;exact z
 have loop:Fv (model X.prog X.w) X.A (.compLoop (.DictComp kx vx [⟨target,iter,ifs,0⟩] scope pos) 0 (.ref it) (.ref D) (Fg scope cl C X.env)) (RR (.ref D) C) { s₃ with heap:=h₁,toks:=s₂.toks }:=by
  refine codeAny_loop rfl (fun n s'=>∃i ys H',Inv Y [] (tg0 tg σ caps) H' s'/\tn i s'.heap/\(∀b∈fp,H' b=none)/\W i n ys H') ?_ m0 ⟨0,[],_,IY,stY,fun b hb=>(hf3 b hb).1,w0⟩;rintro n s4 ⟨i,ys,H4,I4,st4,fr4,w4⟩;refine wpAny_noted ?_;obtain⟨hHD,alt⟩:=turn i n ys H4 w4;rcases alt with⟨stop,fin⟩|⟨go,N,hN,step⟩
  ·refine Ab (Dm (Ab (thn (tdY i [] s4 _ H4 _ I4 (fpY fr4) st4 stop) fun r s5 ⟨hr,I5⟩=>?_)));subst hr;refine Ae (hRR D C ys H4 s5 hD0 (back I5) ?_ ⟨?_,FC.2⟩ fin)
   ·obtain⟨m,hm,_⟩:=I5.loc;rw[hYe] at hm;exact⟨m,hm⟩
   ·have z:=I5.free;rw[hYe] at z;exact z
  ·refine Ab (Dm (Ab (thn (tiY i [] s4 _ H4 _ I4 (fpY fr4) st4 go) fun r s5 ⟨u,hr,h5⟩=>?_)));subst hr;refine Ab (thn h5 fun _ s6 ⟨x,H6,I6,r6,y6,st6,fr6⟩=>?_);have I6':=I6.pinned (fpY fr6) (T.obj _ _ st6);refine Ab (thn (gY _ s6 _ H6 x u _ _ I6' r6 (step x H6 y6)) fun _ s7 ⟨σ7,H7,I7,kp,q7⟩=>?_);refine Ab (thn (tY _ s7 σ7 H7 _ _ I7 q7) fun b s8 ⟨H8,I8,q8⟩=>?_);have again:∀{H9:Hp} {s9:Af} {zs:List (List Key×V)} {m':Nat},Inv Y ([]++pinsAt fp s6.heap) σ7 H9 s9->m'<n->W (i+1) m' zs H9->∃m,m<n/\∃i ys H',Inv Y [] (tg0 tg σ caps) H' s9/\tn i s9.heap/\(∀b∈fp,H' b=none)/\W i m ys H':=fun{H9 s9 zs m'} I9 hm w9=>by
    refine⟨m',hm,i+1,zs,H9,I9.unpinned.weak kp.1 kp.2,T.keep _ _ _ st6 fun b hb o e=>(I9.pin (b,o) (Bq _ (Bq _ (q2h hb e)))).1,fun b hb=>?_,w9⟩;obtain⟨o,e,d⟩:=T.obj _ _ st6 b hb;exact(I9.pin (b,o) (Bq _ (Bq _ (q2h hb e)))).2.1
   cases b with
   |true =>
    refine Ab (Ab (thn (eY _ s8 σ7 H8 _ _ I8 q8) fun kv s9 ⟨yy,H9,I9,r9,q9⟩=>?_));refine Ab (Cc (thn (vY _ s9 σ7 H9 _ _ I9 q9) fun vv s10 ⟨v,H10,I10,r10,kk,bb,ey,hbb,hH10,hz10,n10⟩=>?_));subst ey;cases r9;obtain⟨m',hm',w10⟩:=hN _ _ n10;refine Ab (Dm (Cc ?_));have z:=d_set (E:=notedBy (model X.prog X.w) X.A (Fg scope cl C X.env) fun e s'=>RR (.ref D) C (.error e) s') (Q:=fun _ s'=>Inv Y ([]++pinsAt fp s6.heap) σ7 (upd H10 D (.dT (putK ys kk v))) s') hu I10 hH10 hbb hz10 r10 fun s' I' _=>I';rw[hYp,hYw] at z;exact thn z fun _ s11 I11=>Ae ⟨rfl,again I11 hm' w10⟩
   |false =>
    obtain⟨m',hm',w8⟩:=hN _ _ q8;exact Ae ⟨rfl,again I8 hm' w8⟩
 rw[o3];exact codeAny_compStart_dict loop (T.self _ 0 _ _ _ stY loop)
def tCompD(wi:TI)(g:TG)(tt:TT)(tk tv:TE)(tg:List Str)(caps:Caps):TE:=fun σ H Q=>wi σ H fun J H1=>∀D,H1 D=none->CompWD J g tt tk tv (tg0 tg σ caps) D (fun _ H'=>Q (.ref D) H') H1
section
variable{X:Cx}{iter target kx vx:Expr}{ifs:List Expr}{scope:Scope}{pos:Pos}{wi:TI}{g:TG}{tt:TT}{tk tv:TE}
theorem x1c(tg:List Str)(caps:Caps)(hc:X.calm=true)(hi:PI X target iter wi)(hg:∀cl C fp s H,PG (cxComp X (tg++caps.map (·.1)) scope cl C fp s H) target g)(ht:∀cl C fp s H,PIfs (cxComp X (tg++caps.map (·.1)) scope cl C fp s H) ifs tt)(he:∀cl C fp s H,PE (cxComp X (tg++caps.map (·.1)) scope cl C fp s H) kx tk)(hv:∀cl C fp s H,PE (cxComp X (tg++caps.map (·.1)) scope cl C fp s H) vx tv)(hu:X.A.units+1<cLine)(hk:compChk X.N X.env.scope scope caps=true:=by rfl)(hs:∀x,Ik iter X.env x=pure x:=by intro _;rfl):
  PE X (.DictComp kx vx [⟨target,iter,ifs,0⟩] scope pos) (tCompD wi g tt tk tv tg caps):=by
 intro pins s σ H Q I h;obtain⟨hkind,hnc,hnames,hfree,co⟩:=q4c hk;obtain⟨cl,hclos,hc1,hc2⟩:=q9k I hfree;refine Ho rfl hs hclos hkind hnames (thn (hi pins s σ H _ I h) fun v s1 h1=>thn h1 fun itv s2 h2=>?_);obtain⟨it,fp,tn,J,H2,e,I2,T,st2,f2,hw⟩:=h2;subst e;refine z1k hc hkind hnc hc1 hc2 co (fun C s H=>hg cl C fp s H) (fun C s H=>ht cl C fp s H) (fun C s H=>he cl C fp s H) (fun C s H=>hv cl C fp s H) hu I2 T st2 f2 hw ?_;intro D C ys H' s' hD I' hm F fin;obtain⟨m,hm⟩:=hm;refine⟨m,hm,fun h' hsb=>⟨.ref D,H',I'.turned (t':=s'.toks) (fun b o hb e=>(hsb.2 b hb).trans e) F.1 F.2.1 F.2.2.2.1 F.2.2.2.2.1 F.2.2.2.2.2,rfl,fin⟩⟩
def tSetDC(wi:TI)(g:TG)(tt:TT)(tk tv:TE)(tg:List Str)(caps:Caps)(i:Nat):TS:=fun D' σ H=>wi σ H fun J H1=>∀D,H1 D=none->CompWD J g tt tk tv (tg0 tg σ caps) D (fun _ H'=>D'.nx (σ.set i (some (.ref D))) H') H1
theorem x1d{i:Nat}{y:Str}{py spos:Pos}(tg:List Str)(caps:Caps)(hN:X.N.Nodup)(hiN:X.N[i]?=some y)(hx:Loc X.env.scope y)(hc:X.calm=true)(hi:PI X target iter wi)(hg:∀cl C fp s H,PG (cxComp X (tg++caps.map (·.1)) scope cl C fp s H) target g)(ht:∀cl C fp s H,PIfs (cxComp X (tg++caps.map (·.1)) scope cl C fp s H) ifs tt)(he:∀cl C fp s H,PE (cxComp X (tg++caps.map (·.1)) scope cl C fp s H) kx tk)(hv:∀cl C fp s H,PE (cxComp X (tg++caps.map (·.1)) scope cl C fp s H) vx tv)(hu:X.A.units+1<cLine)(hk:compChk X.N X.env.scope scope caps=true:=by rfl)(hs:∀x,Ik iter X.env x=pure x:=by intro _;rfl)(hsw:Lp (.DictComp kx vx [⟨target,iter,ifs,0⟩] scope pos) (some (.Name y py)) spos.line X.env=pure true:=by rfl)(hf:X.fn y=true\/X.env.scope.names.lookup y=some .local:=by first|exact .inl rfl|exact .inr rfl|assumption):
  PS X (.Assign [.Name y py] (.DictComp kx vx [⟨target,iter,ifs,0⟩] scope pos) spos) (tSetDC wi g tt tk tv tg caps i):=by
 intro pins s σ H D' I h;obtain⟨hkind,hnc,hnames,hfree,co⟩:=q4c hk;obtain⟨cl,hclos,hc1,hc2⟩:=q9k I hfree;rw[Qc _ _ _ _ hsw];refine Ab (Dm (Ab ?_));refine Ab (Bu (Ho (use:=some (assign (.Name y py) X.env)) rfl hs hclos hkind hnames
  (thn (hi pins s σ H _ I h) fun v s1 h1=>thn h1 fun itv s2 h2=>?_)) (fun _ s' hq=>Ae (Ae hq)) fun _ _ e=>e)
 obtain⟨it,fp,tn,J,H2,e,I2,T,st2,f2,hw⟩:=h2;subst e;refine z1k (RR:=fun acc C=>compPost (model X.prog X.w) X.A X.xe (some (assign (.Name y py) X.env)) (fun _ s'=>SP X pins D' .next s') acc C) (Fin:=fun D _ H'=>D'.nx (σ.set i (some (.ref D))) H') hc hkind hnc hc1 hc2 co (fun C s H=>hg cl C fp s H) (fun C s H=>ht cl C fp s H) (fun C s H=>he cl C fp s H) (fun C s H=>hv cl C fp s H) hu I2 T st2 f2 hw ?_;intro D C ys H' s' hD I' hm F fin;obtain⟨m,hm⟩:=hm;refine Nt (q6u (v:=.ref D) I' hN hiN hx rfl (fun s'' I'' hsb=>?_) hf);obtain⟨a,sb,ha⟩:=hsb;have hCa:C≠a:=by
  rcases ha with ha|ha
  ·rw[ha];exact F.2.1
  ·exact fun z=>F.2.2.2.2.1 y a ha z.symm
 refine⟨m,hm.sameBut sb hCa,fun h' hs'=>?_⟩;exact⟨_,H',I''.turned (t':=s''.toks) (fun b o hb e=>(hs'.2 b hb).trans e) F.1 F.2.1 F.2.2.2.1 F.2.2.2.2.1 F.2.2.2.2.2,fin⟩
end
theorem z3w{Fin:List (List Key×V)->Hp->Prop}(Pv:Nat->List (List Key×V)->Hp->Prop)(h0:Pv 0 [] (upd H1 D (.dT [])))(hl:∀i ys H,Pv i ys H->H D=some (.dT ys))(hgo:∀i ys H,i<n->Pv i ys H->J.go i H)(hstop:∀ys H,Pv n ys H->J.stop n H)(hs:∀i ys H x H',i<n->Pv i ys H->J.yld i H x H'->g x σ0 H' fun σ2 H2=>Keeps0 σ0 σ2/\tt σ2 H2 fun b H3 =>
   if b=true then tk σ2 H3 fun y H4=>tv σ2 H4 fun v H5=>∃k c,y=.ref c/\H5 c=some (.tup (k.map kV))/\H5 D=some (.dT ys)/\ys.length<sizeLine/\Pv (i+1) (putK ys k v) (upd H5 D (.dT (putK ys k v))) else Pv (i+1) ys H3)(hd:∀ys H,Pv n ys H->Fin ys H):CompWD J g tt tk tv σ0 D Fin H1:=by
 refine⟨fun i m ys H=>m=n-i/\i<=n/\Pv i ys H,⟨n,by simp,Br _,h0⟩,?_⟩;rintro i m ys H ⟨rfl,hi,p⟩;refine⟨hl i ys H p,?_⟩;by_cases hlt:i<n
 ·exact .inr ⟨hgo i ys H hlt p,Pv (i+1),fun zs H' q=>⟨n-(i+1),by lia,rfl,hlt,q⟩,fun x H' y=>hs i ys H x H' hlt p y⟩
 ·have e:i=n:=by lia
  subst e;exact .inl ⟨hstop ys H p,hd ys H p⟩
theorem z5l{K:Ah}{Fin:List (List Key×V)->Hp->Prop}(Pv:Nat->List (List Key×V)->Hp->Prop)(h0:Pv 0 [] (upd H1 D (.dT [])))(hl:∀i ys H,Pv i ys H->H D=some (.dT ys)/\SqL K H a xs)(hs:∀i ys H x,xs[i]?=some x->Pv i ys H->g x σ0 H fun σ2 H2=>Keeps0 σ0 σ2/\tt σ2 H2 fun b H3 =>
   if b=true then tk σ2 H3 fun y H4=>tv σ2 H4 fun v H5=>∃k c,y=.ref c/\H5 c=some (.tup (k.map kV))/\H5 D=some (.dT ys)/\ys.length<sizeLine/\Pv (i+1) (putK ys k v) (upd H5 D (.dT (putK ys k v))) else Pv (i+1) ys H3)(hd:∀ys H,Pv xs.length ys H->Fin ys H):CompWD (Itl K a) g tt tk tv σ0 D Fin H1 :=
 z3w Pv h0 (fun i ys H p=>(hl i ys H p).1) (fun i ys H h p=>⟨xs,xs[i],(hl i ys H p).2,by simp[h]⟩) (fun ys H p=>⟨xs,(hl _ ys H p).2,Aj _⟩)
  (fun i ys H x H' h p y=>by obtain⟨e,y⟩:=y;subst e;exact hs i ys _ x (y xs (hl i ys _ p).2) p) hd
end L2
namespace PySem.Rv
open Sem (wp)
section
variable{prog:Program}{w:World}{A:Around}{E:Value->Af->Prop}{s:Af}
theorem q8f:Mc (.type "list") "keys" = pure none:=by rw[Jt,Gi];kernel_rfl
theorem no_keys(hx:s.heap.get? a=some { cls:=.type "list",dict:=none,data:=.seq xs k,slots:=#[] })(hA:A.handled=none)(h:∀h' tk,(∀b o,s.heap.get? b=some o->h'.get? b=some o)->Q none { s with heap:=h',toks:=tk }):wpAny (model prog w) A (getAttr? (.ref a) "keys") Q E s:=by
 obtain⟨hp,g,d,tk,os⟩:=s;have hT:∀tk',(⟨hp,g,d,tk',os⟩:Af).TypeIs (.ref a) "list" := fun _=>⟨_,hx,rfl⟩
 have f1:=sub_AttributeError;have f3:=Kh.lookup;have f4:=Kh.bind (.ref a);have f5:=am_list_getattr_none;repeat (any_goals (first|assumption|exact hT _|((with_reducible show wpAny _ _ (call (Value.builtin "list.__getattribute__") _ _) _ _ _);refine Gz Kh (hT _) am_entry_list_getattribute (F.args_list_getattribute_2 _ _) (meets_getattribute_miss_list a xs k #[] "keys" _ q8f (by decide +kernel) (by decide +kernel)) ⟨hx,hA,fun h' tk' e hx'=>?_⟩)|wp_step))
 obtain⟨t',u',he⟩:=hx'.there;show wpAny _ _ (getattributeRaised _ _ _ _ _ _ _) _ _ _;repeat (any_goals (first|assumption|wp_step))
 exact h _ _ hx'.keeps
end
theorem plain_upd:plainId "dict.update.loop" = true:=by decide +kernel
theorem entry_upd:Ot table "dict.update.loop" = some Dp.«dict.update.loop» := entryFor_of_fast (by kernel_rfl)
end PySem.Rv
namespace L2
open PySem PySem.Spec PyProof.Rows SB TX
def putR(acc:List (List Key×V))(r:HRow):List (List Key×V):=putK acc (kP r.1) r.2
theorem z3x:∀(rows:List HRow) (acc:List (List Key×V)),(rows.foldl putR acc).length<=acc.length+rows.length
 |[],acc=>Aj _
 |r::rows,acc=>by
  have h1:=z3x rows (putR acc r);have h2:=q2i acc (kP r.1) r.2;rw[Uc,Bm];unfold putR at h1 ⊢;lia
section
variable{X:Cx}{pins:List (Addr×Obj)}{σ:St}
theorem z2u(I:Inv X pins σ H s)(h:H L=some (.lst xs)):∃its,Vals xs its/\s.heap.IsList L its.toArray:=by
 obtain⟨z,its,n,r,e⟩:=I.hok L _ h;exact⟨its,r,_,e,rfl,n,rfl⟩
theorem z7u(hh:A.handled=none)(hu:A.units+3<cLine)(few:rows.length<sizeLine):∀(k i:Nat) (H:Hp) (s:Af),rows.length-i=k->i<=rows.length->Inv X pins σ H s->H L=some (.lst (as.map V.ref))->PRs H as rows ->
  H D=some (.dT ((rows.take i).foldl putR []))->s.heap.IsListIter it L i->FpOk X pins H it->(∀H' s',Inv X pins σ H' s'->H' D=some (.dT (rows.foldl putR []))->(∀b,b≠D->H' b=H b)->R (.ok (.ret .none)) s') ->
  Fv (model X.prog X.w) A (.builtin "dict.update.loop" ⟨[.ref D,.ref it,Di i,.none],[]⟩) R s:=by
 intro k;induction k with
 |zero =>
  intro i H s hk hi I hL hp hD hit hf hR;have ei:i=rows.length:=by lia
  subst ei;rw[Bi] at hD;obtain⟨its,rv,hl⟩:=z2u I hL;have hlen:its.length=rows.length:=by rw[<- rv.length,Ac];exact Es hp
  refine Gj PySem.Rv.entry_upd ?_;rw[Fi PySem.Rv.plain_upd _];refine Ab (Pz hh hit hl (by simp[hlen]) fun h' eb=>?_);exact Ab (Ae (Ae (hR H _ (I.turned (t':=s.toks) (fun b o hb e=>eb b o hb e) hf.1 hf.2.1 hf.2.2.2.1 hf.2.2.2.2.1 hf.2.2.2.2.2) hD fun _ _=>rfl)))
 |succ k ih =>
  intro i H s hk hi I hL hp hD hit hf hR;obtain⟨its,rv,hl⟩:=z2u I hL;have hil:i<rows.length:=by lia
  obtain⟨a,ha⟩:∃a,as[i]?=some a:=⟨as[i]'(by rw[Es hp];exact hil),by simp[Es hp,hil]⟩
  obtain⟨r,hr,b,hpa,hpb⟩:=Cz.at' hp ha;obtain⟨u,hu1,hu2⟩:=rv.get (by rw[Aq,ha];rfl);cases hu2;refine Gj PySem.Rv.entry_upd ?_;rw[Fi PySem.Rv.plain_upd _];refine Ab (Ph hit hl (by simpa using hu1) fun h' hit' sb=>?_);have I1:Inv X pins σ H { s with heap:=h' }:=I.turned (t':=s.toks) (fun b o hb e=>(sb.2 b hb).trans e) hf.1 hf.2.1 hf.2.2.2.1 hf.2.2.2.2.1 hf.2.2.2.2.2;obtain⟨z,pits,pr,o,po,pc,pn,pd⟩:=I1.hok a _ hpa;obtain⟨u1,u2,e12,r1,r2⟩:=pr.two;subst e12;cases r1;refine Ab (Cc ?_);refine Ab (wpAny_tryCatch ?_);refine Ab (Hn ⟨o,po,pc⟩ ?_);refine Ab (wpAny_seqItems po pd (Ae ?_));have elen:((rows.take i).foldl putR []).length<sizeLine:=by
   have h1:=z3x (rows.take i) [];rw[Bf] at h1;have h2:([]:List (List Key×V)).length=0:=rfl;lia
  refine Cc (d_set (by show A.units+1+1<cLine;lia) I1 hD (by rw[q3i];exact hpb) elen r2 fun s' I' kp=>?_);refine Ae ⟨Jj PySem.Rv.plain_upd _,?_⟩;have hLD:L≠D:=fun z=>by rw[z,hD] at hL;cases hL
  have hitD:it≠D:=fun z=>by have y:=hf.1;rw[z,hD] at y;cases y
  have hnt:∀{T:Addr} {xs:List V},H T=some (.tup xs)->T≠D:=fun{T xs} e z=>by rw[z,hD] at e;cases e
  have et:(rows.take (i+1)).foldl putR []=putK ((rows.take i).foldl putR []) (kP r.1) r.2:=by
   rw[Mx,hr];rw[List.foldl_append];rfl
  have hit2:=hit'.at fun o e=>kp _ _ hitD e;refine ih (i+1) _ s' (by lia) hil I' (by rw[q0e hLD];exact hL) (Cz.imp' (fun a r ⟨b,h1,h2⟩=>⟨b,by rw[q0e (hnt h1)];exact h1,by rw[q0e (hnt h2)];exact h2⟩) hp) (by rw[q0b,et]) hit2 ⟨by rw[q0e hitD];exact hf.1,hf.2⟩ fun H' s'' J j1 j2=>?_;exact hR H' s'' J j1 fun b hb=>by rw[j2 b hb,q0e hb]
end
def rDictL:List V->Hp->VK->Prop:=fun vs H Q=>∃L as rows,vs=[.ref L]/\H L=some (.lst (as.map V.ref))/\PRs H as rows/\rows.length<1000/\∀D,H D=none->Q (.ref D) (upd H D (.dT (rows.foldl putR [])))
theorem z5m(hr:Room k X.A):CallR X (.type "dict") rDictL:=by
 intro pins s σ H xs us Q I rv h;obtain⟨L,as,rows,rfl,hL,hp,few,q⟩:=h;obtain⟨u,rfl,ru⟩:=rv.one;cases ru;have hu:=hr.un;have hh:=hr.hd;refine callType_codes (Q₁:=fun obj s₁=>obj=.ref s.heap.objs.size/\s₁={ s with heap:=s.heap.push { cls:=.type "dict",data:=.dict #[] } }) F.kt_called_dict (F.kt_typeCall_dict_1 _) F.entry_dict_init (kt_code_dict_new _ ⟨rfl,rfl⟩) fun obj s₁ h₁=>?_;obtain⟨rfl,rfl⟩:=h₁;have hDf:=I.fresh;have I1:Inv X pins σ (upd H s.heap.objs.size (.dT [])) { s with heap:=s.heap.push { cls:=.type "dict",data:=.dict #[] } }:=I.laid (t':=s.toks) (fun _ _ e=>Ag _ e) (Aj _) (q9o s.heap I.big);have hD1:(s.heap.push { cls:=.type "dict",data:=.dict #[] }).get? s.heap.objs.size=some { cls:=.type "dict",data:=.dict #[] }:=Ar _ rfl;have hLD:=q0n hL hDf;have hL1:upd H s.heap.objs.size (.dT []) L=some (.lst (as.map V.ref)):=by rw[q0e hLD];exact hL
 have sm:=(Same.refl H).new (o:=.dT []) hDf;have hp1:PRs (upd H s.heap.objs.size (.dT [])) as rows:=Cz.imp' (fun a r ⟨b,h1,h2⟩=>⟨b,sm _ _ h1,sm _ _ h2⟩) hp;obtain⟨z,its,n,r1,e1⟩:=I1.hok L _ hL1;refine⟨⟨_,hD1,rfl⟩,F.args_dict_init_2 _ _,?_⟩;refine Ab ?_;unfold Dp.Dict.selfAndRest;refine Ab (Ls ⟨_,hD1,rfl⟩ ?_);show wpAny _ _ (pure (s.heap.objs.size,[Value.ref L])) _ _ _;refine Ae ?_;refine Ab (Hn ⟨_,e1,rfl⟩ ?_);refine Ab (PySem.Rv.no_keys e1 hh fun h' tk kp=>?_);have I2:=I1.kept (t':=tk) kp;refine Ab (Je ?_);have e2:=kp _ _ e1;refine Ab (Nw ⟨_,e2,rfl,n,rfl⟩ ?_);have hsz:=Am (kp _ _ hD1);have I3:Inv X pins σ (upd H s.heap.objs.size (.dT [])) { s with heap:=h'.push { cls:=.type "list_iterator",data:=.fields #[.ref L,.int 0 0] },toks:=tk }:=I2.kept (t':=tk) fun _ _ e=>Ag _ e;refine Ae ⟨Jj PySem.Rv.plain_upd _,?_⟩;refine z7u (A:=X.A.in1) hh (by show X.A.units+1+3<cLine;lia) (TX.small' (by lia)) rows.length 0 _ _ (by lia) (Br _) I3 hL1 hp1 q0b ⟨_,Ar _ rfl,rfl,rfl⟩ ?_ fun H' s' J j1 j2=>?_
 ·exact I2.fpOk (Aj _) (by rw[q0e (Fb hsz)];exact I.hok.fresh (Hh hsz))
 ·have eH:H'=upd H s.heap.objs.size (.dT (rows.foldl putR [])):=by
   funext b;by_cases hb:b=s.heap.objs.size
   ·rw[hb,j1,q0b]
   ·rw[j2 b hb,q0e hb,q0e hb]
  rw[eH] at J;exact⟨rfl,.ref s.heap.objs.size,_,J,rfl,q _ hDf⟩
open PySem PySem.Spec PyProof.Rows
structure Mf (K:Ah) (C:Addr) (m qual:Str) (st:Stmt) (ps:List Str):Prop where
 ex:∃f fd,Fun K m qual st f fd/\Meth K C m f/\Binds K fd ps []
structure MCal (P:Program) (w:World) (K:Ah) (mg:Str->Option Value) (base:Heap) (C:Addr) (m:Str) (k:Nat) (ps:List Str) (sp:Sp):Prop where
 ex:∃f fd,FnOk P w K mg base CX0 k f fd ps sp/\Meth K C m f/\Binds K fd ps []
 cl:Cls K C
theorem Mf.cal{K:Ah}{st:Stmt}(D:Mf K C m qual st ps)(cl:Cls K C)(S:FnScope N ps (defScope st))(len:∀vs H Q E,sp vs H Q E->vs.length=ps.length)(hbody:∀(f:Addr) (cdv:Value) (A:Around) (outer:List Env) (s:Af) (H:Hp) (vs:List V) (Q:VK) (E:XK),Room k (A.deeper (Gu qual (defScope st) s.heap.objs.size f cdv))->sp vs H Q E ->
   ∃t,PSs (cxOf CX0 P w K mg base N qual (defScope st) f cdv A outer s H E).nox (defBody st) t/\t { nx:=fun _ H'=>Q .non H',rt:=Q } (start N vs) H):MCal P w K mg base C m (k+1) ps sp:=by
 obtain⟨f,fd,F,hm,hb⟩:=D.ex;exact⟨⟨f,fd,F.ok S len fun cdv A outer s H vs Q E hr h=>hbody f cdv A outer s H vs Q E hr h,hm,hb⟩,cl⟩
theorem MCal.imp{K:Ah}(M:MCal P w K mg base C m k ps sp)(h:∀vs H Q E,sp' vs H Q E->sp vs H Q E):MCal P w K mg base C m k ps sp':=by
 obtain⟨f,fd,F,r⟩:=M.ex;exact⟨⟨f,fd,F.imp h,r⟩,M.cl⟩
section
variable{X:Cx}{C:Addr}{x m:Str}{k j:Nat}{ps:List Str}{sp:Sp}{p pos apos:Pos}{o e:Expr}{es:List Expr}{ta:TE}{t:TA}
theorem pe_m{pl:Sem Bool}(M:MCal X.prog X.w X.K X.mg X.base C m k ps sp)(hr:Room j X.A)(he:PE X o ta)(ha:PA X (e::es) t)(hjk:k<=j:=by decide)(hst:Be (e::es) X.env=(false,eval e X.env)::Be es X.env:=by rfl)(hpl:(Eh pos (Be es X.env)).any (·.1)=false:=by rfl)(ht:eval (.Call (.Attribute o m apos) (e::es) [] pos) X.env=(do
   let ov<-eval o X.env
   Oc apos.atName
   let (f,first)<-Lq [ov] (Nb ov m pl)
   Te pos f first (Eh pos (Be (e::es) X.env)) (Mu pos (Jl [] X.env))):=by rfl):PE X (.Call (.Attribute o m apos) (e::es) [] pos) (tMeth C m sp [] E0 ta t):=by
 obtain⟨f,fd,F,hm,hb⟩:=M.ex;exact x3j he M.cl hm F (hr.mono hjk) hb .nil pass0 ha hst hpl ht
theorem q4s{pl:Sem Bool}(M:MCal X.prog X.w X.K X.mg X.base C m k ps sp)(hr:Room j X.A)(he:PE X o ta)(hjk:k<=j:=by decide)(ht:eval (.Call (.Attribute o m apos) [] [] pos) X.env=(do
   let ov<-eval o X.env
   Oc apos.atName
   let (f,first)<-Lq [ov] (Nb ov m pl)
   Te pos f first (Eh pos (Be [] X.env)) (Mu pos (Jl [] X.env))):=by rfl):PE X (.Call (.Attribute o m apos) [] [] pos) (tMeth C m sp [] E0 ta tNil):=by
 obtain⟨f,fd,F,hm,hb⟩:=M.ex;exact x0h he M.cl hm F (hr.mono hjk) hb .nil pass0 ht
end
structure Kf (K:Ah) (mg:Str->Option Value) (C:Addr) (x qual:Str) (st:Stmt) (ps:List Str):Prop where
 ex:∃(f:Addr) (fd:Ja) (oc:Value) (od:Option Addr) (dV kV doc pm:Value) (an:Option Addr) (cdv ct:Value) (osl:Array (Option Value)),fd=Hm "__init__" qual (defArgs st) (defBody st) (defScope st) dV kV doc pm an cdv ct /\
  K.lookup f=some ⟨oc,od,.func fd,osl⟩/\Jb K cdv qual=true/\Mk K C f/\Binds K fd ps []/\Binds K fd ps [.bool false]
 at_:mg x=some (.ref C)
 cl:Cls K C
structure KCal (P:Program) (w:World) (K:Ah) (mg:Str->Option Value) (base:Heap) (C:Addr) (x:Str) (k:Nat) (ps:List Str) (sp:Sp):Prop where
 ex:∃f fd,FnOk P w K mg base CX0 k f fd ps sp/\Mk K C f/\Binds K fd ps []/\Binds K fd ps [.bool false]
 at_:mg x=some (.ref C)
 cl:Cls K C
theorem Kf.cal{K:Ah}{st:Stmt}(D:Kf K mg C x qual st ps)(S:FnScope N ps (defScope st))(len:∀vs H Q E,sp vs H Q E->vs.length=ps.length)(hbody:∀(f:Addr) (cdv:Value) (A:Around) (outer:List Env) (s:Af) (H:Hp) (vs:List V) (Q:VK) (E:XK),Room k (A.deeper (Gu qual (defScope st) s.heap.objs.size f cdv))->sp vs H Q E ->
   ∃t,PSs (cxOf CX0 P w K mg base N qual (defScope st) f cdv A outer s H E).nox (defBody st) t/\t { nx:=fun _ H'=>Q .non H',rt:=Q } (start N vs) H):KCal P w K mg base C x (k+1) ps sp:=by
 obtain⟨f,fd,oc,od,dV,kV,doc,pm,an,cdv,ct,osl,rfl,lk,hcd,M,b1,b2⟩:=D.ex;refine⟨⟨f,_,z6p lk hcd S len fun A outer s H vs Q E hr hsp=>?_,M,b1,b2⟩,D.at_,D.cl⟩;obtain⟨t,h,q⟩:=hbody f cdv A outer s H vs Q E hr hsp;exact⟨t,h.nox,q⟩
section
variable{X:Cx}{C:Addr}{x:Str}{k j:Nat}{ps:List Str}{sp:Sp}{p pos:Pos}{e:Expr}{es:List Expr}{t:TA}
theorem pe_k(M:KCal X.prog X.w X.K X.mg X.base C x k ps sp)(hr:Room j X.A)(ha:PA X (e::es) t)(hjk:k+1<=j:=by decide)(hg:Gl X x:=by rfl)(hdb:(x==("__debug__" : Str))=false:=by decide)(he:Be (e::es) X.env=(false,eval e X.env)::Be es X.env:=by rfl)(hpl:(Eh pos (Be es X.env)).any (·.1)=false:=by rfl):PE X (.Call (.Name x p) (e::es) [] pos) (tMake C sp [] E0 t):=by
 obtain⟨f,fd,F,m,b1,_⟩:=M.ex;exact z6n m F (hr.mono hjk) hg M.at_ b1 .nil pass0 ha hdb he hpl
end
theorem z1l{K:Og}{g:TG}{tb:TS}{D:Ends}(Pv:Nat->St->Hp->Prop)(h0:Pv 0 σ H)(hl:∀i σ H,Pv i σ H->SqL K H a xs)(hs:∀i x T σ H,xs[i]?=some x->Pv i σ H->H T=none->g (.ref T) σ (upd H T (.tup [.int i,x])) fun σ2 H2=>tb { D with nx:=Pv (i+1),ct:=Pv (i+1),bk:=D.nx } σ2 H2)(hd:∀σ H,Pv xs.length σ H->D.nx σ H):
  ∃W:Nat->Nat->St->Hp->Prop,(∃m,W 0 m σ H)/\∀i m σ H,W i m σ H ->
   ((Ite (Itl K a)).stop i H/\D.nx σ H)\/((Ite (Itl K a)).go i H/\∃N:St->Hp->Prop,(∀σ' H',N σ' H'->∃m',m'<m/\W (i+1) m' σ' H')/\∀v H',(Ite (Itl K a)).yld i H v H'->g v σ H' fun σ2 H2=>tb { D with nx:=N,ct:=N,bk:=D.nx } σ2 H2):=by
 refine x2j Pv h0 (fun i σ H h p=>⟨xs,xs[i],hl i σ H p,by simp[h]⟩) (fun σ H p=>⟨xs,hl _ σ H p,Aj _⟩) (fun i v σ H H' h p yl=>?_) hd;obtain⟨T,y,hT,⟨_,hy⟩,rfl,rfl⟩:=yl;exact hs i y T σ H (hy xs (hl i σ H p)) p hT
open PySem PySem.Spec PyProof.Rows
def rCatP:R2:=fun x y H Q=>∃a b xs ys,x=.ref a/\y=.ref b/\H a=some (.tup xs)/\H b=some (.tup ys)/\xs.length+ys.length<=sizeLine/\∀p H',Same H H'->H' p=some (.tup (xs++ys))->(∀c,c≠p->H' c=H c)->Q (.ref p) H'
theorem q5s:OpR X (Fe .Add) rCatP:=by
 intro pins s σ H x y v u Q I rx ry h;obtain⟨a,b,xs,ys,rfl,rfl,ha,hb,hz,q⟩:=h;cases rx;cases ry;obtain⟨za,its,r1,p1⟩:=I.hok a _ ha;obtain⟨zb,its2,r2,p2⟩:=I.hok b _ hb;by_cases hx:its=[]
 ·have hx':xs=[]:=r1.nil_iff.mp hx;obtain⟨⟨cls,dd,data,sl⟩,ho,hc,n,hd⟩:=id p1;obtain⟨⟨cls2,dd2,data2,sl2⟩,ho2,hc2,n2,hd2⟩:=id p2;subst hc hd hc2 hd2;refine Rz ⟨_,ho,rfl⟩ ⟨_,ho2,rfl⟩ Ol Qy La Kr (Jy _ _) (tuple_addW0 a b its.toArray its2.toArray n n2 dd dd2 sl sl2 (by simp[hx])) ⟨ho,ho2,?_⟩;exact⟨.ref b,H,I,rfl,q b H (Same.refl H) (by rw[hx',List.nil_append];exact hb) fun _ _=>rfl⟩
 ·refine HT.cat_tup p1 p2 hx (fun z=>?_) (fun z=>?_) (by rw[<- r1.length,<- r2.length];exact hz)
  ·have hy:ys=[]:=r2.nil_iff.mp z;exact⟨.ref a,H,I,rfl,q a H (Same.refl H) (by rw[hy,Bt];exact ha) fun _ _=>rfl⟩
  ·refine⟨.ref s.heap.objs.size,_,I.laid (t':=s.toks) (fun b ob q=>Ag _ q) (Aj _) ?_,rfl,q _ _ ((Same.refl H).new I.fresh) q0b fun c hc=>q0e hc⟩;exact⟨by rw[Ai];exact hz,_,r1.append r2,Um _ _⟩
theorem q2s{X:Cx}{e:Expr}{f:Str}{pos:Pos}{ta:TE}(K:Ah)(hK:X.K=K)(he:PE X e ta)(hb:Fo e f X.env (eval e X.env)=eval e X.env:=by rfl):PE X (.Attribute e f pos) (tFld K ta f):=by subst hK;exact pe_fld he hb
theorem q6h{X:Cx}{o value:Expr}{f:Str}{pos pos':Pos}{ta tv:TE}(K:Ah)(hK:X.K=K)(ha:PE X o ta)(hv:PE X value tv)(hs:Lp value (some (.Attribute o f pos')) pos.line X.env=pure false:=by rfl):PS X (.Assign [.Attribute o f pos'] value pos) (sFld K ta tv f):=by subst hK;exact ps_fld ha hv hs
end L2
namespace HM
open PySem PySem.Spec PyProof.Rows L2 TX SB
def NSs:Str:=Ad "abcdefghijklmnopqrstuvwxyzABCDEFGHIJKLMNOPQRSTUVWXYZ0123456789-_."
abbrev NS:List Nat:=tl NSs
theorem x2q:∀c∈NS,c<128:=by decide +kernel
structure okN (n:List Nat):Prop where
 one:1<=n.length
 few:n.length<=12
 all:∀c∈n,c∈NS
theorem okN.low(h:okN n):∀c∈n,c<128:=fun c hc=>x2q c (h.all c hc)
structure okP (p:Pth):Prop where
 ne:p≠[]
 few:p.length<=6
 all:∀n∈p,okN n
theorem okP.low(h:okP p):Low p:=fun n hn=>(h.all n hn).low
abbrev Rw:=Pth×Option Int
def mV:Option Int->V
 |none=>.non
 |some i=>.int i
def rR(r:Rw):HRow:=(r.1,mV r.2)
theorem mV_inj(h:mV a=mV b):a=b:=by
 cases a with
 |none=>cases b with
  |none=>rfl
  |some j=>cases h
 |some i=>cases b with
  |none=>cases h
  |some j=>cases h;rfl
theorem mV_none:mV a=.non↔a=none:=⟨fun h=>mV_inj (b:=none) h,fun h=>by rw[h];rfl⟩
def lowN(n:List Nat):List Nat:=n.map lo1
def fold(bl:Bool)(p:Pth):Pth:=if bl then p.dropLast++[lowN (p.getLastD [])] else p
theorem x2r(p:Pth):fold false p=p:=rfl
theorem q7s(p:Pth):fold true p=p.dropLast++[lowN (p.getLastD [])]:=rfl
theorem q9q{p:Pth}(h:p≠[]):p=p.dropLast++[p.getLastD []]:=by
 have e:=List.dropLast_concat_getLast h;have e2:p.getLastD []=p.getLast h:=by rw[Ez,Ft h];rfl
 rw[e2];exact e.symm
theorem z7v{p q:Pth}(hp:p≠[])(hq:q≠[]):fold bl p=fold bl q↔p.dropLast=q.dropLast/\(if bl then lowN (p.getLastD [])=lowN (q.getLastD []) else p.getLastD []=q.getLastD []):=by
 cases bl with
 |true =>
  rw[q7s,q7s];constructor
  ·simp_all
  ·simp_all
 |false =>
  rw[x2r,x2r];constructor
  ·grind
  ·rintro⟨h1,h2⟩;rw[q9q hp,q9q hq,h1,h2]
structure Hl (bl:Bool) (rows:List Rw):Prop where
 ok:∀r∈rows,okP r.1
 nd:(rows.map fun r=>fold bl r.1).Nodup
 dr:∀r∈rows,r.1.dropLast=[]\/(r.1.dropLast,none)∈rows
theorem Hl.perm(h:Hl bl rows)(p:rows'.Perm rows):Hl bl rows' :=
 ⟨fun r hr=>h.ok r (p.mem_iff.mp hr),(p.map _).nodup_iff.mpr h.nd,fun r hr=>(h.dr r (p.mem_iff.mp hr)).imp id fun z=>p.mem_iff.mpr z⟩
theorem Hl.nil(bl:Bool):Hl bl []:=⟨(fun _ h=>nomatch h),.nil,(fun _ h=>nomatch h)⟩
theorem q3j{α β:Type}{f:α->β}:∀{l:List α},(l.map f).Nodup->l.Nodup
 |[],_=>.nil
 |a::l,h=>by
  rw[Ap,Dd] at h;exact Dd.mpr ⟨fun z=>h.1 (Al.mpr ⟨a,z,rfl⟩),q3j h.2⟩
theorem Hl.paths(h:Hl bl rows):(rows.map (·.1)).Nodup:=by
 have e:rows.map (fun r=>fold bl r.1)=(rows.map (·.1)).map (fold bl):=by simp_all
 have:=h.nd;rw[e] at this;exact q3j this
abbrev Zr:=Addr×Rw
structure RL (H:Hp) (L:Addr) (zs:List Zr):Prop where
 at_:H L=some (.lst (zs.map fun z=>V.ref z.1))
 pr:∀z∈zs,PR H z.1 (rR z.2)
theorem PR.same(h:PR H a r)(k:∀T xs,H T=some (.tup xs)->H' T=some (.tup xs)):PR H' a r:=let ⟨b,h1,h2⟩:=h;⟨b,k _ _ h1,k _ _ h2⟩
theorem RL.same(h:RL H L zs)(s:Same H H'):RL H' L zs:=⟨s _ _ h.at_,fun z hz=>PR.same (h.pr z hz) fun T xs e=>s _ _ e⟩
theorem tupFd(F:FeedAt H a b)(fd:Fd a b H H'):∀T xs,H T=some (.tup xs)->H' T=some (.tup xs):=fun T xs e=>fd.at e fun z=>by
 subst z;obtain⟨i,j,q⟩:=F.fa;rw[q] at e;cases e
theorem RL.fd(h:RL H L zs)(F:FeedAt H a b)(fd:Fd a b H H')(hL:L≠a):RL H' L zs:=⟨fd.at h.at_ hL,fun z hz=>PR.same (h.pr z hz) (tupFd F fd)⟩
theorem prs_zs{zs:List Zr}(h:∀z∈zs,PR H z.1 (rR z.2)):PRs H (zs.map (·.1)) (zs.map fun z=>rR z.2):=z7t h
theorem zs_of:∀{as:List Addr} {rs:List HRow} {rows:List Rw},PRs H as rs->rs=rows.map rR->∃zs:List Zr,zs.map (·.1)=as/\zs.map (·.2)=rows/\∀z∈zs,PR H z.1 (rR z.2)
 |_,_,[],.nil,_=>⟨[],rfl,rfl,(fun _ h=>nomatch h)⟩
 |_,_,_::_,.nil,e=>by cases e
 |_,_,[],.cons _ _,e=>by cases e
 |a::as,_,r::rows,.cons h t,e=>by
  rw[Ap] at e;injection e with e1 e2;obtain⟨zs,z1,z2,z3⟩:=zs_of t e2;refine⟨(a,r)::zs,by rw[Ap,z1],by rw[Ap,z2],fun z hz=>?_⟩;rcases Bd.mp hz with rfl|hz
  ·rw[<- e1];exact h
  ·exact z3 z hz
theorem q7t:∀{l m:List Pth},l.Perm m->l.Nodup->l.Pairwise (fun a b=>pLt b a=false)->m.Pairwise (fun a b=>pLt b a=false)->l=m
 |[],m,p,_,_,_=>(List.perm_nil.mp p.symm).symm
 |a::l,[],p,_,_,_=>absurd (p.length_eq) (by simp)
 |a::l,b::m,p,nd,h1,h2=>by
  obtain⟨n1,n2⟩:=Dd.mp nd;obtain⟨a1,a2⟩:=Kg.mp h1;obtain⟨b1,b2⟩:=Kg.mp h2;have e:a=b:=by
   have ha:=p.mem_iff.mp Ao;have hb:=p.mem_iff.mpr Ao;rcases Bd.mp ha with e|ha
   ·exact e
   ·rcases Bd.mp hb with e|hb
    ·exact e.symm
    ·exact z2r (b1 a ha) (a1 b hb)
  subst e;rw[q7t ((List.perm_cons a).mp p) n2 a2 b2]
def dMk:Option Int->PyData
 |none=>.none
 |some i=>.int i
def dRw(r:Rw):PyData:=.tuple [.tuple (dP r.1),dMk r.2]
theorem x3y{K:Ah}(m:Option Int):Dt K H (mV m) (dMk m):=by
 cases m with
 |none=>exact .non
 |some i=>exact .int i
theorem q6q{K:Ah}{H:Hp}:∀p:Pth,Dts K H (vP p) (dP p)
 |[]=>.nil
 |n::p=>.cons (.str _) (q6q p)
theorem q4t{K:Ah}(h:H a=some (.tup (vP p))):Dt K H (.ref a) (.tuple (dP p)):=.tup (SqT.of h) (q6q p)
theorem dt_row{K:Ah}(h:PR H a (rR r)):Dt K H (.ref a) (dRw r):=by
 obtain⟨b,h1,h2⟩:=h;exact .tup (SqT.of h1) (.cons (q4t h2) (.cons (x3y _) .nil))
theorem z3y{K:Ah}{H:Hp}:∀{zs:List Zr},(∀z∈zs,PR H z.1 (rR z.2))->Dts K H (zs.map fun z=>V.ref z.1) (zs.map fun z=>dRw z.2)
 |[],_=>.nil
 |z::zs,h=>.cons (dt_row (h z Ao)) (z3y fun x hx=>h x (Ak _ hx))
theorem RL.dt{K:Ah}(h:RL H L zs):Dt K H (.ref L) (.list (zs.map fun z=>dRw z.2)):=.lst (SqL.of h.at_) (z3y h.pr)
theorem x3z(m:Option Int):(dMk m).canLay0=true:=by cases m<;>simp[dMk,Hf]
theorem q4u(h:Low p):(PyData.tuple (dP p)).canLay0=true:=by simp only[Jg,z1g h]
theorem x4a(h:Low r.1):(dRw r).canLay0=true:=by
 have:=q4u h;simp only[dRw,Hf,Dx] at this ⊢;rw[this,x3z];rfl
theorem z3z:∀{rows:List Rw},(∀r∈rows,Low r.1)->Dx (rows.map dRw)=true
 |[],_=>by simp[Dx]
 |r::rows,h=>by
  simp only[Ap,Dx];rw[x4a (h r Ao),z3z fun x hx=>h x (Ak _ hx)];rfl
theorem z4a{rows:List Rw}(h:∀r∈rows,Low r.1):(PyData.list (rows.map dRw)).canLay0=true:=by simp only[Hf];exact z3z h
theorem z7w(m:Option Int):(dMk m).depth<=1:=by cases m<;>simp[dMk,Mj]
theorem q5i(p:Pth):(PyData.tuple (dP p)).depth<=2:=by
 have h1:(PyData.tuple (dP p)).depth=Ey (dP p)+1:=by simp only[Ni]
 have:=q6p p;lia
theorem z7x(r:Rw):(dRw r).depth<=3:=by
 have h1:=q5i r.1;have h2:=z7w r.2;have e:(dRw r).depth=max (PyData.tuple (dP r.1)).depth (max (dMk r.2).depth 0)+1:=by simp only[dRw,Mj,Ju]
 lia
theorem q8w:∀rows:List Rw,Ju (rows.map dRw)<=3
 |[]=>by simp[Ju]
 |r::rows=>by
  have h1:=z7x r;have h2:=q8w rows;simp only[Ap,Ju];lia
theorem z4b(rows:List Rw):(PyData.list (rows.map dRw)).depth<=100:=by
 have:=q8w rows;simp only[Mj];lia
theorem z1m(p q:Pth):Eu (.tuple (dP p)) (.tuple (dP q))=decide (p=q):=by simp only[Eu,q7q]
theorem eqv_no(rows:List Rw):Eu (.list (rows.map dRw)) (.list [])=decide (rows=[]):=by
 cases rows with
 |nil=>simp[Eu,Gs]
 |cons p r=>simp[Eu,Gs]
theorem q5j(zs:List Zr):zs.map (fun z=>dRw z.2)=(zs.map (·.2)).map dRw:=by rw[Ba];rfl
theorem q2w{K:Ah}(ha:H a=some (.tup (vP p)))(hb:H b=some (.tup (vP q)))(lp:Low p)(lq:Low q)(k:Q (.bl (!decide (p=q))) H):rNeU K (.ref a) (.ref b) H Q:=by
 refine .inr ⟨_,_,q4t ha,q4t hb,q4u lp,q4u lq,by have:=q5i p;lia,?_⟩;rw[z1m];exact k
theorem x4b{K:Ah}(ha:RL H a zs)(hb:RL H b zs')(e:zs.map (·.2)=zs'.map (·.2))(l:∀r∈zs.map (·.2),Low r.1)(k:Q (.bl false) H):rNeU K (.ref a) (.ref b) H Q:=by
 refine .inr ⟨_,_,ha.dt,hb.dt,?_,?_,?_,?_⟩
 ·rw[q5j];exact z4a l
 ·rw[q5j,<- e];exact z4a l
 ·rw[q5j,q5j];have:=z4b (zs.map (·.2));lia
 ·rw[q5j,q5j,<- e,SeqAt.eqv_refl _ (z4a l)];exact k
theorem ne_no{K:Ah}(ha:RL H a zs)(hb:H b=some (.lst []))(l:∀r∈zs.map (·.2),Low r.1)(k:Q (.bl (!decide (zs=[]))) H):rNeU K (.ref a) (.ref b) H Q:=by
 refine .inr ⟨_,_,ha.dt,.lst (SqL.of hb) .nil,?_,by simp[Hf,Dx],?_,?_⟩
 ·rw[q5j];exact z4a l
 ·rw[q5j];have:=z4b (zs.map (·.2));lia
 ·rw[q5j,eqv_no];have:decide (zs.map (·.2)=[])=decide (zs=[]):=decide_eq_decide.mpr List.map_eq_nil_iff;rw[this];exact k
end HM
namespace L2
open PySem PySem.Spec PyProof.Rows SB
abbrev Zp:=Addr×Pth
def rSortL:List V->Hp->VK->Prop:=fun vs H Q=>∃l,∃zs:List Zp,vs=[.ref l]/\H l=some (.lst (zs.map fun z=>V.ref z.1))/\zs.length<64/\(∀z∈zs,H z.1=some (.tup (vP z.2))/\z.2≠[]) /\
 ∀(L:Addr) (zs':List Zp),H L=none->zs'.Perm zs->(zs'.map (·.2)).Pairwise (fun a b=>pLt b a=false)->Q (.ref L) (upd H L (.lst (zs'.map fun z=>V.ref z.1)))
theorem z7y:∀{zs:List Zp} {us:List Value},Vals (zs.map fun z=>V.ref z.1) us->us=zs.map fun z=>Value.ref z.1
 |[],_,.nil=>rfl
 |z::zs,_,.cons r t=>by cases r;rw[z7y t];rfl
theorem q8x:∀(zs:List Zp),Vals (zs.map fun z=>V.ref z.1) (zs.map fun z=>Value.ref z.1)
 |[]=>.nil
 |z::zs=>.cons rfl (q8x zs)
theorem z5n(hr:Room k X.A):CallR X (.builtin "sorted") rSortL:=by
 intro pins s σ H xs us Q I rv h;obtain⟨l,zs,rfl,hl,few,hz,q⟩:=h;obtain⟨u,rfl,ru⟩:=rv.one;cases ru;obtain⟨its,rv2,hil⟩:=z2u I hl;have e1:=z7y rv2;subst e1;refine SB.sorted_ok fun{Q'} kk=>?_;refine PyProof.Rows.collect_list hil ?_;have kh:∀b o,s.heap.get? b=some o->((s.heap.push (Ji "list" #[] 0)).update s.heap.objs.size (Ef (· ++ (zs.map fun z=>Value.ref z.1).toArray))).get? b=some o:=fun b o e=>by
  rw[(Hr ..).2 b (Bc (Am e))];exact Ag _ e
 have hz2:s.heap.objs.size<=((s.heap.push (Ji "list" #[] 0)).update s.heap.objs.size (Ef (· ++ (zs.map fun z=>Value.ref z.1).toArray))).objs.size:=by simp_all
 generalize (s.heap.push (Ji "list" #[] 0)).update s.heap.objs.size (Ef (· ++ (zs.map fun z=>Value.ref z.1).toArray))=h at kh hz2;have hpa:∀v∈zs.map (fun z=>Value.ref z.1),∃p∈zs.map (·.2),p≠[]/\PathAt h v p:=fun v hv=>by
  obtain⟨z,hzm,rfl⟩:=Al.mp hv;exact⟨z.2,Al.mpr ⟨_,hzm,rfl⟩,(hz z hzm).2,(I.path (hz z hzm).1).keep kh⟩
 refine kk (zs.map fun z=>Value.ref z.1) h s.toks _ _ _ (SB.ready_paths (by rw[Ac];exact few) hpa) fun h' out so kh' ⟨e,he⟩=>?_;obtain⟨zs',p1,p2⟩:=SB.perm_map_inv so.perm rfl;have hrise:=so.rise;rw[p2] at hrise;have hps:=SB.rise_paths (fun _ _ _ a b=>a.inj b) (fun z hzz=>by
  have hzm:=p1.mem_iff.mp hzz;exact⟨(I.path (hz z hzm).1).keep kh,Al.mpr ⟨_,hzm,rfl⟩⟩) hrise
 have keep:=fun b o z=>kh' b o (kh b o z);have hfr:=I.hok.fresh hz2;refine⟨.ref h.objs.size,upd H h.objs.size (.lst (zs'.map fun z=>V.ref z.1)),I.laid (t':=s.toks) keep hz2 ⟨by rw[Ac,p1.length_eq,Er];lia,_,e,q8x _,?_⟩,rfl,q _ zs' hfr p1 hps⟩;rw[he,<- p2]
def Itm(d:Addr)(ob:Obj)(kvs:List (List Key×V)):It :=
 ⟨fun i H=>H d=some (.frz ob (.dT kvs))/\i<kvs.length,fun i H x H'=>∃k v b T,kvs[i]?=some (k,v)/\H b=some (.tup (k.map kV))/\H T=none/\x=.ref T/\H'=upd H T (.tup [.ref b,v]),fun i H=>H d=some (.frz ob (.dT kvs))/\kvs.length<=i⟩
theorem z7z(ok:HOk P w H h)(hfz:H d=some (.frz ob (.dT kvs)))(hob:ob.data=.dict ens ep):
  h.get? d=some ob/\ens.size=kvs.length/\∀{i:Nat} {k:List Key} {v:V} (hlt:i<ens.size),kvs[i]?=some (k,v)->∃b,ens[i].key=.ref b/\H b=some (.tup (k.map kV))/\RelV v ens[i].val:=by
 obtain⟨hget,z,hsys,xs,hp,o,es,ep',h1,h2,h3,h4,h5⟩:=(show ObjOk P w H h d (.frz ob (.dT kvs)) from ok d _ hfz)
 rw[hget] at h1;cases h1;rw[hob] at h3;cases h3;have hl:=Es hp;have hz:ens.size=xs.length:=by rw[<- El,h4,Ac]
 refine⟨hget,by lia,fun{i k v} hlt hk=>?_⟩;obtain⟨q,hq,e1,e2,e3⟩:=Cz.at' hp hk;have:ens.toList[i]?=some (Qm (Hu (mixKind P w)) q):=by simp_all
 rw[Gh,Dh hlt] at this;injection this with this;refine⟨q.2.1,?_,e2,?_⟩
 ·rw[this];rfl
 ·rw[this];exact e3
theorem q8g:Ot table "dict_itemiterator.__iter__" = some Dp.«dict_keyiterator.__iter__» := entryFor_alias (id' := "dict_keyiterator.__iter__") (by kernel_rfl) rfl (by decide +kernel) (by kernel_rfl)
theorem ers_map{α β:Type}(f:α->β):∀(l:List α) (k:Nat),(l.map f).eraseIdx k=(l.eraseIdx k).map f
 |[],_=>rfl
 |_::_,0=>rfl
 |a::l,k+1=>by show f a::(l.map f).eraseIdx k=f a::(l.eraseIdx k).map f;rw[ers_map f l k]
theorem q3k(x:PySem.Rv.ItemIt s.heap it d i n ep)(h:Q (.ref it) s):wpAny (model prog w) A (Na (.ref it)) Q E s:=by
 refine Kw x.typeIs Mo (Ce Mo x.typeIs q8g ?_ (F.args_dict_itemiterator_iter_1 _));exact Ae ⟨_,rfl, "dict_itemiterator",_,x.typeIs,Dj.lookup,h⟩
theorem z5o{K:Ah}(d it:Addr)(ob:Obj)(kvs:List (List Key×V))(ens:Array Iv)(ep:Nat)(hob:ob.data=.dict ens ep):
  Turn P w K tg (Itm d ob kvs) [it] it (fun i h=>PySem.Rv.ItemIt h it d i ens.size ep) where
 mem:=by simp
 obj:=fun i h st b hb=>by
  have e:b=it:=by grind
  subst e;obtain⟨f0,f1,ok,ov,e,_⟩:=st;exact⟨_,e,fun v z=>by cases z⟩
 keep:=fun i h h' st k=>st.keep fun o e=>k it (by simp) o e
 item:=by
  intro X hP hw hK hc i pins s σ H E I hf st hg;obtain⟨hfz,hi⟩:=hg;obtain⟨hget,hsz,hkey⟩:=z7z I.hok hfz hob;obtain⟨f0,f1,f2,f3,f4,f5⟩:=hf it (by simp);obtain⟨⟨k,v⟩,hkv⟩:∃p,kvs[i]?=some p:=⟨kvs[i],by simp[hi]⟩
  have hlt:i<ens.size:=by lia
  obtain⟨b,hb1,hb2,hb3⟩:=hkey hlt hkv;have ilt:=st.lt;refine PySem.Rv.items_item st hget hob hlt fun h' st' ht hn sb=>?_
  refine⟨_,rfl,PySem.Rv.items_go st' fun h2 st2 sb2=>?_⟩;have I1:Inv X pins σ H { s with heap:=h2 }:=I.turned (t':=s.toks) (fun b o hb e=>(sb2.2 b hb).trans (sb b o hb e)) f0 f1 f3 f4 f5;have FT:=I.fpOk (Aj _) I.fresh;have hT2:h2.get? s.heap.objs.size=some { cls:=.type "tuple",data:=.seq #[ens[i].key,ens[i].val] }:=(sb2.2 _ (Fb ilt)).trans ht;have I2:Inv X pins σ (upd H s.heap.objs.size (.tup [.ref b,v])) { s with heap:=h2 } :=
   I1.track I.sz FT ⟨by show 2<=sizeLine;decide,[ens[i].key,ens[i].val],.cons hb1 (.cons hb3 .nil),⟨_,hT2,rfl,_,rfl⟩⟩
  refine⟨.ref s.heap.objs.size,_,I2,rfl,⟨k,v,b,_,hkv,hb2,I.fresh,rfl,rfl⟩,st2,fun c hcc=>?_⟩;have e:c=it:=by grind
  subst e;rw[q0e (Bc ilt)];exact f0
 done:=by
  intro X hP hw hK hc i pins s σ H E I hf st hg;obtain⟨hfz,hi⟩:=hg;obtain⟨hget,hsz,hkey⟩:=z7z I.hok hfz hob;obtain⟨f0,f1,f2,f3,f4,f5⟩:=hf it (by simp);exact PySem.Rv.items_end (I.ok.hd hc) st hget hob (by lia) fun h' eb=>⟨rfl,I.turned (t':=s.toks) (fun b o hb e=>eb b o hb e) f0 f1 f3 f4 f5⟩
 self:=fun _ _ _ _ _ st h=>q3k st h
section
variable{X:Cx}{tg l:Expr}{tl:TE}
def iItemsT(tl:TE):TI:=fun σ H R=>tl σ H fun x H1=>∃v d kvs,x=.ref v/\H1 v=some (vwO v d)/\H1 d=some (.dT kvs)/\∀ob,R (Itm d ob kvs) (upd H1 d (.frz ob (.dT kvs)))
theorem z8a(hl:PE X l tl):PI X tg l (iItemsT tl):=by
 intro pins s σ H R I h;refine thn (hl pins s σ H _ I h) fun v s1 ⟨x,H1,I1,r1,q1⟩=>?_;obtain⟨vw,d,kvs,e,hv,hd,q⟩:=q1;subst e;cases r1;obtain⟨z,hsys,xs,hp,ob,ens,ep,ho,hex,hob,h4,h5⟩:=(show ObjOk X.prog X.w H1 s1.heap d (.dT kvs) from I1.hok d _ hd)
 refine PySem.Rv.items_iter (I1.hok vw _ hv).1 ho hob ?_;have hne:=Bc (Am ho);have I2:=(I1.freezeK hd ho (.inr ⟨_,rfl⟩)).kept (t':=s1.toks) (h':=s1.heap.push (PySem.Rv.itemObj d 0 ens.size ep .none (.bool false) .none .none)) fun b o e=>Ag _ e;refine⟨s1.heap.objs.size,[s1.heap.objs.size],_,_,_,rfl,I2,z5o d _ ob kvs ens ep hob,⟨_,_,_,_,Ar _ rfl,.inl rfl⟩,fun b hb=>?_,q ob⟩;have e:b=s1.heap.objs.size:=by grind
 subst e;exact I1.fpOk (Aj _) (by rw[q0e (Cv hne)];exact I1.hok.fresh (Aj _))
theorem itm_k(K:Ah)(hK:X.K=K)(hl:PE X l tl):PI X tg l (iItemsT tl):=z8a hl
end
def tThawV(h₀:Hp)(t:TE):TE:=fun σ H Q=>∃d,(∀o v,h₀ d≠some (.frz o v))/\t σ H fun x H'=>∃ob u,H' d=some (.frz ob u)/\Q x (upd H' d u)
theorem z8b{X:Cx}{e:Expr}{t:TE}(h₀:Hp)(hH:X.H₀=h₀)(h:PE X e t):PE X e (tThawV h₀ t):=by
 subst hH;intro pins s σ H Q I q;obtain⟨d,hd,q⟩:=q;exact thn (h pins s σ H _ I q) fun v s1 ⟨x,H1,I1,r1,ob,u,e1,q1⟩=>⟨x,_,I1.thaw e1 hd,r1,q1⟩
end L2
namespace HM
open PySem PySem.Spec PyProof.Rows L2 TX SB
def carry(p q x:Pth):Pth:=if x.take p.length=p then q++x.drop p.length else x
def cR(p q:Pth)(r:Rw):Rw:=(carry p q r.1,r.2)
def mvR(p q:Pth)(r:Rw):Rw:=if r.1=p then(q,r.2) else r
theorem Hl.anc(h:Hl bl rows):∀(n:Nat) (r:Rw),r∈rows->r.1.length<=n->∀k,1<=k->k<r.1.length->(r.1.take k,none)∈rows
 |0,r,_,hl,k,_,hk=>absurd hk (by lia)
 |n+1,r,hr,hl,k,h1,hk=>by
  have hd:r.1.dropLast=r.1.take (r.1.length-1):=Gk;have hne:r.1.dropLast≠[]:=fun z=>by
   have:=congrArg List.length z;simp at this;lia
  have hm:=(h.dr r hr).resolve_left hne;by_cases e:k=r.1.length-1
  ·grind
  ·have:=h.anc n (r.1.dropLast,none) hm (by rw[Cq];lia) k h1 (by rw[Cq];lia);rw[show((r.1.dropLast,(none:Option Int)):Rw).1=r.1.dropLast from rfl,hd,Ko,Ib (by lia)] at this;exact this
theorem Hl.one(h:Hl bl rows)(h1:(p,a)∈rows)(h2:(p,b)∈rows):a=b:=by
 have:=q4g h.paths h1 h2 rfl;cases this;rfl
theorem Hl.slip(h:Hl bl rows)(hp:(p,some m)∈rows)(hr:r∈rows)(ht:r.1.take p.length=p):r.1=p:=by
 by_cases hl:p.length<r.1.length
 ·have h0:=Bo.mpr (h.ok _ hp).ne;have:=h.anc _ r hr (Aj _) p.length h0 hl;rw[ht] at this;cases h.one hp this
 ·grind
theorem Hl.carry(h:Hl bl rows)(hp:(p,some m)∈rows):rows.map (cR p q)=rows.map (mvR p q):=by
 refine En fun r hr=>?_;unfold cR mvR HM.carry;by_cases e:r.1=p
 ·simp_all
 ·rw[if_neg e,if_neg fun z=>e (h.slip hp hr z)]
structure Free (bl:Bool) (rows:List Rw) (p q:Pth):Prop where
 ok:okP q
 dr:q.dropLast=[]\/(q.dropLast,none)∈rows
 un:∀r∈rows,fold bl r.1=fold bl q->r.1=p
theorem q3l{α β:Type}{f:α->β}:∀{l:List α},l.Nodup->(∀x∈l,∀y∈l,f x=f y->x=y)->(l.map f).Nodup
 |[],_,_=>.nil
 |a::l,nd,h=>by
  rw[Dd] at nd;rw[Ap,Dd];refine⟨fun z=>?_,q3l nd.2 fun x hx y hy=>h x (Ak _ hx) y (Ak _ hy)⟩;obtain⟨y,hy,e⟩:=Al.mp z;exact nd.1 (by rw[<- h y (Ak _ hy) a Ao e];exact hy)
theorem Hl.nodup(h:Hl bl rows):rows.Nodup:=q3j h.nd
theorem Hl.eq(h:Hl bl rows)(hr:r∈rows)(hs:s∈rows)(e:fold bl r.1=fold bl s.1):r=s:=q4g (f:=fun r:Rw=>fold bl r.1) h.nd hr hs e
theorem Hl.eqP(h:Hl bl rows)(hr:r∈rows)(hs:s∈rows)(e:r.1=s.1):r=s:=h.eq hr hs (by rw[e])
theorem q9r(h:r.1=p):mvR p q r=(q,r.2):=if_pos h
theorem q7u(h:r.1≠p):mvR p q r=r:=if_neg h
theorem Hl.moved(h:Hl bl rows)(hp:(p,some m)∈rows)(f:Free bl rows p q):Hl bl (rows.map (mvR p q)):=by
 have dk:∀x:Pth,(x,(none:Option Int))∈rows->(x,none)∈rows.map (mvR p q):=fun x hx=>Al.mpr ⟨_,hx,q7u fun e=>by
  subst e;cases h.one hp hx⟩
 refine⟨fun r hr=>?_,?_,fun r hr=>?_⟩
 ·obtain⟨x,hx,rfl⟩:=Al.mp hr;by_cases e:x.1=p
  ·rw[q9r e];exact f.ok
  ·rw[q7u e];exact h.ok x hx
 ·rw[Ba];refine q3l h.nodup fun x hx y hy e=>?_;replace e:fold bl (mvR p q x).1=fold bl (mvR p q y).1:=e;by_cases ex:x.1=p
  ·by_cases ey:y.1=p
   ·exact h.eqP hx hy (ex.trans ey.symm)
   ·rw[q9r ex,q7u ey] at e;exact absurd (f.un y hy e.symm) ey
  ·by_cases ey:y.1=p
   ·rw[q7u ex,q9r ey] at e;exact absurd (f.un x hx e) ex
   ·rw[q7u ex,q7u ey] at e;exact h.eq hx hy e
 ·obtain⟨x,hx,rfl⟩:=Al.mp hr;by_cases e:x.1=p
  ·rw[q9r e];exact f.dr.imp id (dk _)
  ·rw[q7u e];exact(h.dr x hx).imp id (dk _)
theorem ns_lo:∀c∈NS,lo1 c∈NS:=by decide +kernel
theorem okN.lo(h:okN n):okN (lowN n):=⟨by unfold lowN;rw[Ac];exact h.one,by unfold lowN;rw[Ac];exact h.few,fun c hc=>by
 obtain⟨x,hx,rfl⟩:=Al.mp hc;exact ns_lo x (h.all x hx)⟩
theorem okP.snoc{q:Pth}(h:q=[]\/okP q)(hl:q.length<6)(hn:okN n):okP (q++[n]):=by
 refine⟨by simp,by rw[Ai];show _+1<=6;lia,fun x hx=>?_⟩;rcases Aw.mp hx with hx|hx
 ·rcases h with e|h
  ·rw[e] at hx;cases hx
  ·exact h.all x hx
 ·grind
theorem z1n{K:Ah}{H:Hp}:∀{zs:List Zp},(∀z∈zs,H z.1=some (.tup (vP z.2)))->Dts K H (zs.map fun z=>V.ref z.1) (zs.map fun z=>PyData.tuple (dP z.2))
 |[],_=>.nil
 |z::zs,h=>.cons (q4t (h z Ao)) (z1n fun x hx=>h x (Ak _ hx))
theorem z1o:∀{zs:List Zp},(∀z∈zs,Low z.2)->Dx (zs.map fun z=>PyData.tuple (dP z.2))=true
 |[],_=>by simp[Dx]
 |z::zs,h=>by
  simp only[Ap,Dx];rw[q4u (h z Ao),z1o fun x hx=>h x (Ak _ hx)];rfl
theorem ne_noP{K:Ah}{zs:List Zp}(ha:H a=some (.lst (zs.map fun z=>V.ref z.1)))(hz:∀z∈zs,H z.1=some (.tup (vP z.2)))(hb:H b=some (.lst []))(l:∀z∈zs,Low z.2)(k:Q (.bl (!decide (zs=[]))) H):rNeU K (.ref a) (.ref b) H Q:=by
 refine .inr ⟨_,_,.lst (SqL.of ha) (z1n hz),.lst (SqL.of hb) .nil,by simp only[Hf];exact z1o l,by simp[Hf,Dx],?_,?_⟩
 ·have:(PyData.list []).depth<=100:=by simp[Mj,Ju]
  lia
 ·have e:Eu (.list (zs.map fun z=>PyData.tuple (dP z.2))) (.list [])=decide (zs=[]):=by cases zs<;>simp[Eu,Gs]
  rw[e];exact k
theorem q1t{K:Ah}(ha:H a=some (.tup (vP p)))(hb:H b=some (.tup (vP q)))(lp:Low p)(lq:Low q)(k:Q (.bl (decide (p=q))) H):rEqU K (.ref a) (.ref b) H Q:=by
 refine .inr ⟨_,_,q4t ha,q4t hb,q4u lp,q4u lq,by have:=q5i p;lia,?_⟩;rw[z1m];exact k
def uppN(n:List Nat):List Nat:=n.map up1
theorem ns_up:∀c∈NS,up1 c∈NS:=by decide +kernel
theorem okN.up(h:okN n):okN (uppN n):=⟨by unfold uppN;rw[Ac];exact h.one,by unfold uppN;rw[Ac];exact h.few,fun c hc=>by
 obtain⟨x,hx,rfl⟩:=Al.mp hc;exact ns_up x (h.all x hx)⟩
theorem x1e(h:∀c∈n,c<128):PySem.Txt.upper (mk n)=mk (uppN n):=by
 rw[upper_ascii (by show ∀c∈tl (mk n),c<128;exact h)];apply ext;rw[q1h];rw[Tq];rfl
theorem x2s(e:H a=some (.frz ob (dR rs)))(eb:H b=some (.tup (vP p))):DGet H a (.ref b) (valV (rs.map fun r=>(kP r.1,r.2)) (kP p)) :=
 .inr ⟨_,kP p,b,.inr ⟨ob,e⟩,rfl,by rw[q3i];exact eb,rfl⟩
theorem q8y(e:H a=some (dR rs))(eb:H b=some (.tup (vP p))):DGet H a (.ref b) (valV (rs.map fun r=>(kP r.1,r.2)) (kP p)) :=
 .inr ⟨_,kP p,b,.inl e,rfl,by rw[q3i];exact eb,rfl⟩
end HM
namespace HT
open PySem PyProof.Rows
section
variable{prog:Program}{w:World}{A:Around}{E:Value->Af->Prop}{s:Af}
theorem getItem_tuple_whole{lo:Option Int}(ht:IsTup s.heap t items)(hs:s.heap.IsSliceOf sl vl vu .none)(pl:Lb vl lo)(pu:Lb vu hi)(hw:sIx items.size 0 lo=0/\sIx items.size items.size hi=items.size)(h:Q (.ref t) s):wpAny (model prog w) A (getItem (.ref t) (.ref sl)) Q E s:=by
 obtain⟨os,hos,hcs,hds⟩:=id hs;have hTs:s.TypeIs (.ref sl) "slice" := ⟨os,hos,hcs⟩
 unfold getItem;try with_reducible refine Cc ?_
 refine Ab (Sq ht.typeIs (by decide) ?_);refine Ab (Cm ht.typeIs Cw
  (Ce Cw ht.typeIs entry_tuple_getitem ?_ (Sb _ _)))
 show wpAny _ _ (Nm (.ref t) >>= _) _ _ s;refine Ab (tupleItemsOf_ ht ?_);refine Ab (Hn hTs ?_);refine Ab (q3c hs pl pu ?_);show wpAny _ _ (if (((sIx items.size 0 lo:Nat):Int)==0&&(1:Int)==1&&(sIx items.size items.size hi-sIx items.size 0 lo)==items.size)=true then _ else _) _ _ s;rw[if_pos (by rw[hw.1,hw.2];simp)];refine Ab (Ab (Hn ht.typeIs (Ae ?_)));exact Ab (Je (Ae ⟨_,rfl,Ae h⟩))
end
end HT
namespace L2
open PySem PySem.Spec PyProof.Rows
def rSlP:V->Option Int->Option Int->Hp->VK->Prop:=fun x lo hi H Q=>∃a xs,x=.ref a/\H a=some (.tup xs)/\∀c H',Same H H'->H' c=some (.tup (cutV xs lo hi))->Q (.ref c) H'
theorem sl_P:SlR X rSlP:=by
 intro pins s σ H x v vl vu lo hi sl Q I rx hs pl pu h;obtain⟨a,xs,rfl,hx,q⟩:=h;by_cases hw:HT.sIx xs.length 0 lo=0/\HT.sIx xs.length xs.length hi=xs.length
 ·cases rx;obtain⟨its,r,ht,hz⟩:=I.tuple (SqT.of hx);have hlen:its.toArray.size=xs.length:=by rw[Av];exact r.length.symm
  refine⟨"tuple",_,Cw.lookup,ht.typeIs,?_⟩;refine HT.getItem_tuple_whole ht hs pl pu (by rw[hlen];exact hw) ⟨.ref a,H,I,rfl,q a H (Same.refl H) ?_⟩;unfold cutV;rw[hw.1,hw.2,Kq,Kc,Bi];exact hx
 ·exact x2h pins s σ H _ v vl vu lo hi sl Q I rx hs pl pu ⟨a,xs,rfl,SqT.of hx,hw,fun p hp=>q p _ ((Same.refl H).new hp) q0b⟩
end L2
namespace HM
open PySem PySem.Spec PyProof.Rows L2 TX SB
theorem q1m(p q a:Pth):carry p q (p++a)=q++a:=by unfold carry;rw[if_pos (by simp),List.drop_left]
theorem q1u(h:x.take p.length≠p):carry p q x=x:=if_neg h
theorem q7v{p:Pth}(h:x.take p.length=p):∃a,x=p++a:=⟨x.drop p.length,by conv=>lhs;rw[<- Qh p.length x,h]⟩
theorem x4c(p a:Pth):(p++a).take p.length=p:=List.take_left
theorem q6r{a:Pth}(h:a≠[]):(p++a).dropLast=p++a.dropLast:=List.dropLast_append_of_ne_nil h
theorem x1f{a:Pth}(h:a≠[]):(p++a).getLastD []=a.getLastD []:=by
 rw[Ez,Ez,List.getLast?_append,Ft h];rfl
theorem q6s{a:Pth}(h:a≠[]):fold bl (p++a)=p++fold bl a:=by
 cases bl with
 |false=>rfl
 |true=>rw[q7s,q7s,q6r h,x1f h,Cg]
theorem q4h{p:Pth}(h:p≠[]):(fold bl p).length=p.length:=by
 cases bl with
 |false=>rfl
 |true =>
  have:=Bo.mpr h;rw[q7s,Ai,Cq];show _+1=_;lia
structure Turn2 (bl:Bool) (rows:List Rw) (p q:Pth):Prop where
 hl:Hl bl rows
 pin:(p,none)∈rows
 fr:Free bl rows p q
 ne:q≠p
 par:q.dropLast=p.dropLast
section
variable{bl:Bool}{rows:List Rw}{p q:Pth}
theorem Turn2.len(t:Turn2 bl rows p q):q.length=p.length:=by
 have h1:=congrArg List.length t.par;rw[Cq,Cq] at h1;have:=Bo.mpr t.fr.ok.ne;have:=Bo.mpr (t.hl.ok _ t.pin).ne;have e:(p,(none:Option Int)).1.length=p.length:=rfl;lia
theorem Turn2.okp(t:Turn2 bl rows p q):okP p:=t.hl.ok _ t.pin
theorem Turn2.noq(t:Turn2 bl rows p q)(hr:r∈rows):r.1.take q.length≠q:=fun z=>by
 have key:(∃m,(q,m)∈rows)->False:=fun⟨m,hm⟩=>t.ne (t.fr.un _ hm rfl);by_cases hl:q.length<r.1.length
 ·have:=t.hl.anc _ r hr (Aj _) q.length (Bo.mpr t.fr.ok.ne) hl;rw[z] at this;exact key ⟨_,this⟩
 ·grind
theorem Turn2.back(t:Turn2 bl rows p q):(rows.map (cR p q)).map (cR q p)=rows:=by
 rw[Ba];conv=>rhs;rw[<- Px rows]
 refine En fun r hr=>?_;show(carry q p (carry p q r.1),r.2)=r;by_cases h:r.1.take p.length=p
 ·obtain⟨a,e⟩:=q7v h;rw[e,q1m,q1m,<- e]
 ·rw[q1u h,q1u (t.noq hr)]
theorem Turn2.inj(t:Turn2 bl rows p q)(hx:x∈rows)(hy:y∈rows)(e:fold bl (carry p q x.1)=fold bl (carry p q y.1)):x=y:=by
 have one:∀{x y:Rw},x∈rows->y∈rows->∀a,x.1=p++a->y.1.take p.length≠p->fold bl (q++a)=fold bl y.1->False:=by
  intro x y hx hy a ea hn e;by_cases h0:a=[]
  ·rw[h0,Bt] at e;have:=t.fr.un y hy e.symm;exact hn (by rw[this,Bi])
  ·have hy0:=(t.hl.ok y hy).ne;have hd:=((z7v (by simp[h0]) hy0).mp e).1;rw[q6r h0] at hd;refine t.noq hy ?_;have e2:y.1=q++(a.dropLast++[y.1.getLastD []]):=by rw[<- Cg,hd];exact q9q hy0
   rw[e2];exact x4c _ _
 by_cases h1:x.1.take p.length=p
 ·obtain⟨a,ea⟩:=q7v h1;by_cases h2:y.1.take p.length=p
  ·obtain⟨b,eb⟩:=q7v h2;rw[ea,eb,q1m,q1m] at e;refine t.hl.eq hx hy ?_;rw[ea,eb];by_cases ha:a=[]
   ·by_cases hb:b=[]
    ·rw[ha,hb]
    ·rw[ha,Bt] at e;have:=congrArg List.length e;rw[q4h t.fr.ok.ne,q4h (by simp[hb]),Ai] at this;have:=Bo.mpr hb;lia
   ·by_cases hb:b=[]
    ·rw[hb,Bt] at e;have:=congrArg List.length e;rw[q4h t.fr.ok.ne,q4h (by simp[ha]),Ai] at this;have:=Bo.mpr ha;lia
    ·rw[q6s ha,q6s hb] at e;rw[q6s ha,q6s hb,List.append_cancel_left e]
  ·rw[ea,q1m,q1u h2] at e;exact(one hx hy a ea h2 e).elim
 ·by_cases h2:y.1.take p.length=p
  ·obtain⟨b,eb⟩:=q7v h2;rw[eb,q1m,q1u h1] at e;exact(one hy hx b eb h1 e.symm).elim
  ·rw[q1u h1,q1u h2] at e;exact t.hl.eq hx hy e
theorem Turn2.moved(t:Turn2 bl rows p q):Hl bl (rows.map (cR p q)):=by
 have hpl:=t.len;have hp0:=Bo.mpr t.okp.ne;have dk:∀{x y:Pth},(x,(none:Option Int))∈rows->carry p q x=y->(y,none)∈rows.map (cR p q):=fun{x y} hx e=>Al.mpr ⟨_,hx,by show(carry p q x,none)=_;rw[e]⟩;refine⟨fun r hr=>?_,?_,fun r hr=>?_⟩
 ·obtain⟨x,hx,rfl⟩:=Al.mp hr;show okP (carry p q x.1);have okx:=t.hl.ok x hx;by_cases h:x.1.take p.length=p
  ·obtain⟨a,e⟩:=q7v h;rw[e] at okx ⊢;rw[q1m];refine⟨by simp[t.fr.ok.ne],?_,fun n hn=>?_⟩
   ·have:=okx.few;rw[Ai] at this ⊢;lia
   ·rcases Aw.mp hn with hn|hn
    ·exact t.fr.ok.all n hn
    ·exact okx.all n (Bq _ hn)
  ·rw[q1u h];exact okx
 ·rw[Ba];exact q3l t.hl.nodup fun x hx y hy e=>t.inj hx hy e
 ·obtain⟨x,hx,rfl⟩:=Al.mp hr;show(carry p q x.1).dropLast=[]\/((carry p q x.1).dropLast,none)∈_;by_cases h:x.1.take p.length=p
  ·obtain⟨a,e⟩:=q7v h;rw[e,q1m];by_cases ha:a=[]
   ·rw[ha,Bt,t.par];refine(t.hl.dr _ t.pin).imp id fun y=>dk y (q1u fun z=>?_);have:=congrArg List.length z;rw[Bf,Cq] at this;lia
   ·rw[q6r ha];have:=(t.hl.dr x hx)
    rw[e,q6r ha] at this;exact .inr (dk (this.resolve_left (by simp[t.okp.ne])) (q1m _ _ _))
  ·rw[q1u h];refine(t.hl.dr x hx).imp id fun y=>dk y (q1u fun z=>h ?_);have:=congrArg List.length z;rw[Bf,Cq] at this;rw[Gk,Ko,Ib (by lia)] at z;exact z
theorem Turn2.qin(t:Turn2 bl rows p q):(q,none)∈rows.map (cR p q):=Al.mpr ⟨_,t.pin,by show(carry p q p,none)=_;have:=q1m p q [];rw[Bt,Bt] at this;rw[this]⟩
theorem Turn2.rev(t:Turn2 bl rows p q):Turn2 bl (rows.map (cR p q)) q p:=by
 refine⟨t.moved,t.qin,⟨t.okp,?_,fun r hr hf=>?_⟩,t.ne.symm,t.par.symm⟩
 ·have:=t.moved.dr _ t.qin;rw[show((q,(none:Option Int)):Rw).1=q from rfl,t.par] at this;exact this
 ·obtain⟨x,hx,rfl⟩:=Al.mp hr;show carry p q x.1=q;replace hf:fold bl (carry p q x.1)=fold bl p:=hf;by_cases h:x.1.take p.length=p
  ·obtain⟨a,e⟩:=q7v h;rw[e,q1m] at hf ⊢;by_cases ha:a=[]
   ·grind
   ·have:=congrArg List.length hf;rw[q4h (by simp[ha]),q4h t.okp.ne,Ai,t.len] at this;have:=Bo.mpr ha;lia
  ·rw[q1u h] at hf ⊢;have e:=t.hl.eq hx t.pin hf;rw[e] at h;exact(h (by exact Bi)).elim
end
end HM
namespace L2
open PySem PySem.Spec PyProof.Rows
theorem z8c{X:Cx}{body:List Stmt}{h0:ExceptHandler}{hs:List ExceptHandler}{pos:Pos}{t:TS}(hx:X.xe=fun _ _=>False)(hb:PSs X body t):PS X (.Try body (h0::hs) [] [] pos) t:=by
 intro pins s σ H D I q;refine wpAny_Try_except (Bu (hb pins s σ H D I q) (fun f s1 z=>?_) fun e s1 z=>by rw[hx] at z;exact z.elim);cases f with
 |next=>exact Hv z
 |ret v=>exact z
 |brk=>exact z
 |cont=>exact z
theorem isD_t(e:H a=some (.dT kvs)):IsD H a:=.inr ⟨kvs,.inl e⟩
section
variable{M:Model}{A:Around}{E:Value->Af->Prop}{s:Af}
def TbAt(h:Heap)(e:Addr)(vs:Array Value)(T:Addr)(fl:Value):Prop:=vs[1]?=some (.ref T)/\T≠e/\∃oT ts,h.get? T=some oT/\oT.data=.fields ts/\ts[3]?=some fl
def TbOk(L:Addr)(h:Heap)(e:Addr)(vs:Array Value):Prop:=vs[1]?=some .none\/∃T,TbAt h e vs T .none\/TbAt h e vs T (Di L)
structure LeftX (fr:List Addr) (e:Addr) (oe:Obj) (vs:Array Value) (fl:Value) (h h':Heap):Prop where
 ex:∃T,(h.objs.size<=T\/vs[1]?=some (.ref T))/\T≠e/\h'.get? e=some (oe.mapFields (·.setIfInBounds 1 (.ref T)))/\∃oT ts,h'.get? T=some oT/\oT.data=.fields ts/\ts[3]?=some fl
 keep:∀b o,h.get? b=some o->b≠e->vs[1]?≠some (.ref b)->b∉fr->h'.get? b=some o
 slot:∀b o,h.get? b=some o->b∈fr->∃sl,h'.get? b=some { o with slots:=sl }
theorem z1p{oe:Obj}(hd:oe.data=.fields vs)(h1:vs[1]?=some x):oe.mapFields (·.setIfInBounds 1 x)=oe:=by
 obtain⟨c,d,dt,sl⟩:=oe;cases hd;have e:vs.setIfInBounds 1 x=vs:=by
  have hs:=(Du.mp h1)
  obtain⟨hlt,hx⟩:=hs;apply Array.ext
  ·simp
  ·intro i h2 h3;rw[Array.getElem_setIfInBounds (by simpa using h3)];split
   ·grind
   ·rfl
 show(⟨c,d,.fields (vs.setIfInBounds 1 x),sl⟩:Obj)=_;rw[e]
theorem entryX
  (hfr:A.frames=some (env::outer))(hl:s.heap.FunFrames base (env::outer))(hf:env.frame=some L)(he:s.heap.get? e=some oe)(hd:oe.data=.fields vs)(hsz:1<vs.size)(h:∀h',(∃T,s.heap.objs.size<=T/\h'.get? e=some (oe.mapFields (·.setIfInBounds 1 (.ref T)))/\∃oT ts,h'.get? T=some oT/\oT.data=.fields ts/\ts[3]?=some (Di L)) ->
   (∀b o,s.heap.get? b=some o->b≠e->b∉(env::outer).filterMap (·.frame)->h'.get? b=some o) ->
   (∀b o,s.heap.get? b=some o->b∈(env::outer).filterMap (·.frame)->∃sl,h'.get? b=some { o with slots:=sl })->Q () { s with heap:=h' }):
  wpAny M A (do let a<-frameOf env;let pl<-entryPlaceOf L hadNext;let b<-EntryCells.newEntry head a .none (Di L) .none pl;setField (.ref e) 1 b) Q E s:=by
 have hene:e∉(env::outer).filterMap (·.frame):=fun hm=>by
  obtain⟨_,o,ho,hnf⟩:=hl.mem hm;rw[he] at ho;injection ho with ho;subst ho;exact hnf vs hd
 refine Ab (wpAny_frameOf_fun hfr hl hf fun h₁ hs₁=>?_);refine Ab (wpAny_entryPlaceOf fun pl hpl=>?_);refine Ab (Bv ?_ (hpl.sizeOk5 _ _ _ _ _));have he₁:=(hs₁.2.1 e hene).trans he;have he₂:=Ag { cls:=.type "traceback",dict:=none,data:=.fields ([head,.ref L,.none,Di L,.none]++(if pl.isEmpty then List.replicate 6 Value.none else pl)).toArray } he₁;have hTe:=Fb (Am he₁);have hd₃:=Ea hd (·.setIfInBounds 1 (Value.ref h₁.objs.size));have he₃:=Ex (Fq (·.setIfInBounds 1 (Value.ref h₁.objs.size))) he₂ (Iq hd₃);have hT₃:=(Bx (h₁.push { cls:=.type "traceback",dict:=none,data:=.fields ([head,.ref L,.none,Di L,.none]++(if pl.isEmpty then List.replicate 6 Value.none else pl)).toArray })
  (Fq (·.setIfInBounds 1 (Value.ref h₁.objs.size))) (Cv hTe)).trans (Ar h₁ rfl)
 refine Fy he₂ hd hsz (h _ ⟨h₁.objs.size,by rw[hs₁.1];exact Aj _,he₃,_,_,hT₃,rfl,by first|(simp;done)|(rcases hpl with rfl|⟨_,_,_,_,_,_,_,rfl⟩<;>simp)⟩ ?_ ?_)
 ·intro b o hb hbe hbf;have hb₁:=(hs₁.2.1 b hbf).trans hb;rw[Bx _ _ (Cv hbe)];exact Ag _ hb₁
 ·intro b o hb hbf;have hbe:b≠e:=fun z=>hene (z▸hbf);obtain⟨sl,hb₁⟩:=hs₁.2.2 b o hb;refine⟨sl,?_⟩;rw[Bx _ _ (Cv hbe)];exact Ag _ hb₁
theorem noteX
  (hfr:A.frames=some (env::outer))(hl:s.heap.FunFrames base (env::outer))(hf:env.frame=some L)(he:s.heap.get? e=some oe)(hd:oe.data=.fields vs)(ht:TbOk L s.heap e vs)(h:∀h',LeftX ((env::outer).filterMap (·.frame)) e oe vs (Di L) s.heap h'->Q () { s with heap:=h' }):wpAny M A (noteFrame (.ref e) env) Q E s:=by
 have helt:=Am he;unfold noteFrame;simp only[hf];rcases ht with h1|⟨T,⟨h1,hTe,oT,ts,hT,hdT,h3⟩|⟨h1,hTe,oT,ts,hT,hdT,h3⟩⟩
 ·refine Ab (Bz he hd h1 ?_);refine entryX hfr hl hf he hd (Du.mp h1).1 fun h' ⟨T,q1,q2,q3⟩ b c=>h h' ⟨⟨T,.inl q1,fun z=>absurd helt (Ic.mpr (z▸q1)),q2,q3⟩,fun x o hx hxe _ hxf=>b x o hx hxe hxf,c⟩
 ·refine Ab (Bz he hd h1 ?_);refine Ab (Bz hT hdT h3 ?_);refine Ab (Fy hT hdT (Du.mp h3).1 ?_);have other:∀b,b≠T->(s.heap.update T (Fq (·.setIfInBounds 3 Value.none))).get? b=s.heap.get? b:=fun b hb=>Bx _ _ (Cv hb);have noRecord:∀b o,s.heap.get? b=some o->(∀vs,o.data≠.fields vs)->b≠T:=fun b o hb hnf q=>by
   rw[q,hT] at hb;injection hb with hb;subst hb;exact hnf ts hdT
  have hTf:T∉(env::outer).filterMap (·.frame):=fun hm=>by
   obtain⟨_,o,ho,hnf⟩:=hl.mem hm;rw[hT] at ho;injection ho with ho;subst ho;exact hnf ts hdT
  have hsz:(s.heap.update T (Fq (·.setIfInBounds 3 Value.none))).objs.size=s.heap.objs.size:=by simp_all
  refine entryX hfr (hl.of_keeps fun b o hb hnf=>⟨o,(other b (noRecord b o hb hnf)).trans hb,rfl⟩) hf ((other e (Cv hTe)).trans he) hd (Du.mp h1).1 fun h' a b c=>h h' ⟨?_,fun x o hx hxe hx1 hxf=>?_,fun x o hx hxf=>?_⟩
  ·obtain⟨T',q1,q2,q3⟩:=a;rw[hsz] at q1;exact⟨T',.inl q1,fun z=>absurd helt (Ic.mpr (z▸q1)),q2,q3⟩
  ·exact b x o ((other x fun z=>hx1 (by rw[z];exact h1)).trans hx) hxe hxf
  ·exact c x o ((other x fun z=>hTf (z▸hxf)).trans hx) hxf
 ·refine Ab (Bz he hd h1 ?_);refine Ab (Bz hT hdT h3 ?_);rw[if_pos (show(Di L==Di L)=true from by simp)];refine Ae (h s.heap ⟨⟨T,.inr h1,hTe,by rw[z1p hd h1];exact he,oT,ts,hT,hdT,h3⟩,fun x o hx _ _ _=>hx,fun x o hx _=>⟨o.slots,hx⟩⟩)
theorem flightX(he:s.heap.get? e=some oe)(hd:oe.data=.fields vs)(ht:TbAt s.heap e vs T fl)(hTf:T∉fr)(h:∀h',LeftX fr e oe vs (f.elim .none fun f=>Di f) s.heap h'->Q () { s with heap:=h' }):wpAny M A (setFlight (.ref e) f) Q E s:=by
 obtain⟨h1,hTe,oT,ts,hT,hdT,h3⟩:=ht;have other:∀b,b≠T->(s.heap.update T (Fq (·.setIfInBounds 3 (f.elim Value.none fun f=>Di f)))).get? b=s.heap.get? b:=fun b hb=>Bx _ _ (Cv hb)
 refine Ab (Bz he hd h1 ?_);refine Fy hT hdT (Du.mp h3).1 (h _ ⟨⟨T,.inr h1,hTe,?_,_,_,Ex _ hT (Iq (Ea hdT _)),Ea hdT _,?_⟩,fun x o hx _ hx1 _=>?_,fun x o hx hxf=>?_⟩)
 ·rw[z1p hd h1,other e (Cv hTe)];exact he
 ·simp[(Du.mp h3).1]
 ·rw[other x fun z=>hx1 (by rw[z];exact h1)];exact hx
 ·rw[other x fun z=>hTf (z▸hxf)];exact⟨o.slots,hx⟩
end
open PySem PySem.Spec PyProof.Rows
def ExO(C:Value)(dd:Option Addr)(e:Addr):HO:=.ext fun h=>∃vs sl,h.get? e=some { cls:=C,dict:=dd,data:=.fields vs,slots:=sl }/\vs.size=6
structure FlX (X:Cx) (pins:List (Addr×Obj)) (H:Hp) (s:Af) (e:Addr):Prop where
 at_:∃C dd,H e=some (ExO C dd e)
 tb:∃oe vs,s.heap.get? e=some oe/\oe.data=.fields vs/\TbOk X.env.locals s.heap e vs/\∀T,vs[1]?=some (.ref T)->X.s₀.heap.objs.size<=T/\H T=none/\T≠X.env.locals/\(∀x c,X.env.cells.lookup x=some c->c≠T)/\∀p∈X.pn++pins,p.1≠T
 new:X.s₀.heap.objs.size<=e
section
variable{X:Cx}{pins:List (Addr×Obj)}{σ:St}{H:Hp}{s:Af}{e:Addr}{oe:Obj}{vs:Array Value}{fl:Value}{h':Heap}
def chOf(vs:Array Value):List Addr:=match vs[(1:Nat)]? with|some (Value.ref T)=>[T]|_=>[]
theorem chOf_mem:b∈chOf vs↔vs[(1:Nat)]?=some (Value.ref b):=by
 unfold chOf;constructor
 ·intro h;split at h
  ·simp_all
  ·cases h
 ·simp_all
theorem Inv.leftX(I:Inv X pins σ H s)(F:FlX X pins H s e)(he:s.heap.get? e=some oe)(hd:oe.data=.fields vs)(hfl:fl=.none\/fl=Di X.env.locals)(hT:∀T,vs[1]?=some (.ref T)->X.s₀.heap.objs.size<=T/\H T=none/\T≠X.env.locals/\(∀x c,X.env.cells.lookup x=some c->c≠T)/\∀p∈X.pn++pins,p.1≠T)(L:LeftX (frs X.stack) e oe vs fl s.heap h'):Inv X pins σ H { s with heap:=h' }/\FlX X pins H { s with heap:=h' } e/\∃oe' vs' T,h'.get? e=some oe'/\oe'.data=.fields vs'/\TbAt h' e vs' T fl:=by
 obtain⟨C,dd,hE⟩:=F.at_;obtain⟨T',hT'1,hT'e,hE',oT,ts,q1,q2,q3⟩:=L.ex;have hne:∀b,H b=none->b≠e:=fun b h z=>by rw[z,hE] at h;cases h
 have un:Un (frs X.stack) (chOf vs) H H s.heap h':=⟨fun b o hb n hf hc=>L.keep b o hb (hne b n) (fun z=>hc (chOf_mem.mpr z)) hf,fun b o hb n hf hc=>L.slot b o hb hf,fun _ _ _ n _=>n,fun b o hb hc=>by
   by_cases z:b=e
   ·simp_all
   ·by_cases y:b∈frs X.stack
    ·obtain⟨sl,k⟩:=L.slot b o hb y;exact⟨_,k⟩
    ·exact⟨o,L.keep b o hb z (fun x=>hc (chOf_mem.mpr x)) y⟩,
  fun _ _ q=>q,fun _ _ _ q=>q,fun _ ps q=>⟨#[],by rw[q];simp⟩⟩
 have hsz6:vs.size=6/\oe.cls=C/\oe.dict=dd:=by
  obtain⟨⟨vs2,sl,z,z6⟩,_,_⟩:=I.hok e _ hE;rw[he] at z;cases z;cases hd;exact⟨z6,rfl,rfl⟩
 have hok:HOk X.prog X.w H h':=fun a o ha=>by
  by_cases z:a=e
  ·subst z;rw[hE] at ha;cases ha;refine⟨⟨vs.setIfInBounds 1 (.ref T'),oe.slots,?_,by simpa using hsz6.1⟩,⟨_,hE'⟩,fun h1 h2 ⟨ws,sl,k1,k2⟩ k=>⟨ws,sl,k _ k1,k2⟩⟩;rw[hE'];obtain⟨c,d,dt,sl⟩:=oe;cases hd;obtain⟨_,rfl,rfl⟩:=hsz6;rfl
  ·refine(I.hok a o ha).stay (fun b u hb hu=>?_) (fun _ q=>q) fun _ _ q=>q;have hbt:H b≠none/\b≠e:=by
    rcases hb with rfl|hb
    ·grind
    ·refine⟨by rw[hb];simp,fun y=>?_⟩;rw[y,hE] at hb;cases hb
   exact L.keep b u hu hbt.2 (fun y=>hbt.1 (hT b y).2.1) fun y=>hbt.1 (I.stkFree b y)
 have hch:∀b∈chOf vs,(b∈X.ex\/X.s₀.heap.objs.size<=b)/\b≠X.env.locals/\(∀x c,X.env.cells.lookup x=some c->c≠b)/\∀p∈X.pn++pins,p.1≠b:=fun b hb=>by
  obtain⟨a1,_,a3,a4,a5⟩:=hT b (chOf_mem.mp hb);exact⟨.inr a1,a3,a4,a5⟩
 have I':Inv X pins σ H { s with heap:=h' }:=I.call' (s':={ s with heap:=h' }) rfl un hok I.bare hch;have hd':=Ea hd (·.setIfInBounds 1 (Value.ref T'));have hlt1:1<vs.size:=by grind
 have hTb:TbAt h' e (vs.setIfInBounds 1 (.ref T')) T' fl:=⟨by simp[hlt1],hT'e,oT,ts,q1,q2,q3⟩
 refine⟨I',⟨⟨C,dd,hE⟩,⟨_,_,hE',hd',.inr ⟨T',?_⟩,fun T hTT=>?_⟩,F.new⟩,_,_,T',hE',hd',hTb⟩
 ·lia
 ·have:T=T':=by
   have z:=hTb.1;rw[z] at hTT;injection hTT with y;injection y with y;exact y.symm
  subst this;rcases hT'1 with k|k
  ·refine⟨Cn I.sz k,I.hok.fresh k,fun z=>absurd I.lt (Ic.mpr (z▸k)),fun x c hx z=>?_,fun p hp z=>?_⟩
   ·obtain⟨v,o,ho,_⟩:=I.cell x c hx;exact absurd (Am ho) (Ic.mpr (z▸k))
   ·obtain⟨ho,_⟩:=I.pin p hp;exact absurd (Am ho) (Ic.mpr (z▸k))
  ·exact hT T k
def XE(X:Cx)(J:Addr->St->Hp->Prop)(e:Value)(s:Af):Prop:=∃pins σ H ea,e=.ref ea/\Inv X pins σ H s/\FlX X pins H s ea/\J ea σ H
theorem frs_eq(hst:X.stack=X.env::X.outer):frs X.stack=(X.env::X.outer).filterMap (·.frame):=by rw[hst];rfl
end
open PySem PySem.Spec PyProof.Rows
def CXR(P:Program)(w:World):CXT:=fun outer H s E e s'=>∃ea H',e=.ref ea/\s'.os=s.os/\Kj s'.gens/\Un (frs outer) [] H H' s.heap s'.heap/\HOk P w H' s'.heap/\s.heap.objs.size<=ea/\(∃C dd,H' ea=some (ExO C dd ea)) /\
 (∃oe vs,s'.heap.get? ea=some oe/\oe.data=.fields vs/\(vs[1]?=some .none\/∃T,TbAt s'.heap ea vs T .none)/\∀T,vs[1]?=some (.ref T)->s.heap.objs.size<=T/\H' T=none)/\E (.ref ea) none H'
section
variable{X:Cx}{J J':Addr->St->Hp->Prop}{E:Value->Af->Prop}{e:Value}{s:Af}
theorem FlX.wish(F:FlX X pins H s ea)(E:Value->Af->Prop):FlX (X.wish E) pins H s ea:=⟨F.at_,F.tb,F.new⟩
theorem FlX.unwish(F:FlX (X.wish E) pins H s ea):FlX X pins H s ea:=⟨F.at_,F.tb,F.new⟩
theorem XE.wish(h:XE X J e s):XE (X.wish E) J e s:=by
 obtain⟨pins,σ,H,ea,rfl,I,F,j⟩:=h;exact⟨pins,σ,H,ea,rfl,I.wish _,F.wish _,j⟩
theorem XE.unwish(h:XE (X.wish E) J e s):XE X J e s:=by
 obtain⟨pins,σ,H,ea,rfl,I,F,j⟩:=h;exact⟨pins,σ,H,ea,rfl,I.unwish,F.unwish,j⟩
structure AccX (X:Cx) (J:Addr->St->Hp->Prop):Prop where
 acc:∀e s,XE X J e s->X.xe e s
theorem AccX.of:AccX (X.wish (XE X J)) J:=⟨fun _ _ h=>h.unwish⟩
theorem PSs.wishX{st:List Stmt}(hE:∀e s,E e s->X.xe e s)(h:PSs (X.wish E) st t):PSs X st t:=fun pins s σ H D I hw =>
 Bu (h pins s σ H D (I.wish _) hw) (fun _ _ q=>q.unwish) hE
theorem leaves{K:Ah}(h:XE (cxOf (CXR P w) P w K mg base N qual scope f cd A outer s₀ H₀ E₀) (fun ea _ H'=>E₀ (.ref ea) none H') e s):(cxOf (CXR P w) P w K mg base N qual scope f cd A outer s₀ H₀ E₀).xe e s:=by
 obtain⟨pins,σ,H,ea,rfl,I,F,j⟩:=h;obtain⟨oe,vs,he,hd,ht,hT⟩:=F.tb;refine Ab (noteX I.ok.frames I.stack rfl he hd ht fun h1 L1=>?_);obtain⟨I1,F1,oe1,vs1,T1,e1,d1,t1⟩:=I.leftX F he hd (.inr rfl) hT L1;have hT1f:T1∉frs (cxOf (CXR P w) P w K mg base N qual scope f cd A outer s₀ H₀ E₀).stack:=fun hm=>by
  obtain⟨_,_,oT,ts,q1,q2,_⟩:=t1;obtain⟨_,o,ho,hnf⟩:=I1.stack.mem hm;rw[q1] at ho;injection ho with ho;subst ho;exact hnf ts q2
 obtain⟨oe1',vs1',e1',d1',_,hT1⟩:=F1.tb;have q:oe1'=oe1/\vs1'=vs1:=by grind
 obtain⟨rfl,rfl⟩:=q;refine flightX e1 d1 t1 hT1f fun h2 L2=>?_
 obtain⟨I2,F2,oe2,vs2,T2,e2,d2,t2⟩:=I1.leftX F1 e1 d1 (.inl rfl) hT1 L2;obtain⟨oe2',vs2',e2',d2',_,hT2⟩:=F2.tb;have q:oe2'=oe2/\vs2'=vs2:=by grind
 obtain⟨rfl,rfl⟩:=q;exact⟨ea,H,rfl,I2.os,I2.bare,I2.base,I2.hok,F2.new,F2.at_,⟨_,_,e2,d2,.inr ⟨T2,t2⟩,fun T hTT=>⟨(hT2 T hTT).1,(hT2 T hTT).2.1⟩⟩,j⟩
end
abbrev cxX(P:Program)(w:World)(K:Ah)(mg:Str->Option Value)(base:Heap)(N:List Str)(qual:Str)(scope:Scope)(f:Addr)(cd:Value)(A:Around)(outer:List Env)(s:Af)(H:Hp)(E:XK):Cx :=
 (cxOf (CXR P w) P w K mg base N qual scope f cd A outer s H E).wish (XE (cxOf (CXR P w) P w K mg base N qual scope f cd A outer s H E) fun ea _ H'=>E (.ref ea) none H')
section
variable{P:Program}{w:World}{K:Ah}{mg:Str->Option Value}{base:Heap}
theorem accX:AccX (cxX P w K mg base N qual scope f cd A outer s H E) fun ea _ H'=>E (.ref ea) none H':=AccX.of
theorem Fun.okX{st:Stmt}(F:Fun K x qual st f fd)(S:FnScope N ps (defScope st))(len:∀vs H Q E,sp vs H Q E->vs.length=ps.length)(hbody:∀(cdv:Value) (A:Around) (outer:List Env) (s:Af) (H:Hp) (vs:List V) (Q:VK) (E:XK),Room k (A.deeper (Gu qual (defScope st) s.heap.objs.size f cdv))->sp vs H Q E ->
   ∃t,PSs (cxX P w K mg base N qual (defScope st) f cdv A outer s H E) (defBody st) t/\t { nx:=fun _ H'=>Q .non H',rt:=Q } (start N vs) H):FnOk P w K mg base (CXR P w) (k+1) f fd ps sp:=by
 obtain⟨oc,od,kV,doc,pm,an,cdv,ct,osl,rfl,lk,hcd⟩:=F.ex;refine z6p lk hcd S len fun A outer s H vs Q E hr hsp=>?_
 obtain⟨t,h,q⟩:=hbody cdv A outer s H vs Q E hr hsp;exact⟨t,PSs.wishX (fun e s' z=>leaves z) h,q⟩
structure CalX (P:Program) (w:World) (K:Ah) (mg:Str->Option Value) (base:Heap) (x:Str) (k:Nat) (ps:List Str) (sp:Sp):Prop where
 ex:∃f fd,FnOk P w K mg base (CXR P w) k f fd ps sp/\mg x=some (.ref f)/\Ew K (.ref f)=true/\Binds K fd ps []
theorem Df.calX{st:Stmt}(D:Df K mg x st ps)(S:FnScope N ps (defScope st))(len:∀vs H Q E,sp vs H Q E->vs.length=ps.length)(hbody:∀(f:Addr) (cdv:Value) (A:Around) (outer:List Env) (s:Af) (H:Hp) (vs:List V) (Q:VK) (E:XK),Room k (A.deeper (Gu x (defScope st) s.heap.objs.size f cdv))->sp vs H Q E ->
   ∃t,PSs (cxX P w K mg base N x (defScope st) f cdv A outer s H E) (defBody st) t/\t { nx:=fun _ H'=>Q .non H',rt:=Q } (start N vs) H):CalX P w K mg base x (k+1) ps sp:=by
 obtain⟨f,fd,F,hm,hb⟩:=D.ex;exact⟨f,fd,F.okX S len fun cdv A outer s H vs Q E hr h=>hbody f cdv A outer s H vs Q E hr h,hm,F.kp,hb⟩
end
section
variable{X:Cx}{J:Addr->St->Hp->Prop}{k j:Nat}{f:Addr}{fd:Ja}{ps:List Str}{sp:Sp}{x:Str}{p pos:Pos}{e:Expr}{es:List Expr}{t:TA}
def tCallX(sp:Sp)(J:Addr->St->Hp->Prop)(t:TA):TE:=fun σ H Q=>t σ H fun vs H1=>sp vs H1 Q fun e _ H'=>∀ea,e=.ref ea->J ea σ H'
theorem x4d{σ:St}(F:FnOk X.prog X.w X.K X.mg X.base (CXR X.prog X.w) k f fd ps sp)(hr:Room k X.A)(hb:Binds X.K fd ps [])(hx:AccX X J)(I:Inv X pins σ H s)(r:Vals vs us)(h:sp vs H Q fun e _ H'=>∀ea,e=.ref ea->J ea σ H'):wpAny (model X.prog X.w) X.A (call (.ref f) us) (EP X pins σ Q) X.xe s:=by
 have hl:(us++[]).length=ps.length:=by rw[Bt,<- r.length];exact F.len _ _ _ _ h
 have hb':=hb s us I.kIn hl;rw[Bt] at hb';refine Hw (Hj (F.run X.A X.stack s H ⟨us,[]⟩ us vs Q _ hr I.env0 hb' r h) fun r s' hq=>?_);cases r with
 |error e =>
  obtain⟨ea,H',rfl,os,bare,un,hok,hnew,hat,⟨oe,ws,he,hd,ht,hT⟩,j⟩:=hq;have I':=I.call' os un hok bare fun b z=>absurd z (by simp)
  refine hx.acc _ _ ⟨pins,σ,H',ea,rfl,I',⟨hat,⟨oe,ws,he,hd,?_,fun T hTT=>?_⟩,Cn I.sz hnew⟩,j ea rfl⟩
  ·rcases ht with z|⟨T,z⟩
   ·exact .inl z
   ·exact .inr ⟨T,.inl z⟩
  ·obtain⟨a1,a2⟩:=hT T hTT;refine⟨Cn I.sz a1,a2,fun z=>absurd I.lt (Ic.mpr (z▸a1)),fun y c hy z=>?_,fun q hq z=>?_⟩
   ·obtain⟨v,o,ho,_⟩:=I.cell y c hy;exact absurd (Am ho) (Ic.mpr (z▸a1))
   ·obtain⟨ho,_⟩:=I.pin q hq;exact absurd (Am ho) (Ic.mpr (z▸a1))
 |ok fl =>
  cases fl with
  |ret u=>exact I.after hq
  |next=>exact False.elim hq
  |brk=>exact False.elim hq
  |cont=>exact False.elim hq
theorem z2v(C:CalX X.prog X.w X.K X.mg X.base x k ps sp)(hr:Room j X.A)(hx:AccX X J)(ha:PA X (e::es) t)(hjk:k<=j:=by decide)(hg:Gl X x:=by rfl)(hdb:(x==("__debug__" : Str))=false:=by decide)(he:Be (e::es) X.env=(false,eval e X.env)::Be es X.env:=by rfl)(hpl:(Eh pos (Be es X.env)).any (·.1)=false:=by rfl):
  PE X (.Call (.Name x p) (e::es) [] pos) (tCallX sp J t):=by
 obtain⟨f,fd,F,hm,hk,hb⟩:=C.ex;intro pins s σ H Q I h;refine Ge (q5o I hg hm ?_ hdb);refine Mb I.ok.mod.kin hk (thn (ha pos pins s σ H _ I h) fun us s1 ⟨vs,H1,I1,r,q⟩=>⟨I1.kIn,?_⟩) he hpl;exact x4d F (hr.mono hjk) hb hx I1 r q
end
open PySem PySem.Spec PyProof.Rows
structure ECls (K:Ah) (C:Addr) (bm:List Value):Prop where
 ex:∃nm q N bs hdct sn sub ab col dd k0 k1 k2 k3 k5 newId,K.lookup C=some (Ed nm q C N bs bm hdct sn sub ab col dd k0 k1 k2 k3 k5 newId)
 base:bm.contains (.type "BaseException")=true
section
variable{M:Model}{A:Around}{E:Value->Af->Prop}{h:Heap}{g:Array Oe}{d:Drawn}{t:Nat}{os:Lo}
variable{nm q:Str}{C N:Addr}{bs bm:List Value}{hdct:Bool}{sn:List Str}{sub:List Value}{ab:Bool}{col:Option Bool}{dd:Option Addr}{k0 k1 k2 k3 k5:Option Value}{newId:String}
variable{nm' q':Str}{D N':Addr}{bs' bm':List Value}{hdct':Bool}{sn':List Str}{sub':List Value}{ab':Bool}{col':Option Bool}{dd':Option Addr}{k0' k1' k2' k3' k5':Option Value}{newId':String}
theorem excMatchX(hC:h.get? C=some (Ed nm q C N bs bm hdct sn sub ab col dd k0 k1 k2 k3 k5 newId))(hD:h.get? D=some (Ed nm' q' D N' bs' bm' hdct' sn' sub' ab' col' dd' k0' k1' k2' k3' k5' newId'))(he:h.get? e=some oe)(hcls:oe.cls=.ref C)(hbase:bm'.contains (.type "BaseException")=true)(hq:Q ((Value.ref C::bm).contains (.ref D)) ⟨h,g,d,t,os⟩):wpAny M A (excMatches (.ref e) (.ref D)) Q E ⟨h,g,d,t,os⟩:=by
 have hcB:(Value.ref D::bm').contains (.type "BaseException")=true:=by grind
 have f:=tc_notTuple;repeat (first|(with_reducible refine Fm he ?_;rw[hcls])|with_reducible refine Fm hD ?_|(with_reducible refine Jp hD ?_;rw[hcB])|(with_reducible refine Jp hC ?_)|wp_step)
 cases hb:(Value.ref C::bm).contains (.ref D)<;>(rw[hb] at hq;wp_walk;exact hq)
end
section
variable{X:Cx}{pins:List (Addr×Obj)}{σ:St}{H:Hp}{s:Af}
theorem q9s(I:Inv X pins σ H s)(hN:X.N.Nodup)(hi:X.N[i]?=some x)(hk:X.env.scope.names.lookup x=some .local)(h:∀s',Inv X pins (σ.set i none) H s'->Q () s'):wpAny M A (do bindName X.env x .none;unbindBehindTheSuite X.env x pos) Q E s:=by
 obtain⟨m,hn,hl⟩:=id I.loc;have hcls:(X.env.scope.kind==.class||(X.env.scope.kind==.module&&X.env.locals != X.env.globals))=false:=by rw[I.ok.kind];rfl
 have hiσ:i<σ.length:=by rw[I.len];exact(Bb.mp hi).1
 have cne:=I.cne;have tracked:∀{a:Addr} {h':Heap},(∃o,s.heap.get? a=some o/\H a=none)->Ep a s.heap h'->HOk X.prog X.w H h':=fun{a h'} ha hs b ob e=>by
  refine(I.hok b ob e).stay (fun c w' hc q=>(hs.2 c ?_).trans q) (fun _ q=>q) fun _ _ q=>q;rcases hc with rfl|hc
  ·grind
  ·grind
 refine wpAny_nameGoes_keeps hk hn hcls fun h' v hn' hs=>?_;obtain⟨oL,_,_,hoL,_⟩:=id hn;refine h _ ⟨I.ok,I.os,I.bare,⟨fun b o e n hb hx=>?_,fun b o e n hb hx=>?_,I.base.free,fun b o e hx=>?_,I.base.tups,I.base.frzs,I.base.tbls⟩,⟨_,hn',fun j y v' e1 e2 e3=>?_⟩,fun y c e=>?_,I.free,I.freeC,fun p hp=>?_,tracked ⟨oL,hoL,I.free⟩ hs,by simpa using I.len⟩
 ·exact(hs.2 b (Bc (Bj (Am e) I.ok.above))).trans (I.base.keep b o e n hb hx)
 ·obtain⟨sl,e1⟩:=I.base.slot b o e n hb hx;exact⟨sl,(hs.2 b (Bc (Bj (Am e) I.ok.above))).trans e1⟩
 ·obtain⟨o',e1⟩:=I.base.there b o e hx;exact⟨o',(hs.2 b (Bc (Bj (Am e) I.ok.above))).trans e1⟩
 ·by_cases hj:j=i
  ·simp_all
  ·rw[Ly (Cv hj)] at e2;obtain⟨u',r',q⟩:=hl j y v' e1 e2 e3;refine⟨u',r',?_⟩;rcases q with⟨k,e⟩|⟨k,c,e,z⟩
   ·refine .inl ⟨k,?_⟩;have:y≠x:=fun e=>hj (q9b hN e1 (e▸hi));simp[this,e]
   ·exact .inr ⟨k,c,e,z.sameBut hs (cne y c e)⟩
 ·obtain⟨w',z⟩:=I.cell y c e;exact⟨w',z.sameBut hs (cne y c e)⟩
 ·obtain⟨e,n,ne,nf,d⟩:=I.pin p hp;exact⟨(hs.2 p.1 ne).trans e,n,ne,nf,d⟩
abbrev Cx.pinned(X:Cx)(pn:List (Addr×Obj)):Cx:={ X with pn:=pn }
theorem Cx.Ok.pinned{pn:List (Addr×Obj)}(ok:X.Ok):(X.pinned pn).Ok:=⟨ok.mod,ok.kind,ok.glob,ok.blt,ok.above,ok.inj,ok.has,ok.cab,ok.hd,ok.frames,ok.stk,ok.exf,ok.bs,ok.bsz,ok.noex,ok.exfs,ok.funs,ok.frf⟩
theorem Cx.Ok.unpin{pn:List (Addr×Obj)}(ok:(X.pinned pn).Ok):X.Ok:=⟨ok.mod,ok.kind,ok.glob,ok.blt,ok.above,ok.inj,ok.has,ok.cab,ok.hd,ok.frames,ok.stk,ok.exf,ok.bs,ok.bsz,ok.noex,ok.exfs,ok.funs,ok.frf⟩
theorem Inv.toPn(I:Inv X pins σ H s):Inv (X.pinned (X.pn++pins)) [] σ H s:=⟨I.ok.pinned,I.os,I.bare,I.base,I.loc,I.cell,I.free,I.freeC,fun p hp=>I.pin p (by simpa using hp),I.hok,I.len⟩
theorem Inv.ofPn(I:Inv (X.pinned (X.pn++pins)) pins' σ H s):Inv X pins σ H s:=⟨I.ok.unpin,I.os,I.bare,I.base,I.loc,I.cell,I.free,I.freeC,fun p hp=>I.pin p (Dc _ hp),I.hok,I.len⟩
theorem FlX.ofPn(F:FlX (X.pinned (X.pn++pins)) pins' H s e):FlX X pins H s e:=by
 obtain⟨oe,vs,h1,h2,h3,h4⟩:=F.tb;exact⟨F.at_,⟨oe,vs,h1,h2,h3,fun T hT=>let ⟨a,b,c,d,f⟩:=h4 T hT;⟨a,b,c,d,fun p hp=>f p (Dc _ hp)⟩⟩,F.new⟩
abbrev Cx.hand(X:Cx)(e:Addr):Cx:={ X with A:=X.A.mark (some (.ref e)),calm:=false,xe:=fun _ _=>False }
theorem Cx.Ok.hand(ok:X.Ok):(X.hand e).Ok:=⟨ok.mod,ok.kind,ok.glob,ok.blt,ok.above,ok.inj,ok.has,ok.cab,(fun z=>by cases z),ok.frames,ok.stk,ok.exf,ok.bs,ok.bsz,ok.noex,ok.exfs,ok.funs,ok.frf⟩
theorem Inv.hand(I:Inv X pins σ H s)(e:Addr):Inv (X.hand e) pins σ H s:=⟨I.ok.hand,I.os,I.bare,I.base,I.loc,I.cell,I.free,I.freeC,I.pin,I.hok,I.len⟩
theorem Inv.unhand(I:Inv (X.hand e) pins σ H s)(ok:X.Ok):Inv X pins σ H s:=⟨ok,I.os,I.bare,I.base,I.loc,I.cell,I.free,I.freeC,I.pin,I.hok,I.len⟩
def SubX(K:Ah)(C:Value)(D:Addr):Prop:=∃c bm,C=.ref c/\ECls K c bm/\(Value.ref c::bm).contains (.ref D)=true
def gone(i:Nat)(D:Ends):Ends:=⟨fun σ H=>D.nx (σ.set i none) H,D.rt,fun σ H=>D.bk (σ.set i none) H,fun σ H=>D.ct (σ.set i none) H⟩
def tTry(K:Ah)(i:Nat)(C:Addr)(th:TS)(tb:(Addr->St->Hp->Prop)->TS):TS:=fun D σ H=>∃J:Addr->St->Hp->Prop,
 (∀ea σ' H',J ea σ' H'->(∃c dd,H' ea=some (ExO c dd ea)/\SubX K c C)/\th (gone i D) (σ'.set i (some (.ref ea))) H')/\tb J D σ H
theorem ps_try(K:Ah)(hK:X.K=K)(hst:X.stack=X.env::X.outer)(hf:X.env.frame=some X.env.locals)(hN:X.N.Nodup)(hi:X.N[i]?=some n)(hk:X.env.scope.names.lookup n=some .local)(hg:Gl X dn)(hm:X.mg dn=some (.ref C))(eC:ECls X.K C bmC)(hb:∀pn J,PSs ((X.pinned pn).wish (XE (X.pinned pn) J)) body (tb J))(hh:∀ea,PSs (X.hand ea) (b₀::suite) th)(hdb:(dn==("__debug__" : Str))=false:=by decide):
  PS X (.Try body [.ExceptHandler (some (.Name dn dp)) (some n) (b₀::suite) hp] [] [] pos) (tTry K i C th tb):=by
 subst hK;intro pins s σ H D I ⟨J,hJ,q⟩;refine wpAny_Try_except (Bu (hb (X.pn++pins) J [] s σ H D (I.toPn.wish _) q) (fun f s1 z=>?_) fun e s1 z=>?_)
 ·have z':=z.unwish;have z2:SP X pins D f s1:=by
   cases f with
   |next=>obtain⟨σ',H',I',q'⟩:=z';exact⟨σ',H',I'.ofPn,q'⟩
   |brk=>obtain⟨σ',H',I',q'⟩:=z';exact⟨σ',H',I'.ofPn,q'⟩
   |cont=>obtain⟨σ',H',I',q'⟩:=z';exact⟨σ',H',I'.ofPn,q'⟩
   |ret u=>obtain⟨v,σ',H',I',r,q'⟩:=z';exact⟨v,σ',H',I'.ofPn,r,q'⟩
  cases f with
  |next=>exact Hv z2
  |ret v=>exact z2
  |brk=>exact z2
  |cont=>exact z2
 ·obtain⟨pins',σ1,H1,ea,rfl,I1,F1,j⟩:=z;have I1:=I1.ofPn;have F1:=F1.ofPn;obtain⟨⟨c,dd,hat,cc,bm,rfl,eCc,hsub⟩,hth⟩:=hJ ea σ1 H1 j;obtain⟨oe,vs,he,hd,ht,hT⟩:=F1.tb;have hfr:X.A.frames=some (X.env::X.outer):=by rw[<- hst];exact I.ok.frames
  have hl:s1.heap.FunFrames X.base (X.env::X.outer):=by rw[<- hst];exact I1.stack
  refine noteX hfr hl hf he hd ht fun h2 L2=>?_;rw[<- frs_eq hst] at L2;obtain⟨I2,F2,oe2,vs2,T2,e2,d2,t2⟩:=I1.leftX F1 he hd (.inr rfl) hT L2;have land:∀{s':Af} {oe:Obj} {vs:Array Value} {T:Addr} {fl:Value} {Aa:Around} {Ee:Value->Af->Prop} {Q:Unit->Af->Prop},Inv X pins σ1 H1 s'->FlX X pins H1 s' ea->s'.heap.get? ea=some oe->oe.data=.fields vs->TbAt s'.heap ea vs T fl ->
    (∀h',Inv X pins σ1 H1 { s' with heap:=h' }->FlX X pins H1 { s' with heap:=h' } ea->(∃oe' vs' T',h'.get? ea=some oe'/\oe'.data=.fields vs'/\TbAt h' ea vs' T' .none)->Q () { s' with heap:=h' })->wpAny (model X.prog X.w) Aa (setFlight (.ref ea) none) Q Ee s':=by
   intro s' oe vs T fl Aa Ee Q I' F' e' d' t' k;have hTf:T∉frs X.stack:=fun hm=>by
    obtain⟨_,_,oT,ts,q1,q2,_⟩:=t';obtain⟨_,o,ho,hnf⟩:=I'.stack.mem hm;rw[q1] at ho;injection ho with ho;subst ho;exact hnf ts q2
   obtain⟨oe1',vs1',e1',d1',_,hT1⟩:=F'.tb;have q:oe1'=oe/\vs1'=vs:=by grind
   obtain⟨rfl,rfl⟩:=q;refine flightX e' d' t' hTf fun h3 L3=>?_
   obtain⟨I3,F3,oe3,vs3,T3,e3,d3,t3⟩:=I'.leftX F' e' d' (.inl rfl) hT1 L3;exact k h3 I3 F3 ⟨oe3,vs3,T3,e3,d3,t3⟩
  refine land I2 F2 e2 d2 t2 fun h3 I3 F3 ⟨oe3,vs3,T3,e3,d3,t3⟩=>?_;refine wpAny_handleBy_cons (codeAny_handlers_test ?_) (by intro z;cases z);refine q5o (I3.hand ea) hg hm ?_ hdb;obtain⟨nm,q0,N,bs,hdct,sn,sub,ab,col,dd0,k0,k1,k2,k3,k5,newId,lk⟩:=eCc.ex;obtain⟨nm',q0',N',bs',hdct',sn',sub',ab',col',dd0',k0',k1',k2',k3',k5',newId',lk'⟩:=eC.ex;have hcls:∃oe,h3.get? ea=some oe/\oe.cls=.ref cc:=by
   obtain⟨⟨ws,sl,z,_⟩,_,_⟩:=I3.hok ea _ hat;exact⟨_,z,rfl⟩
  obtain⟨oe4,e4,c4⟩:=hcls;refine excMatchX (I3.kIn _ _ lk) (I3.kIn _ _ lk') e4 c4 eC.base ?_;rw[hsub];refine codeAny_handlers_suite_as (land I3 F3 e3 d3 t3 fun h5 I5 F5 _=>?_);refine q9c (X:=X.hand ea) (I5.hand ea) hN hi (.inl hk) (show RelV (.ref ea) (.ref ea) from rfl) (fun s6 I6=>?_) (.inr hk);refine Bu (hh ea pins s6 _ H1 (gone i D) I6 hth) (fun f s7 z=>?_) fun _ _ z=>z.elim
  cases f with
  |next =>
   obtain⟨σ',H',I',q'⟩:=z;exact q9s (I'.unhand I.ok) hN hi hk fun s8 I8=>⟨_,H',I8,q'⟩
  |brk =>
   obtain⟨σ',H',I',q'⟩:=z;exact q9s (I'.unhand I.ok) hN hi hk fun s8 I8=>⟨_,H',I8,q'⟩
  |cont =>
   obtain⟨σ',H',I',q'⟩:=z;exact q9s (I'.unhand I.ok) hN hi hk fun s8 I8=>⟨_,H',I8,q'⟩
  |ret u =>
   obtain⟨v,σ',H',I',r,q'⟩:=z;exact q9s (I'.unhand I.ok) hN hi hk fun s8 I8=>⟨v,_,H',I8,r,q'⟩
end
open PySem PySem.Spec PyProof.Rows
section
variable{prog:Program}{w:World}{A:Around}{E:Value->Af->Prop}{h:Heap}{g:Array Oe}{d:Drawn}{t:Nat}{os:Lo}
variable{nm q:Str}{C N:Addr}{bs bm bmB:List Value}{hdct:Bool}{sn:List Str}{sub:List Value}{ab:Bool}{col:Option Bool}{dd:Option Addr}{k0 k1 k2 k3 k5:Option Value}{B newId initId:String}
theorem raiseX(hbase:bm.contains (.type "BaseException")=true)(hh:A.handled=none)(h:wpAny M A x (fun v s₁=>∃e de vs sl,v=.ref e/\s₁.heap.get? C=some (Ed nm q C N bs bm hdct sn sub ab col dd k0 k1 k2 k3 k5 newId) /\
   s₁.heap.get? e=some { cls:=.ref C,dict:=de,data:=.fields vs,slots:=sl }/\vs[1]?=some .none/\E (.ref e) s₁) E s):
  wpAny M A (raiseStmt env (some x) none) Q E s:=by
 have hcB:(Value.ref C::bm).contains (.type "BaseException")=true:=by grind
 refine Ab (Bu h (fun v s₁ h₁=>?_) fun _ _ x=>x);obtain⟨e,de,vs,sl,rfl,hC,he,h1,hE⟩:=h₁;repeat (first|with_reducible refine Fm he ?_|with_reducible refine Fm hC ?_|(with_reducible refine Jp hC ?_;rw[hcB])|(with_reducible refine Bz he rfl h1 ?_)|wp_step)
 exact wpAny_raiseNew_none hh hE
end
open PySem PySem.Spec PyProof.Rows
def ExN(C:Value)(dd:Option Addr)(e:Addr):HO:=.ext fun h=>∃vs sl,h.get? e=some { cls:=C,dict:=dd,data:=.fields vs,slots:=sl }/\vs.size=6/\vs[1]?=some .none
abbrev bmV:List Value:=[.type "ValueError",.type "Exception",.type "BaseException",.type "object"]
section
variable{X:Cx}{pins:List (Addr×Obj)}{σ:St}{H:Hp}{s:Af}{e:Addr}
theorem Inv.asO(I:Inv X pins σ H s)(h:H e=some (ExN C dd e)):Inv X pins σ (upd H e (ExO C dd e)) s:=by
 have un:Un (frs X.stack) [] H (upd H e (ExO C dd e)) s.heap s.heap:=by
  have hk:∀{b:Addr} {o:HO},H b=some o->b≠e\/o=ExN C dd e:=fun{b o} hb=>by
   by_cases z:b=e
   ·grind
   ·exact .inl z
  refine⟨fun b o hb _ _ _=>hb,fun b o hb _ _ _=>⟨o.slots,hb⟩,fun b o _ n _=>?_,fun b o hb _=>⟨o,hb⟩,fun b xs q=>?_,fun b o u q=>?_,fun b ps q=>⟨#[],?_⟩⟩
  ·rw[q0e (fun z=>by rw[z,h] at n;cases n)];exact n
  ·rcases hk q with z|z
   ·rw[q0e z];exact q
   ·cases z
  ·rcases hk q with z|z
   ·rw[q0e z];exact q
   ·cases z
  ·rcases hk q with z|z
   ·rw[q0e z,q];simp
   ·cases z
 have hok:HOk X.prog X.w (upd H e (ExO C dd e)) s.heap:=fun a o ha=>by
  by_cases z:a=e
  ·subst z;rw[q0b] at ha;cases ha;obtain⟨⟨vs,sl,q1,q2,_⟩,q3,_⟩:=I.hok a _ h;exact⟨⟨vs,sl,q1,q2⟩,q3,fun h1 h2 ⟨ws,sl,k1,k2⟩ k=>⟨ws,sl,k _ k1,k2⟩⟩
  ·rw[q0e z] at ha;refine(I.hok a o ha).stay (fun b u _ q=>q) (fun b q=>?_) fun b xs q=>?_
   ·rw[q0e (fun y=>by rw[y,h] at q;cases q)];exact q
   ·rw[q0e (fun y=>by rw[y,h] at q;cases q)];exact q
 exact I.call' (s':=s) rfl un hok I.bare fun b z=>absurd z (by simp)
end
open PySem PySem.Spec PyProof.Rows
section
variable{prog:Program}{w:World}{A:Around}{R:Result->Af->Prop}{h:Heap}{g:Array Oe}{d:Drawn}{t:Nat}{os:Lo}
variable{nm q:Str}{C N:Addr}{bs bm bmB:List Value}{hdct:Bool}{sn:List Str}{sub:List Value}{ab:Bool}{col:Option Bool}{dd:Option Addr}{k0 k1 k2 k3 k5:Option Value}{B newId initId:String}
theorem z8d(F:Sg B newId initId bmB)(T:Uk h bmB bm){rest:List Value}(hC:h.get? C=some (Ed nm q C N bs bm hdct sn sub ab col dd k0 k1 k2 k3 k5 newId))(he:h.get? e=some { cls:=.ref C,dict:=de,data:=.fields vs,slots:=sl })(hs:vs.size=6)(hrest:rest.length<=sizeLine)(hq:R (.ok (.ret .none)) ⟨(h.push { cls:=.type "tuple",data:=.seq rest.toArray }).update e (Fq (·.setIfInBounds 0 (.ref h.objs.size))),g,d,t,os⟩):
  Fv (model prog w) A (.call (.builtin initId) ⟨.ref e::rest,[]⟩) R ⟨h,g,d,t,os⟩:=by
 refine Ha F.init.plain F.initEntry (wpAny_check_init_subT F T hC he rfl ?_);have he2:=Ag { cls:=.type "tuple",data:=.seq rest.toArray } he
 wp_walk
 have h0:vs[(0:Nat)]?=some (vs[0]'(by lia)):=Dh (by lia);rw[h0];refine Ae (Ab (Fy he2 rfl (by lia) ?_));generalize vs[0]'(by lia)=v0;cases v0<;>(wp_walk;exact hq)
end
structure EIni (K:Ah) (D:Addr) (mc:Value):Prop where
 sp:Kz K (.ref D) "__getattribute__" = some (some (.builtin "type.__getattribute__"))
 rd:W.readsIn K D mc=true
 fc:W.findCls K (.ref D) mc "__init__" = some (.val (.builtin "ValueError.__init__"))
open PySem PySem.Spec PyProof.Rows
def ExMro(l:List Value):Prop:=∃rs:List Addr,l=rs.map Value.ref++bmV
theorem z4c(h:ExMro l):l.contains (.type "object")=true/\l.isEmpty=false:=by
 obtain⟨rs,rfl⟩:=h;refine⟨?_,?_⟩
 ·induction rs with
  |nil=>decide
  |cons c r ih=>show(Value.ref c::(r.map Value.ref++bmV)).contains _=true;rw[Nk,ih,Sh]
 ·cases rs<;>rfl
def XdO(d:Addr)(fs:List (Str×V)):HO:=.ext fun h=>∃mA,h.Ns1 d mA/\(∀f,RelO (fs.lookup f) (mA f))/\Lw mA (fs.map (·.1))
structure EGet (K:Ah) (C:Addr) (f:Str):Prop where
 cls:∃cd,Qi K C=some cd/\ExMro cd.mro/\cd.hasDict=true
 ga:Cd K (.ref C) "__getattribute__" = some (some (.builtin "BaseException.__getattribute__"))
 gh:Cd K (.ref C) "__getattr__" = some none
 tk:Cd K (.ref C) f=some none
theorem z8e(h:ExMro l):l.contains (.type "BaseException")=true:=by
 obtain⟨rs,rfl⟩:=h;induction rs with
 |nil=>decide
 |cons c r ih=>show(Value.ref c::(r.map Value.ref++bmV)).contains _=true;rw[Nk,ih,Sh]
section
variable{prog:Program}{w:World}{A:Around}{E:Value->Af->Prop}{s:Af}{K:Ah}{x C:Addr}{ox:Obj}{od:Option Obj}{name:Str}{expr:Bool}{v:Value}{Q:Value->Af->Prop}
theorem getE(X:K.In s.heap)(I:Oh s.heap x ox C od)(G:EGet K C name)(hf:Ur K C od name=some (.value v))(hh:Tw v=true)(h:Q v { s with toks:=s.toks+1 }):
  wpAny (model prog w) A (Uj (.ref x) name expr) Q E s:=by
 obtain⟨hp,g,d,t,os⟩:=s;have L0:=I.type (M:=model prog w);have L1:=Kk (M:=model prog w) X G.ga;have L2:=Kk (M:=model prog w) X G.gh;have L3:=W.looks_find (M:=model prog w) X I hf;have SG:=Nq.ga;obtain⟨cd,hc,ho,_⟩:=G.cls;have sub:W.Looks (model prog w) hp (isInstance (.ref x) (.type "BaseException")) true:=I.type.andThen (W.looks_mroIn X (by unfold Sk;rw[hc,Fz,if_neg (by rw[(z4c ho).2];decide),z8e ho]));have hk:builtinKind "BaseException.__getattribute__" = some .slot:=by decide +kernel
 have hsplit:splitId "BaseException.__getattribute__" = some ("BaseException", "__getattribute__"):=by decide +kernel
 refine Ab (wpAny_mkText (Cc (Ab (L0.at (Ab (L1.at ?_))))));refine Ab (show wpAny _ _ (Mc (.ref C) "__getattr__") _ _ _ from L2.at ?_);have hx0:(expr&&onTheHeap (Value.builtin "BaseException.__getattribute__"))=false:=by cases expr<;>rfl
 unfold callGetattribute boundAndCalled;rw[hx0];refine Ab (Ds (Cc (show wpAny _ _ (bindSpecial _ _ >>= _) _ _ _ from ?_)));refine Ab (Ae (Hw (Ha SG.plain Qj (@W.check_slot (model prog w) _ _ _ "BaseException.__getattribute__" "BaseException" "__getattribute__" (.ref x) [.str name t] [] _ hk hsplit sub (Qs (.ref x) (.str name t)) ?_))));refine Ab (Ae (Ab (Ae (Ab (L0.at (Ab (L3.at ?_)))))));refine Ae ?_;show wpAny _ _ (handedOut v) _ _ _;rw[W.handedOut_of hh];exact Ae h
end
open PySem PySem.Spec PyProof.Rows
section
variable{X:Cx}{e o value:Expr}{f:Str}{pos pos':Pos}{ta tv:TE}
def tEfld(K:Ah)(ta:TE)(f:Str):TE:=fun σ H Q=>ta σ H fun x H1=>∃a C d fs v,x=.ref a/\(H1 a=some (ExO (.ref C) (some d) a)\/H1 a=some (ExN (.ref C) (some d) a))/\H1 d=some (XdO d fs)/\EGet K C f/\fs.lookup f=some v/\Q v H1
theorem z8f(K:Ah)(hK:X.K=K)(he:PE X e ta)(hb:Fo e f X.env (eval e X.env)=eval e X.env:=by rfl):PE X (.Attribute e f pos) (tEfld K ta f):=by
 subst hK;intro pins s σ H Q I h;refine z6j hb (thn (he pins s σ H _ I h) fun u s1 ⟨x,H1,I1,rx,a,C,d,fs,v,ex,ea,hd,G,l,q⟩=>?_);subst ex;obtain rfl:u=Value.ref a:=rx;obtain⟨⟨mA,n,r,wi⟩,_,_⟩:=I1.hok d _ hd;obtain⟨od,hod,hlk⟩:=z0j n;have hrec:∃vs sl,s1.heap.get? a=some { cls:=.ref C,dict:=some d,data:=.fields vs,slots:=sl }:=by
  rcases ea with ea|ea
  ·obtain⟨⟨vs,sl,q1,_⟩,_,_⟩:=I1.hok a _ ea;exact⟨vs,sl,q1⟩
  ·obtain⟨⟨vs,sl,q1,_⟩,_,_⟩:=I1.hok a _ ea;exact⟨vs,sl,q1⟩
 obtain⟨vs,sl,q1⟩:=hrec;have J:Oh s1.heap a { cls:=.ref C,dict:=some d,data:=.fields vs,slots:=sl } C (some od):=⟨q1,rfl,rfl,hod⟩
 have hr:=r f;rw[l] at hr;cases hm:mA f with
 |none=>rw[hm] at hr;exact hr.elim
 |some u =>
  rw[hm] at hr;have ru:=hr;have hh:Jk X.K C=true:=by
   obtain⟨cd,hc,_,hd'⟩:=G.cls;unfold Jk;rw[hc];exact hd'
  exact getE I1.kIn J G (W.findObj_own hh G.tk rfl (by rw[hlk,hm])) (z0k ru) ⟨v,H1,I1.tok _,ru,q⟩
end
open PySem PySem.Spec PyProof.Rows
structure EIsi (K:Ah) (C:Addr):Prop where
 cls:∃cd,Qi K C=some cd/\ExMro cd.mro/\cd.hasDict=true
 ga:Cd K (.ref C) "__getattribute__" = some (some (.builtin "BaseException.__getattribute__"))
 gh:Cd K (.ref C) "__getattr__" = some none
 ha:Cd K (.ref C) "__class__" = some (some (.builtin "object.__class__"))
 hn:Kz K (.builtin "object.__class__") "__get__" = some (some (.builtin "getset_descriptor.__get__"))
 htk:Rx K (.builtin "object.__class__")=some true
section
variable{prog:Program}{w:World}{A:Around}{E:Value->Af->Prop}{s:Af}{K:Ah}{x C:Addr}{ox:Obj}{od:Option Obj}
theorem EIsi.obj(G:EIsi K C):Sk K C (.type "object")=some true:=by
 obtain⟨cd,hc,ho,_⟩:=G.cls;unfold Sk;rw[hc,Fz,if_neg (by rw[(z4c ho).2];decide),(z4c ho).1]
theorem classE{fill:Bool}(X:K.In s.heap)(I:Oh s.heap x ox C od)(G:EIsi K C)(h:Q (.ref C) s):
  wpAny (model prog w) A (getAttrBy (.ref x) (.str "__class__" tk) fill expr) Q E s:=by
 obtain⟨hp,g,d,t,os⟩:=s;have L0:=I.type (M:=model prog w);have L1:=Kk (M:=model prog w) X G.ga;have L2:=Kk (M:=model prog w) X G.gh;obtain⟨cd,hc,ho,_⟩:=G.cls;have hf:Ur K C od "__class__" = some (.bind (.builtin "getset_descriptor.__get__") (.builtin "object.__class__")):=by
  unfold Ur;rw[hc,Fz,G.ha,Fz];dsimp only;rw[G.hn,Fz];dsimp only;rw[G.htk,Fz]
 have L3:=W.looks_find (M:=model prog w) X I hf;have SG:=Nq.ga;have sub:W.Looks (model prog w) hp (isInstance (.ref x) (.type "BaseException")) true:=I.type.andThen (W.looks_mroIn X (by unfold Sk;rw[hc,Fz,if_neg (by rw[(z4c ho).2];decide),z8e ho]));have hk:builtinKind "BaseException.__getattribute__" = some .slot:=by decide +kernel
 have hsplit:splitId "BaseException.__getattribute__" = some ("BaseException", "__getattribute__"):=by decide +kernel
 refine Cc (Ab (L0.at (Ab (L1.at ?_))));refine Ab (show wpAny _ _ (Mc (.ref C) "__getattr__") _ _ _ from L2.at ?_);have hx0:(expr&&onTheHeap (Value.builtin "BaseException.__getattribute__"))=false:=by cases expr<;>rfl
 unfold callGetattribute boundAndCalled;rw[hx0];refine Ab (Ds (Cc (show wpAny _ _ (bindSpecial _ _ >>= _) _ _ _ from ?_)));refine Ab (Ae (Hw (Ha SG.plain Qj (@W.check_slot (model prog w) _ _ _ "BaseException.__getattribute__" "BaseException" "__getattribute__" (.ref x) [.str "__class__" tk] [] _ hk hsplit sub (Qs (.ref x) (.str "__class__" tk)) ?_))));refine Ab (Ae (Ab (Ae (Ab (L0.at (Ab (L3.at ?_)))))));refine Ab (Cc (Hw (W.class_get X I G.obj (Ae ?_))));exact Ae h
theorem q9t(G:EIsi K C):W.KitX K (.ref x) (.ref C) (fun h=>∃ox od,Oh h x ox C od) where
 ty:=fun _ _ _ ⟨_,_,I⟩=>I.type
 it:=fun _ _ X _=>by
  obtain⟨cdD,hcD,_⟩:=G.cls;unfold Qi at hcD;split at hcD
  ·rename_i c' d' cd' sl' ho;intro A' Q' E' s' k q;exact Ab (wpAny_loadPart (k _ _ (X _ _ ho)) (Ae q))
  ·cases hcD
 ne:=fun h tp dd its n sl X htp=>by
  obtain⟨cdD,hcD,_⟩:=G.cls;refine Bool.eq_false_iff.mpr fun q=>?_
  have e:=Value.ref.inj (beq_iff_eq.mp q);subst e;unfold Qi at hcD;split at hcD
  ·rename_i c' d' cd' sl' ho;have z:=(X _ _ ho).symm.trans htp;cases z
  ·cases hcD
 ca:=fun{prog w A E Q s} X ⟨ox,od,I⟩ k=>by
  refine Ab (wpAny_mkText (Ab (Ds (classE X I G ?_))));exact Ae k
end
open PySem PySem.Spec PyProof.Rows
def strKey(e:Iv):Bool:=match e.key with|.str _ _=>true|_=>false
def isNsK(K:Ah)(N:Addr):Bool:=match K.lookup N with|some ⟨_,_,.dict es _,_⟩=>es.toList.all strKey|_=>false
def nsMapK(K:Ah)(N:Addr)(name:Str):Option Value:=match K.lookup N with|some ⟨_,_,.dict es _,_⟩=>nsFind es name|_=>none
theorem ns_K{K:Ah}(e:isNsK K N=true)(h:Heap)(X:K.In h):h.Ns N (nsMapK K N):=by
 unfold isNsK at e;split at e
 ·rename_i c d es ep sl q;refine⟨_,es,ep,X _ _ q,rfl,fun x hx=>?_,fun name=>?_⟩
  ·have hx':=Fx.mp e x (Qo.mpr hx);unfold strKey at hx';split at hx'
   ·grind
   ·cases hx'
  ·unfold nsMapK;rw[q]
 ·cases e
theorem q7w{K:Ah}(e:Ki K N name=some none):nsMapK K N name=none:=by
 unfold Ki at e;unfold nsMapK;split at e
 ·rename_i c d es ep sl q;rw[q];dsimp only;split at e
  ·cases e
  ·rename_i hx;unfold nsFind findBy;rw[<- Rr,hx];rfl
 ·cases e
theorem z4d{K:Ah}(l:K.lookup N=some ⟨oc,od,.dict es ep,sl⟩)(h:es.toList.all strKey=true):isNsK K N=true:=by
 unfold isNsK;rw[l];exact h
structure EBase (K:Ah) (D:Addr):Prop where
 ex:∃nm q N bs sn sub ab col dd k0 k1 k2 k3 k5,K.lookup D=some (Ed nm q D N bs bmV true sn sub ab col dd k0 k1 k2 k3 k5 "ValueError.__new__")/\isNsK K N=true/\Ki K N "__init__" = some none
theorem EBase.cls{K:Ah}(B:EBase K D):ECls K D bmV:=by
 obtain⟨nm,q,N,bs,sn,sub,ab,col,dd,k0,k1,k2,k3,k5,lk,_⟩:=B.ex;exact⟨⟨nm,q,N,bs,true,sn,sub,ab,col,dd,k0,k1,k2,k3,k5,_,lk⟩,by decide⟩
theorem EBase.tail{K:Ah}(B:EBase K D)(h:Heap)(X:K.In h):Uk h bmV (.ref D::bmV):=by
 obtain⟨nm,q,N,bs,sn,sub,ab,col,dd,k0,k1,k2,k3,k5,lk,hn,hi⟩:=B.ex;exact .own (X _ _ lk) (ns_K hn h X) (q7w hi) .base
structure Err (H:Hp) (a C:Addr):Prop where
 ex:∃dd,(H a=some (ExO (.ref C) dd a)\/H a=some (ExN (.ref C) dd a))/\(dd=none\/∃d fs,dd=some d/\H d=some (XdO d fs))
theorem Err.same(r:Err H ea C)(sm:∀b o,H b=some o->H' b=some o):Err H' ea C:=by
 obtain⟨dd,h1,h2⟩:=r.ex;refine⟨dd,h1.imp (sm _ _) (sm _ _),?_⟩;rcases h2 with h2|⟨d,fs,h2,h3⟩
 ·exact .inl h2
 ·exact .inr ⟨d,fs,h2,sm _ _ h3⟩
theorem q8z:∀{cs:List Addr} {us:List Value},Vals (cs.map V.ref) us->us=cs.map Value.ref
 |[],_,.nil=>rfl
 |c::cs,_,.cons r t=>by
  have h:_=Value.ref c:=r;rw[h,q8z t,Ap]
section
variable{X:Cx}
theorem q7x(K:Ah)(hK:X.K=K):CallR X (.builtin "isinstance") (fun xs H Q=>∃a C b,(∃c,xs=[.ref a,c]/\((∃D,c=.ref D/\Ff K (.ref C) (.ref D)=some b)\/(∃n,c=.ty n/\Ff K (.ref C) (.type n)=some b)\/∃(T:Addr) (cs:List Addr),c=.ref T/\SqT K H T (cs.map V.ref)/\Qt K (.ref C) (cs.map Value.ref)=some b))/\Err H a C/\EIsi K C/\Q (.bl b) H):=by
 subst hK;intro pins s σ H xs us Q I r h;obtain⟨a,C,b,⟨c,rfl,hc⟩,⟨dd,ha,hdd⟩,G,q⟩:=h;obtain⟨u,v,rfl,ru,rv⟩:=r.two;obtain rfl:u=Value.ref a:=ru;have hrec:∃ox od,Oh s.heap a ox C od:=by
  have hr:∃vs sl,s.heap.get? a=some { cls:=.ref C,dict:=dd,data:=.fields vs,slots:=sl }:=by
   rcases ha with ea|ea
   ·obtain⟨⟨vs,sl,q1,_⟩,_,_⟩:=I.hok a _ ea;exact⟨vs,sl,q1⟩
   ·obtain⟨⟨vs,sl,q1,_⟩,_,_⟩:=I.hok a _ ea;exact⟨vs,sl,q1⟩
  obtain⟨vs,sl,q1⟩:=hr;rcases hdd with rfl|⟨d,fs,rfl,hd⟩
  ·exact⟨_,none,q1,rfl,rfl,trivial⟩
  ·obtain⟨_,⟨od,hod⟩,_⟩:=I.hok d _ hd;exact⟨_,some od,q1,rfl,rfl,hod⟩
 rcases hc with⟨D,rfl,e⟩|⟨n,rfl,e⟩|⟨T,cs,rfl,hT,e⟩
 ·obtain rfl:v=Value.ref D:=rv;exact Fp (q9t G) I.kIn hrec e (fun z=>nomatch z) fun tk=>⟨.bl b,H,I.tok _,rfl,q⟩
 ·obtain rfl:v=Value.type n:=rv;exact Fp (q9t G) I.kIn hrec e (fun z=>nomatch z) fun tk=>⟨.bl b,H,I.tok _,rfl,q⟩
 ·obtain rfl:v=Value.ref T:=rv;obtain⟨its,r',⟨o,ho,oc,n,od⟩,_⟩:=I.tuple hT;rw[q8z r'] at od;obtain⟨c0,d0,dt0,sl0⟩:=o;subst oc;subst od;exact W.kia_tup (q9t G) I.kIn hrec ho e (fun z=>nomatch z) fun tk=>⟨.bl b,H,I.tok _,rfl,q⟩
end
open PySem PySem.Spec PyProof.Rows
abbrev TF:=St->Hp->(Str->Hp->Prop)->Prop
def PF1(X:Cx)(e:Expr)(t:TF):Prop:=∀(pins:List (Addr×Obj)) (s:Af) (σ:St) (H:Hp) (R:Str->Hp->Prop),Inv X pins σ H s->t σ H R ->
 wpAny (model X.prog X.w) X.A (eval e X.env) (fun v s1=>∃y k H1,v=.str y k/\Inv X pins σ H1 s1/\R y H1) X.xe s
def PFs(X:Cx):List Expr->List TF->Prop
 |[],[]=>True
 |e::es,t::ts=>PF1 X e t/\PFs X es ts
 |_,_=>False
def tFs:List TF->Str->St->Hp->VK->Prop
 |[],acc,_,H,Q=>acc.length<=sizeLine/\Q (.str acc) H
 |t::ts,acc,σ,H,Q=>t σ H fun y H1=>(acc++y).length<=sizeLine/\tFs ts (acc++y) σ H1 Q
section
variable{X:Cx}
theorem x1g{σ:St}:∀{ts:List TF} {es:List Expr} {acc:Str} {H:Hp} {s:Af},PFs X es ts->Inv X pins σ H s->tFs ts acc σ H Q ->
  Joins (model X.prog X.w) X.A X.xe (evalEach es X.env) acc (fun out s₁=>out.length<=sizeLine/\EP X pins σ Q (.str out s₁.toks) { s₁ with toks:=s₁.toks+1 }) s:=by
 intro ts;induction ts with
 |nil =>
  intro es acc H s hp I h;cases es with
  |nil=>exact⟨h.1,.str acc,H,I.tok _,⟨_,rfl⟩,h.2⟩
  |cons e es=>exact False.elim hp
 |cons t ts ih =>
  intro es acc H s hp I h;cases es with
  |nil=>exact False.elim hp
  |cons e es =>
   refine Bu (hp.1 pins s σ H _ I h) (fun v s1 z=>?_) fun _ _ z=>z;obtain⟨y,k,H1,ev,I1,hz,q⟩:=z;exact⟨y,k,ev,hz,ih hp.2 I1 q⟩
theorem z8g{v₁ v₂:Expr}{rest:List Expr}{pos:Pos}{t₁ t₂:TF}{ts:List TF}(h1:PF1 X v₁ t₁)(h2:PF1 X v₂ t₂)(h3:PFs X rest ts):PE X (.JoinedStr (v₁::v₂::rest) pos) (fun σ H Q=>tFs (t₁::t₂::ts) Hd σ H Q):=by
 intro pins s σ H Q I h;exact wpAny_JoinedStr (x1g (ts:=t₁::t₂::ts) ⟨h1,h2,h3⟩ I h)
theorem z8h:PFs X [] []:=trivial
theorem z4e{e:Expr}{es:List Expr}{t:TF}{ts:List TF}(h:PF1 X e t)(r:PFs X es ts):PFs X (e::es) (t::ts):=⟨h,r⟩
def tFv(te:TE):TF:=fun σ H R=>te σ H fun v H1=>(∃x,v=.str x/\x.length<=sizeLine/\R x H1)\/∃n:Nat,v=.int (n:Int)/\n<=10^12/\R (Ad (toString (n:Int))) H1
theorem z8i{n:Nat}(h:n<=10^12):(n:Int).natAbs.log2<1920:=by
 rw[Sd];by_cases h0:n=0
 ·subst h0;decide
 ·rw[Nat.log2_lt h0];exact Nf h (Bj (by decide:10^12<2^64) (Nat.pow_le_pow_right (by decide) (by decide)))
theorem z8j{e:Expr}{pos:Pos}{te:TE}(he:PE X e te):PF1 X (.FormattedValue e (-1) none pos) (tFv te):=by
 intro pins s σ H R I h;refine FormattedValue_plain (thn (he pins s σ H _ I h) fun u s1 ⟨v,H1,I1,rv,q⟩=>?_);rcases q with⟨x,rfl,hz,q⟩|⟨n,rfl,hn,q⟩
 ·obtain⟨t,rfl⟩:=rv;exact formatField_str (fun t' tk=>⟨x,t',H1,rfl,I1.tok _,q⟩) hz
 ·obtain⟨t,rfl⟩:=rv;exact formatField_int_small (z8i hn) ⟨_,_,H1,rfl,I1.tok _,q⟩
theorem z8k:PF1 X (.Constant (.str c) k pos) (fun _ H R=>R c H):=by
 intro pins s σ H R I h;exact thn (q0t pins s σ H (fun v H1=>∃y,v=.str y/\R y H1) I ⟨c,rfl,h⟩) fun u s1 ⟨v,H1,I1,rv,y,ev,q⟩=>by
  subst ev;obtain⟨t,rfl⟩:=rv;exact⟨y,t,H1,rfl,I1,q⟩
end
open PySem PySem.Spec PyProof.Rows
structure MCalX (P:Program) (w:World) (K:Ah) (mg:Str->Option Value) (base:Heap) (C:Addr) (m:Str) (k:Nat) (ps:List Str) (sp:Sp):Prop where
 ex:∃f fd,FnOk P w K mg base (CXR P w) k f fd ps sp/\Meth K C m f/\Binds K fd ps []
 cl:Cls K C
theorem Mf.calX{K:Ah}{st:Stmt}(D:Mf K C m qual st ps)(cl:Cls K C)(S:FnScope N ps (defScope st))(len:∀vs H Q E,sp vs H Q E->vs.length=ps.length)(hbody:∀(f:Addr) (cdv:Value) (A:Around) (outer:List Env) (s:Af) (H:Hp) (vs:List V) (Q:VK) (E:XK),Room k (A.deeper (Gu qual (defScope st) s.heap.objs.size f cdv))->sp vs H Q E ->
   ∃t,PSs (cxX P w K mg base N qual (defScope st) f cdv A outer s H E) (defBody st) t/\t { nx:=fun _ H'=>Q .non H',rt:=Q } (start N vs) H):MCalX P w K mg base C m (k+1) ps sp:=by
 obtain⟨f,fd,F,hm,hb⟩:=D.ex;exact⟨⟨f,fd,F.okX S len fun cdv A outer s H vs Q E hr h=>hbody f cdv A outer s H vs Q E hr h,hm,hb⟩,cl⟩
structure KCalX (P:Program) (w:World) (K:Ah) (mg:Str->Option Value) (base:Heap) (C:Addr) (x:Str) (k:Nat) (ps:List Str) (sp:Sp):Prop where
 ex:∃f fd,FnOk P w K mg base (CXR P w) k f fd ps sp/\Mk K C f/\Binds K fd ps []/\Binds K fd ps [.bool false]
 at_:mg x=some (.ref C)
 cl:Cls K C
theorem Kf.calX{K:Ah}{st:Stmt}(D:Kf K mg C x qual st ps)(S:FnScope N ps (defScope st))(len:∀vs H Q E,sp vs H Q E->vs.length=ps.length)(hbody:∀(f:Addr) (cdv:Value) (A:Around) (outer:List Env) (s:Af) (H:Hp) (vs:List V) (Q:VK) (E:XK),Room k (A.deeper (Gu qual (defScope st) s.heap.objs.size f cdv))->sp vs H Q E ->
   ∃t,PSs (cxX P w K mg base N qual (defScope st) f cdv A outer s H E) (defBody st) t/\t { nx:=fun _ H'=>Q .non H',rt:=Q } (start N vs) H):KCalX P w K mg base C x (k+1) ps sp:=by
 obtain⟨f,fd,oc,od,dV,kV,doc,pm,an,cdv,ct,osl,rfl,lk,hcd,M,b1,b2⟩:=D.ex;refine⟨⟨f,_,z6p lk hcd S len fun A outer s H vs Q E hr hsp=>?_,M,b1,b2⟩,D.at_,D.cl⟩;obtain⟨t,h,q⟩:=hbody f cdv A outer s H vs Q E hr hsp;exact⟨t,PSs.wishX (fun e s' z=>leaves z) h,q⟩
section
variable{prog:Program}{w:World}{A:Around}{E:Value->Af->Prop}{h:Heap}{g:Array Oe}{d:Drawn}{t:Nat}{os:Lo}
variable{nm q:Str}{C N:Addr}{bs bm bmB:List Value}{hdct:Bool}{sn:List Str}{sub:List Value}{ab:Bool}{col:Option Bool}{dd:Option Addr}{k0 k1 k2 k3 k5:Option Value}{B newId initId:String}
theorem q6k(F:Sg B newId initId bmB)(T:Uk h bmB bm){rest:List Value}(hC:h.get? C=some (Ed nm q C N bs bm hdct sn sub ab col dd k0 k1 k2 k3 k5 newId))(hn:h.Ns N mN)(hi:mN "__init__" = none)(hq:∀h' e,Heap.MadeExcOf h h' e (.ref C) rest->h.objs.size<=e ->
   Q (.done (.ret (.ref e))) ⟨h',g,d,t,os⟩)(hrest:rest.length<=sizeLine:=by size_fits):
  wpAny (model prog w) A (Dp.«type.__call__» ⟨.ref C::rest,[]⟩) Q E ⟨h,g,d,t,os⟩:=by
 repeat (first|with_reducible refine Fm hC ?_|with_reducible refine wpAny_madeBy_exc hC ?_|wp_step)
 refine codeAny_call_builtin_code (Nh _ F.quiet) (wpAny_check_new_subT F T hC ?_);refine codeAny_exc_new_subT F T hC ?_ hrest;have hC₁:=Ag { cls:=.ref C,data:=.fields #[.ref h.objs.size,.none,.none,.none,.bool false,.none] }
  (Ag { cls:=.type "tuple",data:=.seq rest.toArray } hC)
 have hn₁:((h.push { cls:=.type "tuple",data:=.seq rest.toArray }).push { cls:=.ref C,data:=.fields #[.ref h.objs.size,.none,.none,.none,.bool false,.none] }).Ns N mN :=
  let ⟨o,es,ep,e,r⟩:=hn;⟨o,es,ep,Ag _ (Ag _ e),r⟩
 have hget:((h.push { cls:=.type "tuple",data:=.seq rest.toArray }).push
   { cls:=.ref C,data:=.fields #[.ref h.objs.size,.none,.none,.none,.bool false,.none] }).get? (h.objs.size+1)=some
   { cls:=.ref C,data:=.fields #[.ref h.objs.size,.none,.none,.none,.bool false,.none] }:=by heap_get
 have T₁:=T.keeps (h':=(h.push { cls:=.type "tuple",data:=.seq rest.toArray }).push { cls:=.ref C,data:=.fields #[.ref h.objs.size,.none,.none,.none,.bool false,.none] })
  fun b o e=>Ag _ (Ag _ e)
 have hcC:(Value.ref C::bm).contains (.ref C)=true:=by simp
 repeat (first|with_reducible refine Fm hget ?_|(with_reducible refine Jp hC₁ ?_;rw[hcC])|wp_step)
 refine wpAny_typeLookup_tail hC₁ hn₁ T₁ F.mroIs F.init.lookup ?_;rw[hi];refine Cc (Ab ?_);have hb:=F.init.bind (.ref (h.objs.size+1));rw[hb];refine Ae (Ab (Hw (z8d F T₁ hC₁ hget rfl hrest ?_)));have hget2:=Ag { cls:=.type "tuple",data:=.seq rest.toArray } hget;generalize hP:(h.push { cls:=.type "tuple",data:=.seq rest.toArray }).push { cls:=.ref C,data:=.fields #[.ref h.objs.size,.none,.none,.none,.bool false,.none] }=P at *;have hrec:=Ex (Fq (·.setIfInBounds 0 (Value.ref P.objs.size))) hget2 rfl;have hPs:P.objs.size=h.objs.size+2:=by rw[<- hP];simp[Heap.push]
 wp_walk
 refine hq _ (h.objs.size+1) ⟨fun b o hb=>?_,Lx (Ig _),P.objs.size,hrec,Lx (by lia),?_⟩ (Ig _)
 ·have hlt:=Am hb;rw[Bx _ _ (fun z=>absurd hlt (Ic.mpr (by rw[<- z];exact Ig _)))];refine Ag _ ?_;rw[<- hP];exact Ag _ (Ag _ hb)
 ·rw[Bx _ _ (fun z=>absurd (hPs.symm.trans z.symm) (by lia))];exact Heap.get?_push_at rfl rfl
theorem z2w(F:Sg B newId initId bmB)(T:Uk h bmB bm){rest:List Value}(hC:h.get? C=some (Ed nm q C N bs bm hdct sn sub ab col dd k0 k1 k2 k3 k5 newId))(hn:h.Ns N mN)(hi:mN "__init__" = none)(hq:∀h' e,Heap.MadeExcOf h h' e (.ref C) rest->h.objs.size<=e ->
   Q (.ref e) ⟨h',g,d,t,os⟩)(hrest:rest.length<=sizeLine:=by size_fits):
  wpAny (model prog w) A (call (.ref C) rest) Q E ⟨h,g,d,t,os⟩:=by
 have f1:=tc_lookup;have f2:=tc_bind (.ref C);refine Hw (codeAny_of_tree ?_);repeat (any_goals (first|assumption|with_reducible refine Fm hC ?_|wp_step))
 refine⟨rfl,?_⟩;refine codeAny_call_builtin_at (Nh _ (by decide +kernel)) entry_typeCall (wpAny_check_type_call_sub hC (q6k F T hC hn hi fun h' e hm hle=>?_));exact hq h' e hm hle
end
open PySem PySem.Spec PyProof.Rows
structure ELaw0 (K:Ah) (C D:Addr):Prop where
 ex:∃nm q N bs sn sub ab col dd k0 k1 k2 k3 k5,K.lookup C=some (Ed nm q C N bs (.ref D::bmV) true sn sub ab col dd k0 k1 k2 k3 k5 "ValueError.__new__")/\isNsK K N=true/\Ki K N "__init__" = some none
 kp:Ew K (.ref C)=true
 base:EBase K D
theorem ELaw0.clsIn{K:Ah}(L:ELaw0 K C D):∃cd,Qi K C=some cd/\ExMro cd.mro/\cd.hasDict=true:=by
 obtain⟨nm,q,N,bs,sn,sub,ab,col,dd,k0,k1,k2,k3,k5,lk,_⟩:=L.ex;unfold Qi;rw[lk];exact⟨_,rfl,⟨[C,D],rfl⟩,rfl⟩
theorem ELaw0.sub{K:Ah}(L:ELaw0 K C D):SubX K (.ref C) D:=by
 obtain⟨nm,q,N,bs,sn,sub,ab,col,dd,k0,k1,k2,k3,k5,lk,_⟩:=L.ex;exact⟨C,_,rfl,⟨⟨nm,q,N,bs,true,sn,sub,ab,col,dd,k0,k1,k2,k3,k5,_,lk⟩,by rw[Nk,show bmV.contains (.type "BaseException")=true from by decide,Sh]⟩,by simp⟩
section
variable{X:Cx}{J:Addr->St->Hp->Prop}{C D:Addr}{x:Str}{np cpos pos:Pos}{e₀:Expr}{es:List Expr}{t:TA}
def tRaise0(C:Addr)(J:Addr->St->Hp->Prop)(t:TA):TS:=fun _ σ H=>t σ H fun vs H1=>vs.length<=100/\∀ea,H1 ea=none->J ea σ (upd (upd H1 ea (ExN (.ref C) none ea)) ea (ExO (.ref C) none ea))
theorem z1q(M:ELaw0 X.K C D)(hx:AccX X J)(hc:X.calm=true)(hm:X.mg x=some (.ref C))(ha:PA X (e₀::es) t)(hg:Gl X x:=by rfl)(hdb:(x==("__debug__" : Str))=false:=by decide)(he:Be (e₀::es) X.env=(false,eval e₀ X.env)::Be es X.env:=by rfl)(hpl:(Eh cpos (Be es X.env)).any (·.1)=false:=by rfl):
  PS X (.Raise (some (.Call (.Name x np) (e₀::es) [] cpos)) none pos) (tRaise0 C J t):=by
 intro pins s σ H Dn I h;obtain⟨nm,q,N,bs,sn,sub,ab,col,dd,k0,k1,k2,k3,k5,lk,hN,hi⟩:=M.ex;have key:wpAny (model X.prog X.w) X.A (eval (.Call (.Name x np) (e₀::es) [] cpos) X.env) (fun v s₁=>∃e de vs sl,v=.ref e/\s₁.heap.get? C=some (Ed nm q C N bs (.ref D::bmV) true sn sub ab col dd k0 k1 k2 k3 k5 "ValueError.__new__") /\
   s₁.heap.get? e=some { cls:=.ref C,dict:=de,data:=.fields vs,slots:=sl }/\vs[1]?=some .none/\X.xe (.ref e) s₁) X.xe s:=by
  refine Ge (q5o I hg hm ?_ hdb);refine Mb I.ok.mod.kin M.kp (thn (ha cpos pins s σ H _ I h) fun us s1 ⟨vs,H1,I1,r,hq0,hq⟩=>⟨I1.kIn,?_⟩) he hpl;obtain⟨hp,g,dr,tk,os⟩:=s1;have KX:=I1.kIn;have hlen:us.length<=sizeLine:=by
   rw[<- r.length,Er];lia
  refine z2w PySem.F.excBase_ValueError (M.base.tail hp KX) (KX _ _ lk) (ns_K hN hp KX) (q7w hi) fun h' e hme hle=>?_;have hfree:=I1.hok.fresh hle;obtain⟨t0,hrec,_,_⟩:=hme.there;have I2:Inv X pins σ (upd H1 e (ExN (.ref C) none e)) ⟨h',g,dr,tk,os⟩:=I1.laid (h':=h') (t':=tk) (fun b u q=>hme.keeps b u q) hle ⟨⟨_,_,hrec,rfl,rfl⟩,⟨_,hrec⟩,fun h1 h2 ⟨ws,sl,k1,k2⟩ k=>⟨ws,sl,k _ k1,k2⟩⟩;have j:=hq e hfree;have hE:upd H1 e (ExN (.ref C) none e) e=some (ExN (.ref C) none e):=q0b;obtain⟨⟨ws,sl,q1,q2,q3⟩,_,_⟩:=I2.hok e _ hE;refine⟨e,none,ws,sl,rfl,I2.kIn _ _ lk,q1,q3,hx.acc _ _ ⟨pins,σ,_,e,rfl,I2.asO hE,⟨⟨_,_,q0b⟩,⟨_,ws,q1,rfl,.inl q3,fun T hT=>?_⟩,Cn I1.sz hle⟩,j⟩⟩;rw[q3] at hT;cases hT
 have hbase:=(M.base.tail _ I.kIn).hasType (show bmV.contains (.type "BaseException")=true by decide);first
  |exact Ab (Dm (raiseX hbase (I.ok.hd hc) (Ab (Bu key (fun v s₁ z=>Ab (Dm (Ae z))) fun _ _ z=>z))))
  |(simp only[evalOpt,Option.map];exact Ab (Dm (raiseX hbase (I.ok.hd hc) (Ab (Bu key (fun v s₁ z=>Ab (Dm (Ae z))) fun _ _ z=>z)))))
  |exact Ab (Dm (raiseX hbase (I.ok.hd hc) key))
end
open PySem PySem.Spec PyProof.Rows
theorem accN{X:Cx}:AccX X (fun _ _ _=>False):=⟨fun e s h=>by obtain⟨_,_,_,_,_,_,_,j⟩:=h;exact j.elim⟩
section
variable{M:Model}{A:Around}{E:Value->Af->Prop}{h:Heap}{g:Array Oe}{d:Drawn}{t:Nat}{os:Lo}
def HCls(h:Heap)(C:Addr)(bm:List Value):Prop:=∃nm q N bs hdct sn sub ab col dd k0 k1 k2 k3 k5 newId,h.get? C=some (Ed nm q C N bs bm hdct sn sub ab col dd k0 k1 k2 k3 k5 newId)
theorem ECls.hp{K:Ah}{C:Addr}{bm:List Value}(e:ECls K C bm)(X:K.In h):HCls h C bm:=by
 obtain⟨nm,q,N,bs,hdct,sn,sub,ab,col,dd,k0,k1,k2,k3,k5,newId,lk⟩:=e.ex;exact⟨nm,q,N,bs,hdct,sn,sub,ab,col,dd,k0,k1,k2,k3,k5,newId,X _ _ lk⟩
set_option maxHeartbeats 4000000 in
end
section
variable{X:Cx}{pins:List (Addr×Obj)}{σ:St}{H:Hp}{s:Af}
def Lnd(h:Heap)(ea:Addr):Prop:=∃oe vs T,h.get? ea=some oe/\oe.data=.fields vs/\TbAt h ea vs T .none
theorem FlX.push{ea:Addr}{o:Obj}{ho:HO}(F:FlX X pins H s ea)(l:Lnd s.heap ea)(hf:H s.heap.objs.size=none):FlX X pins (upd H s.heap.objs.size ho) { s with heap:=s.heap.push o } ea/\Lnd (s.heap.push o) ea:=by
 obtain⟨oe,vs,T,e1,d1,t1,t2,oT,ts,t3,t4,t5⟩:=l;obtain⟨oe',vs',e2,d2,tk,hT⟩:=F.tb;obtain⟨C,dd,at_⟩:=F.at_;have n1:ea≠s.heap.objs.size:=fun z=>by rw[z,hf] at at_;cases at_
 rw[e1] at e2;injection e2 with e2;subst e2;rw[d1] at d2;injection d2 with d2;subst d2;have n2:T≠s.heap.objs.size:=Bc (Am t3);have p1:=Ag o e1;have p3:=Ag o t3;refine⟨⟨⟨C,dd,by rw[q0e n1];exact at_⟩,⟨oe,vs,p1,d1,.inr ⟨T,.inl ⟨t1,t2,oT,ts,p3,t4,t5⟩⟩,fun T' hT'=>?_⟩,F.new⟩,⟨oe,vs,T,p1,d1,t1,t2,oT,ts,p3,t4,t5⟩⟩;obtain⟨a1,a2,a3⟩:=hT T' hT';have:T'=T:=by rw[t1] at hT';injection hT' with z;injection z with z;exact z.symm
 subst this;exact⟨a1,by rw[q0e n2];exact a2,a3⟩
end
end L2
namespace HM
open PySem PySem.Spec PyProof.Rows L2 TX SB
structure Mvd (bl:Bool) (rows:List Rw) (p q:Pth):Prop where
 hl:Hl bl rows
 m:∃mk:Option Int,(p,mk)∈rows/\(mk=none->q.dropLast=p.dropLast)
 ne:q≠p
 fr:Free bl rows p q
section
variable{bl:Bool}{rows rows':List Rw}{p q:Pth}
theorem Mvd.perm(h:Mvd bl rows p q)(pm:rows'.Perm rows):Mvd bl rows' p q :=
 ⟨h.hl.perm pm,h.m.imp fun mk x=>⟨pm.mem_iff.mpr x.1,x.2⟩,h.ne,⟨h.fr.ok,h.fr.dr.imp id fun y=>pm.mem_iff.mpr y,fun r hr=>h.fr.un r (pm.mem_iff.mp hr)⟩⟩
theorem Mvd.cases(h:Mvd bl rows p q):Turn2 bl rows p q\/∃i:Int,(p,some i)∈rows:=by
 obtain⟨mk,h1,h2⟩:=h.m;cases mk with
 |none=>exact .inl ⟨h.hl,h1,h.fr,h.ne,h2 rfl⟩
 |some i=>grind
theorem x1h(hl:Hl bl rows)(hp:(p,some i)∈rows)(f:Free bl rows p q)(ne:q≠p):Free bl (rows.map (mvR p q)) q p:=by
 have dk:∀x:Pth,(x,(none:Option Int))∈rows->(x,none)∈rows.map (mvR p q):=fun x hx=>Al.mpr ⟨_,hx,q7u fun e=>by
  subst e;cases hl.one hp hx⟩
 refine⟨hl.ok _ hp,(hl.dr _ hp).imp id (dk _),fun r hr hf=>?_⟩;obtain⟨x,hx,rfl⟩:=Al.mp hr;by_cases e:x.1=p
 ·rw[q9r e]
 ·rw[q7u e] at hf ⊢;have:=hl.eq hx hp hf;rw[this] at e;exact absurd rfl e
theorem z8l(hl:Hl bl rows)(hp:(p,some i)∈rows)(f:Free bl rows p q)(ne:q≠p):(rows.map (mvR p q)).map (mvR q p)=rows:=by
 rw[Ba];conv=>rhs;rw[<- Px rows]
 refine En fun r hr=>?_;show mvR q p (mvR p q r)=r;by_cases e:r.1=p
 ·rw[q9r e,q9r (r:=(q,r.2)) rfl,<- e]
 ·rw[q7u e,q7u fun z=>e (f.un r hr (by rw[z]))]
theorem Mvd.moved(h:Mvd bl rows p q):Hl bl (rows.map (cR p q)):=by
 rcases h.cases with t|⟨i,hp⟩
 ·exact t.moved
 ·rw[h.hl.carry hp];exact h.hl.moved hp h.fr
theorem Mvd.rev(h:Mvd bl rows p q):Mvd bl (rows.map (cR p q)) q p:=by
 rcases h.cases with t|⟨i,hp⟩
 ·have r:=t.rev;exact⟨r.hl,⟨none,r.pin,fun _=>r.par⟩,r.ne,r.fr⟩
 ·refine⟨h.moved,?_,h.ne.symm,?_⟩<;>rw[h.hl.carry hp]
  ·exact⟨some i,Al.mpr ⟨_,hp,q9r rfl⟩,fun z=>nomatch z⟩
  ·exact x1h h.hl hp h.fr h.ne
theorem Mvd.back(h:Mvd bl rows p q):(rows.map (cR p q)).map (cR q p)=rows:=by
 rcases h.cases with t|⟨i,hp⟩
 ·exact t.back
 ·have h2:=h.moved;have hq:(q,some i)∈rows.map (cR p q):=by rw[h.hl.carry hp];exact Al.mpr ⟨_,hp,q9r rfl⟩
  rw[h2.carry hq,h.hl.carry hp];exact z8l h.hl hp h.fr h.ne
theorem Mvd.okp(h:Mvd bl rows p q):okP p:=let ⟨_,x,_⟩:=h.m;h.hl.ok _ x
end
abbrev Mv:=Pth×Pth
def wk:List Rw->List Mv->List Rw
 |rows,[]=>rows
 |rows,m::r=>wk (rows.map (cR m.1 m.2)) r
def WkOk(bl:Bool):List Rw->List Mv->Prop
 |rows,[]=>Hl bl rows
 |rows,m::r=>Mvd bl rows m.1 m.2/\WkOk bl (rows.map (cR m.1 m.2)) r
section
variable{bl:Bool}
theorem q5k:∀(ms:List Mv) (rows:List Rw),(wk rows ms).length=rows.length
 |[],_=>rfl
 |m::r,rows=>(q5k r _).trans (Ac _)
theorem q9u:∀(ms:List Mv) {rows rows':List Rw},rows'.Perm rows->(wk rows' ms).Perm (wk rows ms)
 |[],_,_,p=>p
 |m::r,_,_,p=>q9u r (p.map _)
theorem z8m:∀(a b:List Mv) (rows:List Rw),wk rows (a++b)=wk (wk rows a) b
 |[],_,_=>rfl
 |_::a,b,_=>z8m a b _
theorem WkOk.perm:∀{ms:List Mv} {rows rows':List Rw},WkOk bl rows ms->rows'.Perm rows->WkOk bl rows' ms
 |[],_,_,h,p=>Hl.perm h p
 |_::_,_,_,h,p=>⟨h.1.perm p,WkOk.perm h.2 (p.map _)⟩
theorem WkOk.fin:∀{ms:List Mv} {rows:List Rw},WkOk bl rows ms->Hl bl (wk rows ms)
 |[],_,h=>h
 |m::r,rows,h=>WkOk.fin (ms:=r) (rows:=rows.map (cR m.1 m.2)) h.2
theorem WkOk.hd:∀{ms:List Mv} {rows:List Rw},WkOk bl rows ms->Hl bl rows
 |[],_,h=>h
 |_::_,_,h=>h.1.hl
theorem WkOk.app:∀{a b:List Mv} {rows:List Rw},WkOk bl rows (a++b)↔WkOk bl rows a/\WkOk bl (wk rows a) b
 |[],_,_=>⟨fun h=>⟨h.hd,h⟩,fun h=>h.2⟩
 |m::a,b,rows=>by
  have ih:=WkOk.app (a:=a) (b:=b) (rows:=rows.map (cR m.1 m.2));exact⟨fun h=>⟨⟨h.1,(ih.mp h.2).1⟩,(ih.mp h.2).2⟩,fun h=>⟨h.1.1,ih.mpr ⟨h.1.2,h.2⟩⟩⟩
def tb(ms:List Mv):List Mv:=ms.reverse.map fun m=>(m.2,m.1)
theorem z8n(m:Mv)(r:List Mv):tb (m::r)=tb r++[(m.2,m.1)]:=by simp[tb]
theorem z2x:∀{ms:List Mv} {rows:List Rw},WkOk bl rows ms->wk (wk rows ms) (tb ms)=rows
 |[],_,_=>rfl
 |m::r,rows,h=>by
  rw[z8n,z8m];show wk (wk (wk (rows.map (cR m.1 m.2)) r) (tb r)) _=rows;rw[z2x h.2];exact h.1.back
theorem WkOk.back:∀{ms:List Mv} {rows:List Rw},WkOk bl rows ms->WkOk bl (wk rows ms) (tb ms)
 |[],_,h=>h
 |m::r,rows,h=>by
  rw[z8n];refine WkOk.app.mpr ⟨WkOk.back (ms:=r) h.2,?_⟩;show WkOk bl (wk (wk (rows.map (cR m.1 m.2)) r) (tb r)) _;rw[z2x h.2];refine⟨h.1.rev,?_⟩;show Hl bl ((rows.map (cR m.1 m.2)).map (cR m.2 m.1));rw[h.1.back];exact h.1.hl
theorem WkOk.take(h:WkOk bl rows ms)(n:Nat):WkOk bl rows (ms.take n)/\WkOk bl (wk rows (ms.take n)) (ms.drop n):=WkOk.app.mp (by rw[Qh];exact h)
theorem WkOk.snoc(h:WkOk bl rows ms)(x:Mvd bl (wk rows ms) m.1 m.2):WkOk bl rows (ms++[m]):=WkOk.app.mpr ⟨h,x,x.moved⟩
theorem q9v(ms:List Mv)(m:Mv)(rows:List Rw):wk rows (ms++[m])=(wk rows ms).map (cR m.1 m.2):=z8m ms [m] rows
end
def MT(H:Hp)(T:Addr)(m:Mv):Prop:=∃A B,H T=some (.tup [.ref A,.ref B])/\H A=some (.tup (vP m.1))/\H B=some (.tup (vP m.2))
abbrev Zm:=Addr×Mv
structure ML (H:Hp) (L:Addr) (zs:List Zm):Prop where
 at_:H L=some (.lst (zs.map fun z=>V.ref z.1))
 pr:∀z∈zs,MT H z.1 z.2
theorem MT.keep(h:MT H T m)(k:∀T xs,H T=some (.tup xs)->H' T=some (.tup xs)):MT H' T m:=let ⟨A,B,h1,h2,h3⟩:=h;⟨A,B,k _ _ h1,k _ _ h2,k _ _ h3⟩
theorem ML.same(h:ML H L zs)(s:Same H H'):ML H' L zs:=⟨s _ _ h.at_,fun z hz=>(h.pr z hz).keep fun T xs e=>s _ _ e⟩
theorem ML.fd(h:ML H L zs)(F:FeedAt H a b)(fd:Fd a b H H')(hL:L≠a):ML H' L zs:=⟨fd.at h.at_ hL,fun z hz=>(h.pr z hz).keep (tupFd F fd)⟩
theorem ML.nil(h:H L=some (.lst [])):ML H L []:=⟨h,fun _ z=>nomatch z⟩
theorem ML.cut(h:ML H L zs)(hL:H L'=none)(n:Nat):ML (upd H L' (.lst ((zs.map fun z=>V.ref z.1).drop n))) L' (zs.drop n) :=
 ⟨by rw[q0b,Rg],fun z hz=>(h.pr z (List.mem_of_mem_drop hz)).keep fun T xs e=>by rw[q0e (q0n e hL)];exact e⟩
theorem ML.pre(h:ML H L zs)(hL:H L'=none)(n:Nat):ML (upd H L' (.lst ((zs.map fun z=>V.ref z.1).take n))) L' (zs.take n) :=
 ⟨by rw[q0b,Dv],fun z hz=>(h.pr z (Cj hz)).keep fun T xs e=>by rw[q0e (q0n e hL)];exact e⟩
end HM
namespace L2
open PySem PySem.Spec PyProof.Rows
theorem x1i{X:Cx}{o value:Expr}{op:Operator}{f:Str}{pos tpos:Pos}{ta tv:TE}{rd:V->V->Hp->VK->Prop}(K:Ah)(hK:X.K=K)(ha:PE X o ta)(hv:PE X value tv)(hop:InOp X op rd):PS X (.AugAssign (.Attribute o f tpos) op value pos) (sFldAug K ta tv rd f):=by subst hK;exact z6k ha hv hop
structure Kf0 (K:Ah) (mg:Str->Option Value) (C:Addr) (x qual:Str) (st:Stmt) (ps:List Str):Prop where
 ex:∃(f:Addr) (fd:Ja) (oc:Value) (od:Option Addr) (dV kV doc pm:Value) (an:Option Addr) (cdv ct:Value) (osl:Array (Option Value)),fd=Hm "__init__" qual (defArgs st) (defBody st) (defScope st) dV kV doc pm an cdv ct /\
  K.lookup f=some ⟨oc,od,.func fd,osl⟩/\Jb K cdv qual=true/\Mk K C f/\Binds K fd ps []
 at_:mg x=some (.ref C)
 cl:Cls K C
structure KCal0 (P:Program) (w:World) (K:Ah) (mg:Str->Option Value) (base:Heap) (C:Addr) (x:Str) (k:Nat) (ps:List Str) (sp:Sp):Prop where
 ex:∃f fd,FnOk P w K mg base CX0 k f fd ps sp/\Mk K C f/\Binds K fd ps []
 at_:mg x=some (.ref C)
 cl:Cls K C
theorem Kf0.cal{K:Ah}{st:Stmt}(D:Kf0 K mg C x qual st ps)(S:FnScope N ps (defScope st))(len:∀vs H Q E,sp vs H Q E->vs.length=ps.length)(hbody:∀(f:Addr) (cdv:Value) (A:Around) (outer:List Env) (s:Af) (H:Hp) (vs:List V) (Q:VK) (E:XK),Room k (A.deeper (Gu qual (defScope st) s.heap.objs.size f cdv))->sp vs H Q E ->
   ∃t,PSs (cxOf CX0 P w K mg base N qual (defScope st) f cdv A outer s H E).nox (defBody st) t/\t { nx:=fun _ H'=>Q .non H',rt:=Q } (start N vs) H):KCal0 P w K mg base C x (k+1) ps sp:=by
 obtain⟨f,fd,oc,od,dV,kV,doc,pm,an,cdv,ct,osl,rfl,lk,hcd,M,b1⟩:=D.ex;refine⟨⟨f,_,z6p lk hcd S len fun A outer s H vs Q E hr hsp=>?_,M,b1⟩,D.at_,D.cl⟩;obtain⟨t,h,q⟩:=hbody f cdv A outer s H vs Q E hr hsp;exact⟨t,h.nox,q⟩
section
variable{X:Cx}{C:Addr}{x:Str}{k j:Nat}{ps:List Str}{sp:Sp}{p pos:Pos}{e:Expr}{es:List Expr}{t:TA}
theorem x4e(M:KCal0 X.prog X.w X.K X.mg X.base C x k ps sp)(hr:Room j X.A)(ha:PA X (e::es) t)(hjk:k+1<=j:=by decide)(hg:Gl X x:=by rfl)(hdb:(x==("__debug__" : Str))=false:=by decide)(he:Be (e::es) X.env=(false,eval e X.env)::Be es X.env:=by rfl)(hpl:(Eh pos (Be es X.env)).any (·.1)=false:=by rfl):PE X (.Call (.Name x p) (e::es) [] pos) (tMake C sp [] E0 t):=by
 obtain⟨f,fd,F,m,b1⟩:=M.ex;exact z6n m F (hr.mono hjk) hg M.at_ b1 .nil pass0 ha hdb he hpl
end
open PySem PySem.Spec PyProof.Rows
theorem q9w{y:V}:∀{xs:List V} {us:List Value},Vals xs us->xs.all flatV=true->∀(i:Nat) (hi:i<us.length),∃z,xs[i]?=some z/\eqU y us[i]=eqV z y
 |_,_,.nil,_,i,hi=>absurd hi (Nat.not_lt_zero _)
 |x::xs,u::us,.cons r t,f,0,_=>by
  rw[Nn,Co] at f;exact⟨x,rfl,z6s r f.1⟩
 |x::xs,u::us,.cons r t,f,i+1,hi=>by
  rw[Nn,Co] at f;exact q9w t f.2 i (Nat.lt_of_succ_lt_succ hi)
def rIndexL:V->List V->Hp->VK->Prop:=fun x vs H Q=>∃l xs y,∃j:Nat,x=.ref l/\vs=[y]/\H l=some (.lst xs)/\flatV y=true/\xs.all flatV=true/\(∃z,xs[j]?=some z/\eqV z y=true)/\(∀i z,i<j->xs[i]?=some z->eqV z y=false)/\Q (.int (j:Int)) H
theorem z8o:MtM X "list.index" rIndexL:=by
 intro pins s σ H x vs v us Q I rx rv h;obtain⟨l,xs,y,j,rfl,rfl,hH,fy,fs,⟨z0,hz0,e0⟩,no,q⟩:=h;cases rx;obtain⟨u,rfl,ru⟩:=rv.one;obtain⟨z,its,n,r,hl,e⟩:=I.lstM hH;have hj:j<its.length:=by rw[<- r.length];exact(Bb.mp hz0).1
 have hsm:xs.length<=sizeLine:=z;rw[Er] at hsm;have hjx:j<xs.length:=(Bb.mp hz0).1;refine Gz F.slot_list_index ⟨_,e,rfl⟩ F.entry_list_index (F.args_list_index_2 _ _) (SeqAt.list_indexAt l its.toArray n none #[] u (eqU y) j (by simpa using hj) (by lia) ?_ ?_) ⟨e,fun w hw=>q4b ru fy r fs w (by simpa using hw),.int (j:Int),H,I.tok _,⟨_,rfl⟩,q⟩
 ·obtain⟨z1,h1,h2⟩:=q9w (y:=y) r fs j hj;rw[hz0] at h1;cases h1;simpa[h2] using e0
 ·intro m hm hlt;obtain⟨z1,h1,h2⟩:=q9w (y:=y) r fs m (by simpa using hm);simpa[h2] using no m z1 hlt h1
end L2
namespace PM
open PySem PySem.Spec PyProof.Rows L2 TX
def jn:List (List Nat)->List Nat
 |[]=>[]
 |[a]=>a
 |a::b::r=>a++47::jn (b::r)
theorem x4f(a:List Nat)(h:r≠[]):jn (a::r)=a++47::jn r:=by
 cases r with
 |nil=>exact absurd rfl h
 |cons b r=>rfl
theorem z8p:∀{xs:List (List Nat)},xs≠[]->∀y,jn (xs++[y])=jn xs++47::y
 |[],h,_=>absurd rfl h
 |[a],_,y=>rfl
 |a::b::r,_,y=>by
  have ih:=z8p (xs:=b::r) (by simp) y;show a++47::jn (b::r++[y])=_;rw[ih];show _=(a++47::jn (b::r))++47::y;simp
theorem z8q:∀{xs:List (List Nat)} {m:Nat},(∀x∈xs,x.length<=m)->(jn xs).length<=xs.length*(m+1)
 |[],m,_=>Br _
 |[a],m,h=>by
  have:=h a Ao;show a.length<=1*(m+1);lia
 |a::b::r,m,h=>by
  have h1:=h a Ao;have ih:=z8q fun x hx=>h x (Ak _ hx);show(a++47::jn (b::r)).length<=(b::r).length.succ*(m+1);rw[Ai,Bm,Ov];lia
def sp:List Nat->List (List Nat)
 |[]=>[[]]
 |c::r=>if c=47 then[]::sp r else match sp r with | []=>[[c]]|p::q=>(c::p)::q
theorem x2t:∀{a:List Nat} (l:List Nat),47∉a->sp (a++47::l)=a::sp l
 |[],l,_=>by show(if 47=47 then _ else _)=_;rw[if_pos rfl]
 |c::a,l,h=>by
  have hc:c≠47:=fun z=>h (by rw[z];exact Ao);have ih:=x2t l fun z=>h (Ak _ z);show(if c=47 then _ else _)=_;rw[if_neg hc];show(match sp (a++47::l) with | []=>[[c]]|p::q=>(c::p)::q)=_;rw[ih]
theorem x2u:∀{a:List Nat},47∉a->sp a=[a]
 |[],_=>rfl
 |c::a,h=>by
  have hc:c≠47:=fun z=>h (by rw[z];exact Ao);have ih:=x2u fun z=>h (Ak _ z);show(if c=47 then _ else _)=_;rw[if_neg hc,ih]
theorem x4g:∀{xs:List (List Nat)},xs≠[]->(∀x∈xs,47∉x)->sp (jn xs)=xs
 |[],h,_=>absurd rfl h
 |[a],_,f=>x2u (f a Ao)
 |a::b::r,_,f=>by
  show sp (a++47::jn (b::r))=_;rw[x2t _ (f a Ao),x4g (by simp) fun x hx=>f x (Ak _ hx)]
theorem slash:Ad "/" = ⟨#[47]⟩:=by decide +kernel
theorem tl_joinS:∀ts:List Str,tl (Li (Ad "/") ts)=jn (ts.map tl):=by
 intro ts;rw[q7k];induction ts with
 |nil=>rfl
 |cons a r ih =>
  cases r with
  |nil=>simp[Mw,jn]
  |cons b r =>
   show tl (a++Ad "/" ++ Mw (Ad "/") (b::r))=_;rw[q6e,q6e,ih];have e:tl (Ad "/")=[47]:=by decide +kernel
   rw[e];show _=tl a++47::jn (tl b::r.map tl);simp
theorem z4f(z:Str):(Iw z (Ad "/")).map tl=sp (tl z):=by
 have h1:=Si z (Ad "/");rw[<- q7k] at h1;have h2:=tl_joinS (Iw z (Ad "/"));rw[h1] at h2;have h3:=Sj z 47;rw[<- slash] at h3;have h4:=split_pos z (Ad "/");rw[h2,x4g]
 ·intro z;have:=congrArg List.length z;rw[Ac,Ej] at this;lia
 ·grind
theorem split_mk(z:Str):(Iw z (Ad "/")).map V.str=(sp (tl z)).map fun n=>V.str (mk n):=by
 rw[<- z4f,Ba];refine En fun p _=>?_;show V.str p=V.str (mk (tl p));rw[z0x]
theorem join_mk(ns:List (List Nat)):Li (Ad "/") (ns.map mk)=mk (jn ns):=by
 apply ext;rw[tl_joinS,q1h,Ba];congr 1;conv=>rhs;rw[<- Px ns]
 exact En fun p _=>q1h _
theorem x2v:∀l:List Nat,(sp l).length<=l.length+1
 |[]=>Aj _
 |c::r=>by
  have ih:=x2v r;show(if c=47 then[]::sp r else match sp r with | []=>[[c]]|p::q=>(c::p)::q).length<=_;split
  ·simp;lia
  ·cases e:sp r with
   |nil=>simp
   |cons p q=>grind
end PM
namespace PC
open PySem PySem.Spec PyProof.Rows L2 TX
def jc(s:Nat):List (List Nat)->List Nat
 |[]=>[]
 |[a]=>a
 |a::b::r=>a++s::jc s (b::r)
theorem jc_cons(a:List Nat)(h:r≠[]):jc s (a::r)=a++s::jc s r:=by
 cases r with
 |nil=>exact absurd rfl h
 |cons b r=>rfl
def sc(s:Nat):List Nat->List (List Nat)
 |[]=>[[]]
 |c::r=>if c=s then[]::sc s r else match sc s r with | []=>[[c]]|p::q=>(c::p)::q
theorem x2w:∀{a:List Nat} (l:List Nat),s∉a->sc s (a++s::l)=a::sc s l
 |[],l,_=>by show(if s=s then _ else _)=_;rw[if_pos rfl]
 |c::a,l,h=>by
  have hc:c≠s:=fun z=>h (by rw[z];exact Ao);have ih:=x2w l fun z=>h (Ak _ z);show(if c=s then _ else _)=_;rw[if_neg hc];show(match sc s (a++s::l) with | []=>[[c]]|p::q=>(c::p)::q)=_;rw[ih]
theorem sc_one:∀{a:List Nat},s∉a->sc s a=[a]
 |[],_=>rfl
 |c::a,h=>by
  have hc:c≠s:=fun z=>h (by rw[z];exact Ao);have ih:=sc_one fun z=>h (Ak _ z);show(if c=s then _ else _)=_;rw[if_neg hc,ih]
theorem sc_jc{s:Nat}:∀{xs:List (List Nat)},xs≠[]->(∀x∈xs,s∉x)->sc s (jc s xs)=xs
 |[],h,_=>absurd rfl h
 |[a],_,f=>sc_one (f a Ao)
 |a::b::r,_,f=>by
  show sc s (a++s::jc s (b::r))=_;rw[x2w _ (f a Ao),sc_jc (by simp) fun x hx=>f x (Ak _ hx)]
theorem tl_joinS(s:Nat):∀ts:List Str,tl (Li ((⟨#[s]⟩:Str)) ts)=jc s (ts.map tl):=by
 intro ts;rw[q7k];induction ts with
 |nil=>rfl
 |cons a r ih =>
  cases r with
  |nil=>simp[Mw,jc]
  |cons b r =>
   show tl (a++(⟨#[s]⟩:Str)++Mw ((⟨#[s]⟩:Str)) (b::r))=_;rw[q6e,q6e,ih];have e:tl (⟨#[s]⟩:Str)=[s]:=rfl;rw[e];show _=tl a++s::jc s (tl b::r.map tl);simp
theorem x1j(s:Nat)(z:Str):(Iw z ((⟨#[s]⟩:Str))).map tl=sc s (tl z):=by
 have h1:=Si z ((⟨#[s]⟩:Str));rw[<- q7k] at h1;have h2:=tl_joinS s (Iw z ((⟨#[s]⟩:Str)));rw[h1] at h2;have h3:=Sj z s;have h4:=split_pos z ((⟨#[s]⟩:Str));rw[h2,sc_jc]
 ·intro z;have:=congrArg List.length z;rw[Ac,Ej] at this;lia
 ·grind
theorem split_mk(s:Nat)(z:Str):(Iw z ((⟨#[s]⟩:Str))).map V.str=(sc s (tl z)).map fun n=>V.str (mk n):=by
 rw[<- x1j s,Ba];refine En fun p _=>?_;show V.str p=V.str (mk (tl p));rw[z0x]
theorem join_mk(s:Nat)(ns:List (List Nat)):Li ((⟨#[s]⟩:Str)) (ns.map mk)=mk (jc s ns):=by
 apply ext;rw[tl_joinS s,q1h,Ba];congr 1;conv=>rhs;rw[<- Px ns]
 exact En fun p _=>q1h _
theorem sc_len:∀l:List Nat,(sc s l).length<=l.length+1
 |[]=>Aj _
 |c::r=>by
  have ih:=sc_len (s:=s) r;show(if c=s then[]::sc s r else match sc s r with | []=>[[c]]|p::q=>(c::p)::q).length<=_;split
  ·simp;lia
  ·cases e:sc s r with
   |nil=>simp
   |cons p q=>grind
end PC
set_option maxHeartbeats 4000000
namespace K
open PySem L2 TX SB HM PM
def top(i:Nat):Stmt:=PySem.Challenge.pw_renamehall_k62_stopped_amid_a_line.main.body.getD i (.Pass ⟨0,0,0,0⟩)
structure Txt (mg:Str->Option Value):Prop where
 b_ValueError:mg "ValueError" = none
 b_all:mg "all" = none
 b_bool:mg "bool" = none
 b_dict:mg "dict" = none
 b_enumerate:mg "enumerate" = none
 b_int:mg "int" = none
 b_isinstance:mg "isinstance" = none
 b_len:mg "len" = none
 b_list:mg "list" = none
 b_max:mg "max" = none
 b_min:mg "min" = none
 b_range:mg "range" = none
 b_reversed:mg "reversed" = none
 b_sorted:mg "sorted" = none
 b_str:mg "str" = none
 b_tuple:mg "tuple" = none
 NAME_SIGNS:∃t,mg "NAME_SIGNS" = some (.str (Ad "abcdefghijklmnopqrstuvwxyzABCDEFGHIJKLMNOPQRSTUVWXYZ0123456789-_.") t)
 MOST_SIGNS:∃t,mg "MOST_SIGNS" = some (.int 12 t)
 MOST_NAMES:∃t,mg "MOST_NAMES" = some (.int 6 t)
structure Calls (P:Program) (w:World) (K:Ah) (mg:Str->Option Value) (base:Heap):Prop where
 draw:Cal P w K mg base "_law_draw" 1 ["_law_feed", "_law_many"] spDraw
section
variable{P:Program}{w:World}{K:Ah}{mg:Str->Option Value}{base:Heap}
abbrev z2y:Stmt:=top 54
theorem sc_draw:FnScope ["_law_feed", "_law_many", "_law_cell", "_law_number", "_law_found"] ["_law_feed", "_law_many"] (defScope z2y):=by trivial
theorem x4h (D : Df K mg "_law_draw" z2y ["_law_feed", "_law_many"]) (T : Txt mg) : Cal P w K mg base "_law_draw" 1 ["_law_feed", "_law_many"] spDraw := by
  refine D.cal sc_draw (fun vs H Q E h => ?_) (fun f cdv A outer s H vs Q E hr h => ?_)
  · obtain ⟨a, b, m, rfl, _⟩ := h; rfl
  · obtain ⟨a, b, m, rfl, ⟨⟨i, j, ha⟩, ns, hb⟩, hm0, hm1, k⟩ := h;refine ⟨_, (q0d (q3g (q0p q0q (q1a (ix_k K rfl) (pv 0) q0g (fun _ _ => rfl)) q0g) (z6e (pv 0) q0g q9g)) (q0d (q0v (q0o (eq_k K rfl hr) (q1a (ix_k K rfl) (pv 0) q0g (fun _ _ => rfl)) q0g (nomark _)) (q0d (q0m (i := 2) sc_draw.nd rfl (by first | exact Or.inl rfl | exact Or.inr rfl) (q1a (ix_k K rfl) (pv 0) q0g (fun _ _ => rfl))) (q0d (q0v (q0o x0c (q0h (q1k K rfl) (by rfl) T.b_len Ax (q0a (q1a (ix_k K rfl) (pv 0) q0g (fun _ _ => rfl)) q0c)) q0g (nomark _)) (q0f (q0m (i := 2) sc_draw.nd rfl (by first | exact Or.inl rfl | exact Or.inr rfl) (q1a (ix_k K rfl) (q1a (ix_k K rfl) (pv 0) q0g (fun _ _ => rfl)) (q0p q6v (q1a (ix_k K rfl) (pv 0) q0g (fun _ _ => rfl)) (q0h (q1k K rfl) (by rfl) T.b_len Ax (q0a (q1a (ix_k K rfl) (pv 0) q0g (fun _ _ => rfl)) q0c))) (fun _ _ => rfl)))) q0k) (q0d (q0v (q0o x3f (pv 2) (q0p x2f q0g q0g) (nomark _)) (q0d (q0m (i := 3) sc_draw.nd rfl (by first | exact Or.inl rfl | exact Or.inr rfl) (q0p q6v (q0p q2n (q0p q0q (q0p q0q (q0p q6v (pv 2) q0g) (q0p q2n q0g (q1a (ix_k K rfl) (pv 0) q0g (fun _ _ => rfl)))) q0g) q0g) q0g)) (q0d (q0m (i := 3) sc_draw.nd rfl (by first | exact Or.inl rfl | exact Or.inr rfl) (q0p q6v (q0p q2n (pv 3) (q0p q0q (pv 3) q0g)) q0g)) (q0f (q0j (q0p q6v (q0p q5p (pv 3) q0g) (pv 1)))))) q0k) (q0f (q3g (pv 2) (z6e (pv 0) q0g q9g)))))) q0k) (q0d (q0m (i := 4) sc_draw.nd rfl (by first | exact Or.inl rfl | exact Or.inr rfl) (q0p q6v (q1a (ix_k K rfl) (pv 0) q0g (fun _ _ => rfl)) (pv 1))) (q0d (q3g (q0p q5p (q1a (ix_k K rfl) (pv 0) q0g (fun _ _ => rfl)) (pv 1)) (z6e (pv 0) q0g q9g)) (q0f (q0j (pv 4))))))), ?_⟩;have nba : b ≠ a := FeedAt.ne ⟨⟨i, j, ha⟩, ns, hb⟩;refine ⟨_, rfl, .inl ⟨a, _, 1, _, rfl, rfl, SqL.of ha, rfl, .inl ⟨_, _, rfl, rfl, _, rfl, a, _, 1, 1, rfl, rfl, ha, rfl, ?_⟩⟩⟩;generalize hH1 : upd H a _ = H1;have ha1 : H1 a = some (.lst [.ref b, .int (i + 1), .int j]) := by rw [← hH1]; exact q0b
    have hb1 : H1 b = some (.lst (ns.map V.int)) := by rw [← hH1, q0e nba]; exact hb
    have fd : ∀ (x y : Int), Fd a b H (upd H1 a (.lst [.ref b, .int x, .int y])) := fun x y => ⟨⟨⟨x, y, q0b⟩, ns, by rw [q0e nba]; exact hb1⟩, fun c o e hc => by rw [q0e hc, ← hH1, q0e hc]; exact e⟩
    have fd1 : Fd a b H H1 := ⟨⟨⟨_, _, ha1⟩, ns, hb1⟩, fun c o e hc => by rw [← hH1, q0e hc]; exact e⟩
    refine ⟨_, rfl, .inl ⟨a, _, 2, _, rfl, rfl, SqL.of ha1, rfl, .inl ⟨rfl, _, rfl, ?_⟩⟩⟩;have last : ∀ (H2 : Hp) (σ2 : St) (y : Int), H2 a = some (.lst [.ref b, .int (i + 1), .int y]) → (∀ x y : Int, Fd a b H (upd H2 a (.lst [.ref b, .int x, .int y]))) → σ2[0]? = some (some (.ref a)) → σ2[1]? = some (some (.int m)) → σ2.length = 5 →
        tSeq (tAsg (tOp (rI (fun _ j => 0 < j) fun i j => .int (i % j)) (tOp (rIx K) (tVar 0) (tC (.int 2))) (tVar 1)) (gName 4)) (tSeq (tAsg (tOp (rI CDiv fun i j => .int (i / j)) (tOp (rIx K) (tVar 0) (tC (.int 2))) (tVar 1)) (gSub (tVar 0) (tC (.int 2)) rSetL)) (tRet (tVar 4))) { nx := fun _ H' => Q .non H', rt := Q } σ2 H2 := by
      intro H2 σ2 y h2 f2 e0 e1 el;match σ2, e0, e1, el with
      | [x0, x1, x2, x3, x4], e0, e1, _ =>
        cases e0;cases e1;refine ⟨_, rfl, .inl ⟨a, _, 2, _, rfl, rfl, SqL.of h2, rfl, _, rfl, _, _, rfl, rfl, hm0, ?_⟩⟩;refine ⟨_, rfl, .inl ⟨a, _, 2, _, rfl, rfl, SqL.of h2, rfl, _, rfl, _, _, rfl, rfl, ⟨hm0, hm1⟩, _, rfl, a, _, 2, 2, rfl, rfl, h2, rfl, _, rfl, ?_⟩⟩;exact k _ _ (Md _ (by lia)) (Ka _ hm0) (f2 _ _)
    refine ite2 (fun _ => ?_) (fun _ => last H1 _ j ha1 fd rfl rfl rfl);refine ⟨_, rfl, .inl ⟨a, _, 1, _, rfl, rfl, SqL.of ha1, rfl, ?_⟩⟩;refine ⟨_, rfl, .inl ⟨a, _, 0, _, rfl, rfl, SqL.of ha1, rfl, ⟨_, _, rfl, .inl ⟨_, SqL.of hb1, rfl⟩, ⟨_, _, rfl, rfl, _, rfl, ?_⟩⟩⟩⟩
    have rest : ∀ cell : Int, tSeq (tIfS (tTest (tOp (rI0 fun i j => .bl (decide (i < j))) (tVar 2) (tOp (rI CPow fun i j => .int (i ^ j.toNat)) (tC (.int 10)) (tC (.int 18)))))
          (tSeq (tAsg (tOp (rI (fun _ j => 0 < j) fun i j => .int (i % j)) (tOp rMulU (tOp rAddU (tOp rAddU (tOp (rI (fun _ j => 0 < j) fun i j => .int (i % j)) (tVar 2) (tC (.int 2147483647))) (tOp rMulU (tC (.int 613)) (tOp (rIx K) (tVar 0) (tC (.int 1))))) (tC (.int 7))) (tC (.int 48271))) (tC (.int 2147483647))) (gName 3))
            (tSeq (tAsg (tOp (rI (fun _ j => 0 < j) fun i j => .int (i % j)) (tOp rMulU (tVar 3) (tOp rAddU (tVar 3) (tC (.int 69621)))) (tC (.int 2147483629))) (gName 3))
              (tRet (tOp (rI (fun _ j => 0 < j) fun i j => .int (i % j)) (tOp (rI CDiv fun i j => .int (i / j)) (tVar 3) (tC (.int 64))) (tVar 1))))) tNext)
          (tAsg (tVar 2) (gSub (tVar 0) (tC (.int 2)) rSetL))
        { nx := fun σ2 H2 => tSeq (tAsg (tOp (rI (fun _ j => 0 < j) fun i j => .int (i % j)) (tOp (rIx K) (tVar 0) (tC (.int 2))) (tVar 1)) (gName 4)) (tSeq (tAsg (tOp (rI CDiv fun i j => .int (i / j)) (tOp (rIx K) (tVar 0) (tC (.int 2))) (tVar 1)) (gSub (tVar 0) (tC (.int 2)) rSetL)) (tRet (tVar 4))) { nx := fun _ H' => Q .non H', rt := Q } σ2 H2, rt := Q }
        [some (.ref a), some (.int m), some (.int cell), none, none] H1 := by
      intro cell;refine ⟨_, rfl, _, _, rfl, rfl, ⟨by decide, by decide, by decide⟩, _, _, rfl, rfl, _, rfl, ?_⟩;refine ite2 (fun _ => ?_) (fun _ => ?_)
      · refine ⟨_, rfl, _, _, rfl, rfl, (by show (0 : Int) < 2147483647; decide), ?_⟩;refine ⟨_, rfl, .inl ⟨a, _, 1, _, rfl, rfl, SqL.of ha1, rfl, .inl ⟨_, _, rfl, rfl, .inl ⟨by decide, by decide⟩, .inl ⟨_, _, rfl, rfl, .inl ⟨_, _, rfl, rfl, .inl ⟨_, _, rfl, rfl, .inr ⟨by decide, by decide⟩, _, _, rfl, rfl, (by show (0 : Int) < 2147483647; decide), ?_⟩⟩⟩⟩⟩⟩;generalize hn : ((cell % 2147483647 + 613 * (i + 1) + 7) * 48271) % 2147483647 = n;have n0 : 0 ≤ n := by rw [← hn]; exact Md _ (by decide)
        have n1 : n < 2147483647 := by rw [← hn]; exact Ka _ (by decide)
        refine ⟨_, rfl, _, rfl, .inl ⟨_, _, rfl, rfl, .inl ⟨_, _, rfl, rfl, .inl ⟨by lia, by lia⟩, _, _, rfl, rfl, (by show (0 : Int) < 2147483629; decide), ?_⟩⟩⟩;refine ⟨_, rfl, _, _, rfl, rfl, ⟨by decide, by decide⟩, _, rfl, _, _, rfl, rfl, hm0, ?_⟩;exact k _ _ (Md _ (by lia)) (Ka _ hm0) fd1
      · refine ⟨_, rfl, _, rfl, a, _, 2, 2, rfl, rfl, ha1, rfl, ?_⟩;refine last _ _ cell q0b (fun x y => ?_) rfl rfl rfl;have := fd x y;rw [x3c];exact this
    refine ite2 (fun hl => ?_) (fun _ => rest _);have hne : ns.map V.int ≠ [] := by
      intro z;rw [z] at hl;simp at hl
    obtain ⟨x, hx, ex⟩ := x3m (i + 1) hne;obtain ⟨c, rfl⟩ : ∃ c, x = V.int c := by
      obtain ⟨c, _, e⟩ := Al.mp hx;exact ⟨c, e.symm⟩
    refine ⟨_, rfl, .inl ⟨a, _, 0, _, rfl, rfl, SqL.of ha1, rfl, ⟨_, rfl, .inl ⟨a, _, 1, _, rfl, rfl, SqL.of ha1, rfl, ⟨_, rfl, .inl ⟨a, _, 0, _, rfl, rfl, SqL.of ha1, rfl, ⟨_, _, rfl, .inl ⟨_, SqL.of hb1, rfl⟩, _, _, rfl, rfl, ?_, ?_⟩⟩⟩⟩⟩⟩⟩
    · have : 0 < (ns.map V.int).length := by
        cases e : ns.map V.int with
        | nil => exact absurd e hne
        | cons _ _ => simp
      show (0 : Int) < ((ns.map V.int).length : Int);lia
    · exact .inl ⟨b, _, _, _, rfl, rfl, SqL.of hb1, ex, rest c⟩
theorem aab_in:∀c∈tl (Ad "aAb"),c∈NS:=by decide +kernel
def spName:Sp:=fun vs H Q _=>∃a b,vs=[.ref a]/\FeedAt H a b/\∀(t:List Nat) H',okN t->Fd a b H H'->Q (.str (mk t)) H'
abbrev z2z:Stmt:=top 55
theorem sc_name:FnScope ["_law_feed", "_law_signs", "_law_size"] ["_law_feed"] (defScope z2z):=by trivial
theorem x4i(D:Df K mg "_law_name" z2z ["_law_feed"])(T:Txt mg)(C:Calls P w K mg base):Cal P w K mg base "_law_name" 2 ["_law_feed"] spName:=by
 refine D.cal sc_name (fun vs H Q E h=>?_) (fun f cdv A outer s H vs Q E hr h=>?_)
 ·obtain⟨a,b,rfl,_⟩:=h;rfl
 ·obtain⟨a,b,rfl,F,k⟩:=h;refine⟨_,(q0d (q0m (i:=1) sc_name.nd rfl (by trivial) q0t) (q0d (q0m (i:=2) sc_name.nd rfl (by trivial) (q0p q0q q0g (pe_c C.draw hr (q0a (pv 0) (q0a q0g q0c))))) (q5d (q0v (q0o x0c (pe_c C.draw hr (q0a (pv 0) (q0a q0g q0c))) q0g (nomark _)) (q0d (q0m (i:=1) sc_name.nd rfl (by trivial) q0t) (q0f (q0m (i:=2) sc_name.nd rfl (by trivial) (q0p q0q q0g (pe_c C.draw hr (q0a (pv 0) (q0a q0g q0c))))))) q0k) (q0f (q0j (@bm_k _ _ _ _ _ _ _ _ _ _ _ _ K rfl By Gm Gn (z0w K rfl) q0t (q0a (q1s ["_law_k"] [("_law_signs",1),("_law_feed",0)] rfl (q1p rfl T.b_range (q0a (pv 2) q0c)) (fun _ _ _ _ _=>(q0i (i:=0) (show(["_law_k", "_law_signs", "_law_feed"]:List Str).Nodup by decide +kernel) rfl (by trivial))) (fun _ _ _ _ _=>q1r) (fun _ _ _ _ _=>(q1a (ix_k K rfl) (pv 1) (pe_c C.draw hr (q0a (pv 2) (q0a (q0h (q1k K rfl) (by rfl) T.b_len Ax (q0a (pv 1) q0c)) q0c))) (fun _ _=>rfl)))) q0c) (by rfl) (by rfl) (by rfl) (by rfl) (by rfl))))))),?_⟩;refine⟨_,rfl,a,b,_,rfl,F,by decide,by decide,fun r1 H1 r10 r11 fd1=>.inl ⟨_,_,rfl,rfl,?_⟩⟩;refine⟨fun σ' H'=>∃(g:Str) (n:Int),σ'=[some (.ref a),some (.str g),some (.int n)]/\Fd a b H H'/\0<g.length/\g.length<=100/\1<=n/\n<=12/\∀c∈tl g,c∈NS,?_,?_⟩
  ·rintro σ' H' ⟨g,n,rfl,fd,hg0,hg1,hn0,hn1,hg⟩;refine⟨rfl,_,rfl,n,rfl,by lia,by lia,fun D hD=>?_⟩;have F':=fd.feed;refine q4o (n:=n.toNat) (fun i ys H2=>∃cs:List Nat,ys=cs.map (fun c=>V.str ⟨#[c]⟩)/\cs.length=i/\i<=n.toNat/\(∀c∈cs,c∈tl g)/\Fd a b H' H2/\H2 D=some (.lst ys)) ⟨[],rfl,rfl,Br _,fun _ h=>(nomatch h),(Fd.refl F').new hD,q0b⟩ (fun i ys H' ⟨cs,_,_,_,_,_,h⟩=>h) ?_ ?_
   ·rintro i ys H2 hi ⟨cs,rfl,hl,_,hc,fd2,hHD⟩;refine⟨_,rfl,_,rfl,_,rfl,_,_,rfl,⟨small (by lia),rfl⟩,a,b,_,rfl,fd2.feed,by lia,by lia,fun r H3 r0 r1 fd3=>?_⟩;have hl2:(tl g).length=g.length:=(len g).symm;obtain⟨c,hc1,hc2⟩:=q7j (xs:=tl g) r0 (by lia);refine .inr (.inr ⟨g,r,c,rfl,rfl,small (by lia),hc2,?_⟩);have hDa:D≠a:=fun z=>by subst z;exact F'.na hD rfl
    refine⟨fd3.at hHD hDa,small' (by rw[Ac];lia),cs++[c],by rw[An];rfl,by rw[Ai,hl];rfl,by lia,fun d hd=>?_,(fd2.trans fd3).put F' hD,q0b⟩;rcases Aw.mp hd with z|z
    ·exact hc d z
    ·rw[Az.mp z];exact As hc1
   ·rintro ys H2 ⟨cs,rfl,hl,_,hc,fd2,hHD⟩;have e:cs.map (fun c=>V.str ⟨#[c]⟩)=(cs.map fun c=>(⟨#[c]⟩:Str)).map V.str:=by rw[Ba];rfl
    refine⟨_,D,cs.map fun c=>⟨#[c]⟩,rfl,rfl,.inl (SqL.of (by rw[<- e];exact hHD)),?_,?_⟩
    ·rw[z3s,Ac];have:(Ad "").length=0:=by decide +kernel
     rw[this,hl];exact small (by lia)
    ·have z:=z0y cs;rw[z];exact k cs H2 ⟨by lia,by lia,fun c hc'=>hg c (hc c hc')⟩ (fd.trans fd2)
  ·refine⟨_,rfl,a,b,_,rfl,fd1.feed,by decide,by decide,fun r2 H2 r20 r21 fd2=>?_⟩;refine⟨_,_,rfl,rfl,_,rfl,ite2 (fun h=>?_) (fun h=>?_)⟩
   ·refine⟨_,rfl,a,b,_,rfl,fd2.feed,by decide,by decide,fun r3 H3 r30 r31 fd3=>.inl ⟨_,_,rfl,rfl,?_⟩⟩;exact⟨_,_,rfl,(fd1.trans fd2).trans fd3,by decide +kernel,by decide +kernel,by lia,by lia,aab_in⟩
   ·exact⟨_,_,rfl,fd1.trans fd2,by decide +kernel,by decide +kernel,by lia,by lia,fun c hc=>hc⟩
def spFolded:Sp:=fun vs H Q _=>∃p q bl,vs=[.ref p,.bl bl]/\H p=some (.tup (vP q))/\okP q/\∀p' H',Same H H'->H' p'=some (.tup (vP (fold bl q)))->Q (.ref p') H'
theorem q1f(p:Pth):(vP p).length=p.length:=Ac _
theorem q2f{q:Pth}(h:q≠[]):cutV (vP q) none (some (-1))=vP q.dropLast/\¬(HT.sIx (vP q).length 0 none=0/\HT.sIx (vP q).length (vP q).length (some (-1))=(vP q).length):=by
 have hl:=Bo.mpr h;have e:HT.sIx (vP q).length (vP q).length (some (-1))=q.length-1:=by
  show(if (-1:Int)<0 then((-1:Int)+((vP q).length:Int)).toNat else min (-1:Int).toNat (vP q).length)=_;rw[if_pos (by decide),q1f];lia
 refine⟨?_,fun z=>by rw[e,q1f] at z;lia⟩;unfold cutV;rw[e];show((vP q).drop 0).take _=_;rw[Kq];show(vP q).take (q.length-1-0)=_;rw[Kc,<- Dv,<- Gk]
theorem q4v{q:Pth}(h:q≠[]):atI (vP q) (-1)=some (.str (mk (q.getLastD []))):=by
 have hl:=Bo.mpr h;unfold atI ixN;rw[if_neg (by decide),if_pos (by rw[q1f];lia)];have e:((-1:Int)+((vP q).length:Int)).toNat=q.length-1:=by rw[q1f];lia
 show(vP q)[((-1:Int)+((vP q).length:Int)).toNat]?=_;rw[e,Aq,<- List.getLast?_eq_getElem?,Ez,Ft h];rfl
theorem q5t{q:Pth}(h:okP q):okN (q.getLastD []):=by
 rw[Ez,Ft h.ne];exact h.all _ (List.getLast_mem h.ne)
theorem z4g{n:List Nat}(h:∀c∈n,c<128):Ie (mk n)=mk (lowN n):=by
 apply ext;rw[TX.lower (by rw[q1h];exact h),q1h,q1h];rfl
abbrev q7y:Stmt:=top 56
theorem z8r:FnScope ["_law_path", "_law_blind"] ["_law_path", "_law_blind"] (defScope q7y):=by trivial
theorem z8s(D:Df K mg "_law_folded" q7y ["_law_path", "_law_blind"])(T:Txt mg):Cal P w K mg base "_law_folded" 1 ["_law_path", "_law_blind"] spFolded:=by
 refine D.cal z8r (fun vs H Q E h=>?_) (fun f cdv A outer s H vs Q E hr h=>?_)
 ·obtain⟨p,q,bl,rfl,_⟩:=h;rfl
 ·obtain⟨p,q,bl,rfl,hp,ok,k⟩:=h;refine⟨_,(q0d (q0v (@q2k _ _ _ K rfl (pv 1) (fun _=>rfl)) (q0f (q0j (q0p q5s (q0s (sl_k K rfl) (pv 0) q0x (q0u (q2c q1e q0g))) (q0z (q0a (@z2l _ _ _ _ _ _ _ _ _ K rfl By Ih Ii q6n (q1a (ix_k K rfl) (pv 0) (q2c q1e q0g) (fun _ _=>rfl)) (by rfl) (by rfl)) q0c))))) q0k) (q0f (q0j (pv 0)))),?_⟩;cases bl with
  |false=>exact⟨_,rfl,false,rfl,iteF ⟨_,rfl,k p H (Same.refl H) hp⟩⟩
  |true =>
   obtain⟨c1,c2⟩:=q2f ok.ne;have ln:=(q5t ok).low;refine⟨_,rfl,true,rfl,iteT ⟨_,rfl,_,rfl,_,rfl,.inr (.inr ⟨p,_,rfl,SqT.of hp,c2,fun p1 hp1=>?_⟩)⟩⟩;rw[c1];have s1:=(Same.refl H).new (o:=.tup (vP q.dropLast)) hp1;refine⟨_,rfl,_,rfl,.inr (.inl ⟨p,_,-1,_,rfl,rfl,SqT.of (s1 _ _ hp),q4v ok.ne,rfl,_,rfl,rfl,small (by rw[q0r];have:=(q5t ok).few;lia),?_⟩)⟩;refine⟨by show 1<=sizeLine;decide,fun p2 hp2=>?_⟩;have s2:=s1.new (o:=.tup [.str (Ie (mk (q.getLastD [])))]) hp2;refine⟨p1,p2,_,_,rfl,rfl,by rw[q0e (fun z=>by subst z;rw[q0b] at hp2;cases hp2)];exact q0b,q0b,by rw[q1f];exact small (by rw[Cq];have:=ok.few;show _+1<=_;lia),fun p3 H3 s3 h3 _=>?_⟩;refine k p3 H3 (s2.trans s3) ?_;rw[h3,z4g ln,q7s];show _=some (HO.tup ((q.dropLast++[lowN (q.getLastD [])]).map _));rw[An];rfl
end
end K
set_option maxHeartbeats 4000000
namespace K
open PySem L2 TX SB HM PM
section
variable{P:Program}{w:World}{K:Ah}{mg:Str->Option Value}{base:Heap}
theorem z4h:∀{p q:Pth},kP p=kP q->p=q
 |[],[],_=>rfl
 |[],_::_,h=>by cases h
 |_::_,[],h=>by cases h
 |a::p,b::q,h=>by
  unfold kP at h;rw[Ap,Ap] at h;injection h with h1 h2;injection h1 with h1;rw[SB.mk_inj h1,z4h h2]
theorem z8t{rs:List HRow}{p:Pth}(h:∀r∈rs,r.1≠p):valV (rs.map fun r=>(kP r.1,r.2)) (kP p)=none:=by
 induction rs with
 |nil=>rfl
 |cons r rs ih =>
  rw[Ap,q1l (fun z=>h r Ao (z4h z))];exact ih fun x hx=>h x (Ak _ hx)
theorem q7z{rs:List HRow}{r:HRow}(hr:r∈rs)(nd:(rs.map (·.1)).Nodup):valV (rs.map fun r=>(kP r.1,r.2)) (kP r.1)=some r.2:=by
 induction rs with
 |nil=>cases hr
 |cons x rs ih =>
  rw[Ap,Dd] at nd;rcases Bd.mp hr with rfl|hr
  ·rw[Ap];exact q1n rfl
  ·rw[Ap,q1l (fun z=>nd.1 (by rw[z4h z];exact Al.mpr ⟨r,hr,rfl⟩))];exact ih hr nd.2
theorem q5l{rs:List HRow}{p:Pth}{v:V}(h:∀r∈rs,r.1≠p):putK (rs.map fun r=>(kP r.1,r.2)) (kP p) v=(rs++[(p,v)]).map fun r=>(kP r.1,r.2):=by
 rw[x0s v (z8t h),An];rfl
structure RwInv (H:Hp) (a b L Dr d:Addr) (bl:Bool) (i:Nat) (H':Hp) (zs:List Zr) (ds:List (Addr×Pth)):Prop where
 fd:Fd a b H H'
 rl:RL H' L zs
 hl:Hl bl (zs.map (·.2))
 len:zs.length<=i
 da:H' Dr=some (.lst (ds.map fun z=>V.ref z.1))
 dt:∀z∈ds,H' z.1=some (.tup (vP z.2))/\(z.2=[]\/((z.2,none)∈zs.map (·.2)))/\z.2.length<6
 dn:ds≠[]
 dl:ds.length<=i+1
 hd:H' d=some (dR (zs.map fun z=>(fold bl z.2.1,.bl true)))
theorem RwInv.go{H:Hp}{a b L Dr d:Addr}{bl:Bool}{i:Nat}{H' H2:Hp}{zs:List Zr}{ds:List (Addr×Pth)}(x:RwInv H a b L Dr d bl i H' zs ds)(fd:Fd a b H' H2)(hL:L≠a)(hD:Dr≠a)(hd:d≠a):RwInv H a b L Dr d bl i H2 zs ds :=
 ⟨x.fd.trans fd,x.rl.fd x.fd.feed fd hL,x.hl,x.len,fd.at x.da hD,fun z hz=>⟨tupFd x.fd.feed fd _ _ (x.dt z hz).1,(x.dt z hz).2⟩,x.dn,x.dl,fd.at x.hd hd⟩
theorem RwInv.sm{H:Hp}{a b L Dr d:Addr}{bl:Bool}{i:Nat}{H' H2:Hp}{zs:List Zr}{ds:List (Addr×Pth)}(x:RwInv H a b L Dr d bl i H' zs ds)(s:Same H' H2):RwInv H a b L Dr d bl i H2 zs ds :=
 ⟨x.fd.same s,x.rl.same s,x.hl,x.len,s _ _ x.da,fun z hz=>⟨s _ _ (x.dt z hz).1,(x.dt z hz).2⟩,x.dn,x.dl,s _ _ x.hd⟩
theorem RwInv.put{H:Hp}{a b L Dr d T p:Addr}{bl:Bool}{i:Nat}{H':Hp}{zs:List Zr}{ds:List (Addr×Pth)}{q:Pth}{m:Option Int}(x:RwInv H a b L Dr d bl i H' zs ds)(F:FeedAt H a b)(hL:H L=none)(hd:H d=none)(nLd:d≠L)(nDL:Dr≠L)(hp:H' p=some (.tup (vP q)))(ok:okP q)(hnew:∀r∈zs.map (fun z=>((fold bl z.2.1,.bl true):HRow)),r.1≠fold bl q)(hq:q.dropLast=[]\/(q.dropLast,none)∈zs.map (·.2))(hT:upd H' d (dR (zs.map (fun z=>((fold bl z.2.1,.bl true):HRow))++[(fold bl q,.bl true)])) T=none):
  RwInv H a b L Dr d bl (i+1) (upd (upd (upd H' d (dR (zs.map (fun z=>((fold bl z.2.1,.bl true):HRow))++[(fold bl q,.bl true)]))) T (.tup [.ref p,mV m])) L (.lst (zs.map (fun z=>V.ref z.1)++[.ref T]))) (zs++[(T,(q,m))]) ds:=by
 have hTd:T≠d:=fun z=>by rw[z,q0b] at hT;cases hT
 have hT':H' T=none:=by rw[q0e hTd] at hT;exact hT
 have hLT:T≠L:=fun z=>by rw[z,x.rl.at_] at hT';cases hT'
 have hDT:Dr≠T:=fun z=>by rw[<- z,x.da] at hT';cases hT'
 have hDd:Dr≠d:=fun z=>by have e:=x.da;rw[z,x.hd] at e;cases e
 have tk:∀S xs,H' S=some (.tup xs)->upd (upd (upd H' d (dR (zs.map (fun z=>((fold bl z.2.1,.bl true):HRow))++[(fold bl q,.bl true)]))) T (.tup [.ref p,mV m])) L (.lst (zs.map (fun z=>V.ref z.1)++[.ref T])) S=some (.tup xs):=fun S xs e=>by
  rw[q0e (fun z=>by rw[z,x.rl.at_] at e;cases e),q0e (fun z=>by rw[z,hT'] at e;cases e),q0e (fun z=>by rw[z,x.hd] at e;cases e)];exact e
 have em:(zs++[(T,(q,m))]).map (·.2)=zs.map (·.2)++[(q,m)]:=by rw[An];rfl
 refine⟨((x.fd.put F hd).new hT).put F hL,⟨by rw[q0b,An];rfl,fun z hz=>?_⟩,?_,by rw[Ai];exact Jc x.len,?_,fun z hz=>?_,x.dn,Gw x.dl,?_⟩
 ·rcases Aw.mp hz with hz|hz
  ·exact PR.same (x.rl.pr z hz) tk
  ·rw[Az.mp hz];exact⟨p,by rw[q0e hLT];exact q0b,tk _ _ hp⟩
 ·rw[em];refine⟨fun r hr=>?_,?_,fun r hr=>?_⟩
  ·rcases Aw.mp hr with hr|hr
   ·exact x.hl.ok r hr
   ·rw[Az.mp hr];exact ok
  ·rw[An];refine Ny.mpr ⟨x.hl.nd,(Oy _ _),fun y hy y' hy'=>?_⟩;rw[Az.mp hy'];obtain⟨r,hr,rfl⟩:=Al.mp hy;obtain⟨z,hz,rfl⟩:=Al.mp hr;exact hnew (fold bl z.2.1,.bl true) (Al.mpr ⟨z,hz,rfl⟩)
  ·rcases Aw.mp hr with hr|hr
   ·exact(x.hl.dr r hr).imp id fun z=>Dc _ z
   ·rw[Az.mp hr];exact hq.imp id fun z=>Dc _ z
 ·rw[q0e nDL,q0e hDT,q0e hDd];exact x.da
 ·obtain⟨z1,z2,z3⟩:=x.dt z hz;exact⟨tk _ _ z1,z2.imp id fun y=>by rw[em];exact Dc _ y,z3⟩
 ·rw[q0e nLd,q0e hTd.symm,q0b,An];rfl
theorem RwInv.draw{H:Hp}{a b L Dr d p:Addr}{bl:Bool}{i:Nat}{H':Hp}{zs:List Zr}{ds:List (Addr×Pth)}{q:Pth}(x:RwInv H a b L Dr d bl (i+1) H' zs ds)(F:FeedAt H a b)(hD:H Dr=none)(nDL:Dr≠L)(hl:ds.length<=i+1)(hp:H' p=some (.tup (vP q)))(hq:(q,none)∈zs.map (·.2))(h6:q.length<6):RwInv H a b L Dr d bl (i+1) (upd H' Dr (.lst (ds.map (fun z=>V.ref z.1)++[.ref p]))) zs (ds++[(p,q)]):=by
 have hDd:d≠Dr:=fun z=>by have e:=x.da;rw[<- z,x.hd] at e;cases e
 have tk:∀S xs,H' S=some (.tup xs)->upd H' Dr (.lst (ds.map (fun z=>V.ref z.1)++[.ref p])) S=some (.tup xs):=fun S xs e=>by rw[q0e (fun z=>by rw[z,x.da] at e;cases e)];exact e
 refine⟨x.fd.put F hD,⟨by rw[q0e nDL.symm];exact x.rl.at_,fun z hz=>PR.same (x.rl.pr z hz) tk⟩,x.hl,x.len,by rw[q0b,An];rfl,fun z hz=>?_,by simp,by rw[Ai];exact Jc hl,by rw[q0e hDd];exact x.hd⟩;rcases Aw.mp hz with hz|hz
 ·exact⟨tk _ _ (x.dt z hz).1,(x.dt z hz).2⟩
 ·rw[Az.mp hz];exact⟨tk _ _ hp,.inr hq,h6⟩
structure CallsN (P:Program) (w:World) (K:Ah) (mg:Str->Option Value) (base:Heap):Prop where
 draw:Cal P w K mg base "_law_draw" 1 ["_law_feed", "_law_many"] spDraw
 name:Cal P w K mg base "_law_name" 2 ["_law_feed"] spName
 folded:Cal P w K mg base "_law_folded" 1 ["_law_path", "_law_blind"] spFolded
def spRows:Sp:=fun vs H Q _=>∃a b bl m,vs=[.ref a,.bl bl,.int m]/\FeedAt H a b/\0<=m/\m<=60/\∀L zs H',Fd a b H H'->H L=none->RL H' L zs->Hl bl (zs.map (·.2))->zs.length<=m.toNat->Q (.ref L) H'
abbrev z3a:Stmt:=top 57
theorem sc_rows:FnScope ["_law_feed", "_law_blind", "_law_most", "_law_rows_here", "_law_drawers", "_law_held", "_law_k", "_law_path", "_law_mark"] ["_law_feed", "_law_blind", "_law_most"] (defScope z3a):=by trivial
theorem x4j(D:Df K mg "_law_rows" z3a ["_law_feed", "_law_blind", "_law_most"])(T:Txt mg)(C:CallsN P w K mg base):Cal P w K mg base "_law_rows" 3 ["_law_feed", "_law_blind", "_law_most"] spRows:=by
 refine D.cal sc_rows (fun vs H Q E h=>?_) (fun f cdv A outer s H vs Q E hr h=>?_)
 ·obtain⟨a,b,bl,m,rfl,_⟩:=h;rfl
 ·obtain⟨a,b,bl,m,rfl,F,hm0,hm1,k⟩:=h;refine⟨_,(q0d (q0m (i:=3) sc_rows.nd rfl (by trivial) (q2l q0c)) (q0d (q0m (i:=4) sc_rows.nd rfl (by trivial) (q2l (q0a (q0z q0c) q0c))) (q0d (q0m (i:=5) sc_rows.nd rfl (by trivial) q9p) (q0d (q3b Cr rfl (q1p rfl T.b_range (q0a (pe_c C.draw hr (q0a (pv 0) (q0a (q0p q0q (pv 2) q0g) q0c))) q0c)) (q0i (i:=6) sc_rows.nd rfl (by trivial)) (q0d (q0m (i:=7) sc_rows.nd rfl (by trivial) (q0p q5s (q1a (ix_k K rfl) (pv 4) (pe_c C.draw hr (q0a (pv 0) (q0a (q0h (q1k K rfl) (by rfl) T.b_len Ax (q0a (pv 4) q0c)) q0c))) (fun _ _=>rfl)) (q0z (q0a (pe_c C.name hr (q0a (pv 0) q0c)) q0c)))) (q0d (q0m (i:=8) sc_rows.nd rfl (by trivial) (q1a (ix_k K rfl) (q2l (q0a (pe_c C.draw hr (q0a (pv 0) (q0a q0g q0c))) (q0a (pe_c C.draw hr (q0a (pv 0) (q0a (q0p q0q (q0p x2f q0g q0g) q0g) q0c))) q0c))) (pe_c C.draw hr (q0a (pv 0) (q0a q0g q0c))) (fun _ _=>rfl))) (q5d (q0v (q0o (eq_k K rfl hr) (pe_c C.draw hr (q0a (pv 0) (q0a q0g q0c))) q0g (nomark _)) (q0f (q0m (i:=8) sc_rows.nd rfl (by trivial) q3e)) q0k) (q0f (q0v (q2b (q5f (q2v hr) (pe_c C.folded hr (q0a (pv 7) (q0a (pv 1) q0c))) (pv 5))) (q0d (q9n (q2v hr) (pv 5) (pe_c C.folded hr (q0a (pv 7) (q0a (pv 1) q0c))) q3d rfl) (q0d (q1c (@bm_k _ _ _ _ _ _ _ _ _ _ _ _ K rfl Ci Cs Ct q1q (pv 3) (q0a (q0z (q0a (pv 7) (q0a (pv 8) q0c))) q0c) (by rfl) (by rfl) (by rfl) (by rfl) (by rfl))) (q0f (q0v (pt_j (@PW.pt _ _ _ (q5a (q2b (q4k (pv 8))) (q2u (q0o x3f (q0h (q1k K rfl) (by rfl) T.b_len Ax (q0a (pv 7) q0c)) q0g (nomark _)))))) (q0f (q1c (@bm_k _ _ _ _ _ _ _ _ _ _ _ _ K rfl Ci Cs Ct q1q (pv 4) (q0a (pv 7) q0c) (by rfl) (by rfl) (by rfl) (by rfl) (by rfl)))) q0k)))) q0k)))))) (q0f (q0j (pv 3))))))),?_⟩;refine⟨by show 0<=sizeLine;decide,fun L hL=>⟨by show 0<=sizeLine;decide,fun p0 hp0=>⟨by show 1<=sizeLine;decide,fun Dr hDr=>?_⟩⟩⟩;intro d hd;have hLa:L≠a:=(q0n F.fa.choose_spec.choose_spec hL).symm;have s1:=(Same.refl H).new (o:=.lst []) hL;have s2:=s1.new (o:=.tup []) hp0;have s3:=s2.new (o:=.lst [.ref p0]) hDr;have s4:=s3.new (o:=.dT []) hd;have hDrH:H Dr=none:=s2.free hDr;have hdH:H d=none:=s3.free hd;have hDa:Dr≠a:=(q0n F.fa.choose_spec.choose_spec hDrH).symm;have hda:d≠a:=(q0n F.fa.choose_spec.choose_spec hdH).symm;have hLp:p0≠L:=fun z=>by rw[z,q0b] at hp0;cases hp0
  have hLDr:Dr≠L:=fun z=>by rw[z,q0e hLp.symm,q0b] at hDr;cases hDr
  have hpDr:Dr≠p0:=fun z=>by rw[z,q0b] at hDr;cases hDr
  have hLd:d≠L:=fun z=>by rw[z,q0e hLDr.symm,q0e hLp.symm,q0b] at hd;cases hd
  have hDd:d≠Dr:=fun z=>by rw[z,q0b] at hd;cases hd
  have hpd:d≠p0:=fun z=>by rw[z,q0e hpDr.symm,q0b] at hd;cases hd
  have I0:RwInv H a b L Dr d bl 0 (upd (upd (upd (upd H L (.lst [])) p0 (.tup [])) Dr (.lst [.ref p0])) d (.dT [])) [] [(p0,[])]:=by
   refine⟨(Fd.refl F).same s4,⟨?_,(fun _ h=>nomatch h)⟩,Hl.nil bl,Aj _,?_,fun z hz=>?_,by simp,Aj _,q0b⟩
   ·rw[q0e hLd.symm,q0e hLDr.symm,q0e hLp.symm];exact q0b
   ·rw[q0e hDd.symm];exact q0b
   ·rw[Az.mp hz];exact⟨by rw[q0e hpd.symm,q0e hpDr.symm];exact q0b,.inl rfl,by show 0<6;decide⟩
  generalize hH0:upd (upd (upd (upd H L (.lst [])) p0 (.tup [])) Dr (.lst [.ref p0])) d (.dT [])=H0 at I0;refine⟨_,rfl,_,rfl,.inl ⟨_,_,rfl,rfl,a,b,_,rfl,I0.fd.feed,by lia,by lia,fun r0 H1 r00 r01 fd1=>?_⟩⟩;have I1:=I0.go fd1 hLa hDa hda;refine⟨r0,rfl,by lia,by lia,q3h (n:=r0.toNat) (fun i σ' H'=>∃zs ds x6 x7 x8,σ'=[some (.ref a),some (.bl bl),some (.int m),some (.ref L),some (.ref Dr),some (.ref d),x6,x7,x8]/\RwInv H a b L Dr d bl i H' zs ds/\i<=r0.toNat) ⟨[],_,none,none,none,rfl,I1,Br _⟩ ?_ ?_⟩
  ·rintro i σ' H' hi ⟨zs,ds,x6,x7,x8,rfl,I2,_⟩;have hdl:=I2.dl;have hdn:0<ds.length:=Bo.mpr I2.dn;refine⟨_,rfl,_,rfl,_,rfl,_,_,rfl,.inl ⟨_,SqL.of I2.da,rfl⟩,a,b,_,rfl,I2.fd.feed,by rw[Ac];lia,by rw[Ac];lia,fun r1 H2 r10 r11 fd2=>?_⟩;have I3:=I2.go fd2 hLa hDa hda;rw[Ac] at r11;obtain⟨v,hv1,hv2⟩:=q7j (xs:=ds.map fun z=>V.ref z.1) r10 (by rw[Ac];exact r11);obtain⟨z,hz,rfl⟩:∃z∈ds,v=V.ref z.1:=by
    rw[Aq] at hv1;cases e:ds[r1.toNat]? with
    |none=>rw[e] at hv1;cases hv1
    |some z=>rw[e] at hv1;cases hv1;exact⟨z,As e,rfl⟩
   refine .inl ⟨Dr,_,r1,_,rfl,rfl,SqL.of I3.da,hv2,?_⟩;refine⟨_,rfl,a,b,rfl,I3.fd.feed,fun t H3 okt fd3=>⟨by show 1<=sizeLine;decide,fun p1 hp1=>?_⟩⟩;have I4:=(I3.go fd3 hLa hDa hda).sm ((Same.refl H3).new (o:=.tup [.str (mk t)]) hp1);obtain⟨zt,zd,zl⟩:=I4.dt z hz;refine⟨z.1,p1,_,_,rfl,rfl,zt,q0b,by rw[q1f];exact small (by show _+1<=_;lia),fun p2 H5 s5 hp2 _=>?_⟩;have I5:=I4.sm s5;have hp2':H5 p2=some (.tup (vP (z.2++[t]))):=by rw[hp2];show _=some (HO.tup ((z.2++[t]).map _));rw[An];rfl
   have okp:okP (z.2++[t]):=by
    refine⟨by simp,by rw[Ai];show _+1<=6;lia,fun n hn=>?_⟩;rcases Aw.mp hn with hn|hn
    ·rcases zd with e|e
     ·rw[e] at hn;cases hn
     ·exact(I4.hl.ok _ e).all n hn
    ·rw[Az.mp hn];exact okt
   clear hp2 I4 I3 zt;generalize hq:z.2++[t]=q at hp2' okp;have hqd:q.dropLast=[]\/(q.dropLast,none)∈zs.map (·.2):=by rw[<- hq,Ml];exact zd
   refine⟨_,rfl,a,b,_,rfl,I5.fd.feed,by decide,by decide,fun m1 H6 m10 m11 fd6=>?_⟩;have I6:=I5.go fd6 hLa hDa hda;refine⟨_,rfl,_,_,rfl,rfl,⟨by decide,by decide,by decide⟩,.inl ⟨_,_,rfl,rfl,a,b,_,rfl,I6.fd.feed,by decide,by decide,fun m2 H7 m20 m21 fd7=>⟨by show 2<=sizeLine;decide,fun M hM=>?_⟩⟩⟩;have I7:=(I6.go fd7 hLa hDa hda).sm ((Same.refl H7).new (o:=.lst [.int m1,.int m2]) hM);have fdM:=fd6.trans (fd7.new (o:=.lst [.int m1,.int m2]) hM);refine⟨_,rfl,a,b,_,rfl,I7.fd.feed,by decide,by decide,fun m3 H8 m30 m31 fd8=>?_⟩;have I8:=I7.go fd8 hLa hDa hda;have fdp:=fdM.trans fd8;have hMa:M≠a:=fun z=>by rw[z] at hM;obtain⟨_,_,e⟩:=(I6.go fd7 hLa hDa hda).fd.feed.fa;rw[hM] at e;cases e
   have hm8:H8 M=some (.lst [.int m1,.int m2]):=fd8.at q0b hMa;have hat:∃mk0:Int,atI [V.int m1,V.int m2] m3=some (.int mk0):=by
    have e:m3=0\/m3=1:=by lia
    rcases e with rfl|rfl
    ·exact⟨m1,rfl⟩
    ·exact⟨m2,rfl⟩
   obtain⟨mk0,hat⟩:=hat;refine .inl ⟨M,_,m3,_,rfl,rfl,SqL.of hm8,hat,?_⟩;have hp8:H8 p2=some (.tup (vP q)):=tupFd I5.fd.feed fdp _ _ hp2';refine⟨fun σ' H'=>∃mk0 x6,σ'=[some (.ref a),some (.bl bl),some (.int m),some (.ref L),some (.ref Dr),some (.ref d),x6,some (.ref p2),some (mV mk0)]/\RwInv H a b L Dr d bl i H' zs ds/\H' p2=some (.tup (vP q)),?_,?_⟩
   ·rintro σ' H' ⟨mk0,x6,rfl,I9,hp9⟩;refine⟨_,rfl,_,rfl,p2,q,bl,rfl,hp9,okp,fun pf H10 s10 hpf=>⟨_,rfl,d,_,rfl,DGet.t (k:=kP (fold bl q)) (I9.sm s10).hd (by rw[q3i];exact hpf),_,rfl,?_⟩⟩;have I10:=I9.sm s10;refine iteB (fun hno=>?_) (fun hno=>?_)
    ·have hnew:∀r∈zs.map (fun z=>((fold bl z.2.1,.bl true):HRow)),r.1≠fold bl q:=fun r hr e=>by
      have:=q7z hr (by rw[Ba];have:=I10.hl.nd;rw[Ba] at this;exact this);rw[e] at this;rw[this] at hno;cases hno
     refine⟨_,rfl,_,rfl,_,rfl,p2,q,bl,rfl,s10 _ _ hp9,okp,fun pg H11 s11 hpg=>?_⟩;have I11:=I10.sm s11;refine⟨d,_,rfl,DPut.t (k:=kP (fold bl q)) I11.hd (by rw[q3i];exact hpg) (by rw[Ac,Ac];have:=I11.len;exact small' (by lia)),?_⟩;rw[q5l hnew];have hL12:upd H11 d (dR (zs.map (fun z=>((fold bl z.2.1,.bl true):HRow))++[(fold bl q,.bl true)])) L=some (.lst (zs.map fun z=>V.ref z.1)):=by rw[q0e hLd.symm];exact I11.rl.at_
     refine⟨_,rfl,.inl ⟨rfl,_,SqL.of hL12⟩,_,rfl,_,rfl,by show 2<=sizeLine;decide,fun T hT=>?_⟩;have hLT:L≠T:=fun z=>by rw[<- z,hL12] at hT;cases hT
     refine⟨L,_,_,rfl,rfl,by rw[q0e hLT];exact hL12,by rw[Ac];have:=I11.len;exact small' (by lia),?_⟩;have I12:=I11.put (m:=mk0) F hL hdH hLd hLDr (s11 _ _ (s10 _ _ hp9)) okp hnew hqd hT;have hp12:upd (upd (upd H11 d (dR (zs.map (fun z=>((fold bl z.2.1,.bl true):HRow))++[(fold bl q,.bl true)]))) T (.tup [.ref p2,mV mk0])) L (.lst (zs.map (fun z=>V.ref z.1)++[.ref T])) p2=some (.tup (vP q)):=by
      obtain⟨b',e1,e2⟩:=I12.rl.pr (T,(q,mk0)) (by simp);have e3:H11 p2=some (.tup (vP q)):=s11 _ _ (s10 _ _ hp9);have hTd:T≠d:=fun z=>by rw[z,q0b] at hT;cases hT
      rw[q0e (fun z=>by rw[z,I11.rl.at_] at e3;cases e3),q0e (fun z=>by rw[q0e hTd,<- z,e3] at hT;cases hT),q0e (fun z=>by rw[z,I11.hd] at e3;cases e3)];exact e3
     refine⟨fun b H'=>b=(decide (mV mk0=.non)&&decide (q.length<6))/\H'=upd (upd (upd H11 d (dR (zs.map (fun z=>((fold bl z.2.1,.bl true):HRow))++[(fold bl q,.bl true)]))) T (.tup [.ref p2,mV mk0])) L (.lst (zs.map (fun z=>V.ref z.1)++[.ref T])),?_,?_⟩
     ·rintro bb H' ⟨rfl,rfl⟩;refine iteB (fun hb=>?_) (fun hb=>?_)
      ·rw[Co] at hb;have hmk:=mV_none.mp (of_decide_eq_true hb.1);subst hmk;refine⟨_,rfl,.inl ⟨rfl,_,SqL.of I12.da⟩,_,rfl,Dr,_,_,rfl,rfl,I12.da,by rw[Ac];exact small' (by lia),?_⟩;exact⟨_,_,_,_,_,rfl,I12.draw F hDrH hLDr (by lia) hp12 (by simp) (of_decide_eq_true hb.2),hi⟩
      ·exact⟨_,_,_,_,_,rfl,I12,hi⟩
     ·refine⟨_,rfl,_,rfl,?_⟩;refine iteB (fun hb=>?_) (fun hb=>?_)
      ·refine⟨_,rfl,_,_,rfl,.inr ⟨_,SqT.of hp12,rfl⟩,_,_,rfl,rfl,_,rfl,?_,rfl⟩;rw[hb,q1f,Nr];exact decide_eq_decide.mpr (by lia)
      ·exact⟨by rw[hb,Mt],rfl⟩
    ·exact⟨zs,ds,_,_,_,rfl,⟨I10.fd,I10.rl,I10.hl,Gw I10.len,I10.da,I10.dt,I10.dn,Gw I10.dl,I10.hd⟩,hi⟩
   ·refine⟨_,rfl,a,b,_,rfl,I8.fd.feed,by decide,by decide,fun r9 H9 r90 r91 fd9=>.inl ⟨rfl,_,rfl,?_⟩⟩;have I9:=I8.go fd9 hLa hDa hda;have hp9:H9 p2=some (.tup (vP q)):=tupFd I8.fd.feed fd9 _ _ hp8;refine ite2 (fun h=>?_) (fun h=>?_)
    ·exact⟨none,_,rfl,I9,hp9⟩
    ·exact⟨some mk0,_,rfl,I9,hp9⟩
  ·rintro σ' H' ⟨zs,ds,x6,x7,x8,rfl,I2,_⟩;exact⟨_,rfl,k L zs H' I2.fd hL I2.rl I2.hl (by have:=I2.len;lia)⟩
def lenAt(L:Addr)(H:Hp):Nat:=match H L with|some (.lst xs)=>xs.length|_=>0
theorem z4i{L:Addr}{H:Hp}{xs:List V}(h:H L=some (.lst xs)):lenAt L H=xs.length:=by unfold lenAt;rw[h]
theorem ers_map{α β:Type}(f:α->β):∀(l:List α) (k:Nat),(l.map f).eraseIdx k=(l.eraseIdx k).map f
 |[],_=>rfl
 |_::_,0=>rfl
 |a::l,k+1=>by show f a::(l.map f).eraseIdx k=f a::(l.eraseIdx k).map f;rw[ers_map f l k]
theorem z4j{α:Type}{z:α}:∀{l:List α} {k:Nat},l[k]?=some z->l.Perm (z::l.eraseIdx k)
 |[],_,h=>by cases h
 |a::l,0,h=>by cases h;exact List.Perm.refl _
 |a::l,k+1,h=>by
  show(a::l).Perm (z::a::l.eraseIdx k);exact((z4j (l:=l) (k:=k) h).cons a).trans (List.Perm.swap _ _ _)
structure MxInv (H:Hp) (a b Lf M:Addr) (zs:List Zr) (H':Hp) (zl zf:List Zr):Prop where
 fd:Fd a b H H'
 l:RL H' Lf zl
 m:RL H' M zf
 p:(zl++zf).Perm zs
theorem MxInv.go{H:Hp}{a b Lf M:Addr}{zs:List Zr}{H' H2:Hp}{zl zf:List Zr}(x:MxInv H a b Lf M zs H' zl zf)(fd:Fd a b H' H2)(hL:Lf≠a)(hM:M≠a):MxInv H a b Lf M zs H2 zl zf:=⟨x.fd.trans fd,x.l.fd x.fd.feed fd hL,x.m.fd x.fd.feed fd hM,x.p⟩
theorem MxInv.mv{H:Hp}{a b Lf M:Addr}{zs:List Zr}{H':Hp}{zl zf:List Zr}{k:Nat}{z:Zr}(x:MxInv H a b Lf M zs H' zl zf)(F:FeedAt H a b)(hL:H Lf=none)(hM:H M=none)(n:M≠Lf)(hz:zl[k]?=some z):
  MxInv H a b Lf M zs (upd (upd H' Lf (.lst ((zl.map fun z=>V.ref z.1).eraseIdx k))) M (.lst (zf.map (fun z=>V.ref z.1)++[.ref z.1]))) (zl.eraseIdx k) (zf++[z]):=by
 have tk:∀S xs,H' S=some (.tup xs)->upd (upd H' Lf (.lst ((zl.map fun z=>V.ref z.1).eraseIdx k))) M (.lst (zf.map (fun z=>V.ref z.1)++[.ref z.1])) S=some (.tup xs):=fun S xs e=>by
  rw[q0e (fun z=>by rw[z,x.m.at_] at e;cases e),q0e (fun z=>by rw[z,x.l.at_] at e;cases e)];exact e
 refine⟨(x.fd.put F hL).put F hM,⟨?_,fun y hy=>PR.same (x.l.pr y (List.mem_of_mem_eraseIdx hy)) tk⟩,⟨by rw[q0b,An];rfl,fun y hy=>?_⟩,?_⟩
 ·rw[q0e n.symm,q0b,ers_map]
 ·rcases Aw.mp hy with hy|hy
  ·exact PR.same (x.m.pr y hy) tk
  ·rw[Az.mp hy];exact PR.same (x.l.pr z (As hz)) tk
 ·refine List.Perm.trans ?_ x.p;have e:zl.Perm (z::zl.eraseIdx k):=z4j hz;have e2:(zl.eraseIdx k++(zf++[z])).Perm (z::(zl.eraseIdx k++zf)):=by
   rw[<- Cg];exact List.perm_append_singleton _ _
  exact e2.trans (List.Perm.append_right zf e.symm)
def spMixed:Sp:=fun vs H Q _=>∃a b L zs,vs=[.ref a,.ref L]/\FeedAt H a b/\RL H L zs/\zs.length<=60/\(∀r∈zs.map (·.2),Low r.1)/\∀M zs' H',Fd a b H H'->H M=none->RL H' M zs'->zs'.Perm zs->Q (.ref M) H'
abbrev q9x:Stmt:=top 58
theorem sc_mixed:FnScope ["_law_feed", "_law_rows_here", "_law_left", "_law_found"] ["_law_feed", "_law_rows_here"] (defScope q9x):=by trivial
theorem x1k(D:Df K mg "_law_mixed" q9x ["_law_feed", "_law_rows_here"])(T:Txt mg)(C:Calls P w K mg base):Cal P w K mg base "_law_mixed" 2 ["_law_feed", "_law_rows_here"] spMixed:=by
 refine D.cal sc_mixed (fun vs H Q E h=>?_) (fun f cdv A outer s H vs Q E hr h=>?_)
 ·obtain⟨a,b,L,zs,rfl,_⟩:=h;rfl
 ·obtain⟨a,b,L,zs,rfl,F,hl,h60,hlow,k⟩:=h;refine⟨_,(q0d (q0m (i:=2) sc_mixed.nd rfl (by trivial) (q2r (z7b K rfl) (by rfl) T.b_list (by decide +kernel) (q0a (pv 1) q0c))) (q0d (q0m (i:=3) sc_mixed.nd rfl (by trivial) (q2l q0c)) (q0d (z9y Cr (q0o (ne_k K rfl hr) (pv 2) (q2l q0c) (nomark _)) (q0f (q1c (@bm_k _ _ _ _ _ _ _ _ _ _ _ _ K rfl Ci Cs Ct q1q (pv 3) (q0a (@bm_k _ _ _ _ _ _ _ _ _ _ _ _ K rfl Ci PySem.F.slot_list_pop PySem.F.type_list_pop x0k (pv 2) (q0a (pe_c C.draw hr (q0a (pv 0) (q0a (q0h (q1k K rfl) (by rfl) T.b_len Ax (q0a (pv 2) q0c)) q0c))) q0c) (by rfl) (by rfl) (by rfl) (by rfl) (by rfl)) q0c) (by rfl) (by rfl) (by rfl) (by rfl) (by rfl))))) (q0f (q0j (pv 3)))))),?_⟩;refine⟨_,rfl,L,_,rfl,.inl (SqL.of hl.at_),fun Lf hLf=>⟨by show 0<=sizeLine;decide,fun M hM=>?_⟩⟩;have s1:=(Same.refl H).new (o:=.lst (zs.map fun z=>V.ref z.1)) hLf;have s2:=s1.new (o:=.lst []) hM;have hML:M≠Lf:=fun z=>by rw[z,q0b] at hM;cases hM
  have hMH:H M=none:=s1.free hM;have hLa:Lf≠a:=(F.na hLf).symm;have hMa:M≠a:=(F.na hMH).symm;have I0:MxInv H a b Lf M zs (upd (upd H Lf (.lst (zs.map fun z=>V.ref z.1))) M (.lst [])) zs [] :=
   ⟨(Fd.refl F).same s2,⟨by rw[q0e hML.symm];exact q0b,(hl.same s2).pr⟩,⟨q0b,(fun _ h=>nomatch h)⟩,by rw[Bt]⟩
  refine x0b (fun σ3 H3=>∃zl zf,σ3=[some (.ref a),some (.ref L),some (.ref Lf),some (.ref M)]/\MxInv H a b Lf M zs H3 zl zf) (fun _ H3=>lenAt Lf H3) ⟨zs,[],rfl,I0⟩ ?_ ?_
  ·rintro σ3 H3 ⟨zl,zf,rfl,I⟩;have hlen:zl.length+zf.length=zs.length:=by rw[<- Ai];exact I.p.length_eq
   have hlw:∀r∈zl.map (·.2),Low r.1:=fun r hr=>by
    obtain⟨z,hz,rfl⟩:=Al.mp hr;exact hlow _ (Al.mpr ⟨z,I.p.mem_iff.mp (Dc _ hz),rfl⟩)
   refine⟨_,rfl,by show 0<=sizeLine;decide,fun E hE=>?_⟩;have sE:=(Same.refl H3).new (o:=.lst []) hE;have I1:MxInv H a b Lf M zs (upd H3 E (.lst [])) zl zf:=⟨I.fd.same sE,I.l.same sE,I.m.same sE,I.p⟩
   refine ne_no I1.l q0b hlw ⟨_,rfl,ite2 (fun h=>?_) (fun h=>?_)⟩
   ·have hne:zl≠[]:=by simpa using h
    have hpos:=Bo.mpr hne;refine⟨_,rfl,.inl ⟨rfl,_,SqL.of I1.m.at_⟩,_,rfl,.inl ⟨rfl,_,SqL.of I1.l.at_⟩,_,rfl,_,rfl,_,_,rfl,.inl ⟨_,SqL.of I1.l.at_,rfl⟩,a,b,_,rfl,I1.fd.feed,by rw[Ac];lia,by rw[Ac];lia,fun r H4 r0 r1 fd4=>?_⟩;rw[Ac] at r1;have I2:=I1.go fd4 hLa hMa;obtain⟨v,hv1,hv2⟩:=q7j (xs:=zl) r0 r1;obtain⟨j,hj1,hj2,hj3,_,_⟩:=q9f hv2;refine⟨Lf,_,r,j,.ref v.1,rfl,rfl,I2.l.at_,by lia,by lia,by rw[Ac];exact hj1,by rw[Aq,hj2];rfl,?_⟩;refine⟨M,_,_,rfl,rfl,by rw[q0e hML];exact I2.m.at_,by rw[Ac];exact small' (by lia),?_⟩;have I3:=I2.mv F hLf hMH hML hj2;refine⟨⟨_,_,rfl,I3⟩,?_⟩;rw[z4i I3.l.at_,z4i I.l.at_,Ac,Ac,List.length_eraseIdx,if_pos hj3];lia
   ·have hz:zl=[]:=by simpa using h
    subst hz;exact⟨_,rfl,k M zf _ I1.fd hMH I1.m I1.p⟩
  ·intro σ3 H3 Q1 Q2 hq h;obtain⟨v,e,z,h⟩:=h;refine⟨v,e,z,fun E hE=>?_⟩;rcases h E hE with h|h
   ·obtain⟨h1,b1,h2,h3⟩:=h;exact .inl ⟨h1,b1,h2,hq _ _ h3⟩
   ·obtain⟨d,e,h1,h2,h3,h4,h5,b1,h6,h7⟩:=h;exact .inr ⟨d,e,h1,h2,h3,h4,h5,b1,h6,hq _ _ h7⟩
structure Hk (K:Ah) (c:Addr):Prop where
 cl:Cls K c
 b:NoAttr K c "blind"
 m:NoAttr K c "marks"
abbrev hF(bl:Bool)(d:Addr):List (Str×V):=[("blind",.bl bl),("marks",.ref d)]
structure HallAt (c:Addr) (H:Hp) (h d:Addr) (bl:Bool) (rows:List Rw):Prop where
 i:∃dx,H h=some (.ins c dx (hF bl d))
 d:H d=some (dR (rows.map rR))
theorem HallAt.same{c:Addr}{H H':Hp}{h d:Addr}{bl:Bool}{rows:List Rw}(x:HallAt c H h d bl rows)(s:Same H H'):HallAt c H' h d bl rows:=⟨x.i.imp fun dx e=>s _ _ e,s _ _ x.d⟩
def spAlike:Sp:=fun vs H Q _=>∃x y,vs=[.str x,.str y]/\(∀c∈tl x,c<128)/\(∀c∈tl y,c<128)/\x.length<=1000/\y.length<=1000/\Q (.bl (decide ((tl x).map Lm=(tl y).map Lm))) H
abbrev q9y:Stmt:=top 32
theorem x1l:FnScope ["one", "other"] ["one", "other"] (defScope q9y):=by trivial
theorem x1m(D:Df K mg "alike" q9y ["one", "other"])(T:Txt mg):Cal P w K mg base "alike" 1 ["one", "other"] spAlike:=by
 refine D.cal x1l (fun vs H Q E h=>?_) (fun f cdv A outer s H vs Q E hr h=>?_)
 ·obtain⟨x,y,rfl,_⟩:=h;rfl
 ·obtain⟨x,y,rfl,ax,ay,lx,ly,k⟩:=h;refine⟨_,(q0f (q0j (q2m (eq_k K rfl hr) (@z2l _ _ _ _ _ _ _ _ _ K rfl By Ih Ii q6n (pv 0) (by rfl) (by rfl)) (@z2l _ _ _ _ _ _ _ _ _ K rfl By Ih Ii q6n (pv 1) (by rfl) (by rfl)) (nomark _)))),?_⟩;refine⟨_,rfl,rfl,_,rfl,rfl,small (by lia),⟨_,rfl,rfl,_,rfl,rfl,small (by lia),.inl ⟨rfl,?_⟩⟩⟩;have e:decide ((V.str (Ie x))=V.str (Ie y))=decide ((tl x).map Lm=(tl y).map Lm):=by
   rw[<- TX.lower ax,<- TX.lower ay];by_cases h:Ie x=Ie y
   ·rw[h];simp
   ·rw[decide_eq_false (fun z=>h (V.str.inj z)),decide_eq_false (fun z=>h (TX.ext z))]
  rw[e];exact k
structure CallsH (P:Program) (w:World) (K:Ah) (mg:Str->Option Value) (base:Heap):Prop where
 alike:Cal P w K mg base "alike" 1 ["one", "other"] spAlike
theorem q2g{p:Pth}(h:Low p):Low p.dropLast:=fun n hn=>h n (Qu _ hn)
def spOneP(c:Addr):Sp:=fun vs H Q _=>∃h p q bl dx fs one other,vs=[.ref h,.ref p,.ref q]/\H h=some (.ins c dx fs)/\fs.lookup ("blind" : Str)=some (V.bl bl)/\H p=some (.tup (vP one))/\H q=some (.tup (vP other))/\okP one/\okP other /\
 ∀H',Same H H'->Q (.bl (decide (fold bl one=fold bl other))) H'
abbrev q1o:Stmt:=inClass (top 37) 3
theorem q4j:FnScope ["self", "one", "other"] ["self", "one", "other"] (defScope q1o):=by trivial
theorem z1r{c:Addr}(D:Mf K c "is_one_place" "Hall.is_one_place" q1o ["self", "one", "other"])(hk:Hk K c)(T:Txt mg)(C:CallsH P w K mg base):MCal P w K mg base c "is_one_place" 2 ["self", "one", "other"] (spOneP c):=by
 refine D.cal hk.cl q4j (fun vs H Q E h=>?_) (fun f cdv A outer s H vs Q E hr h=>?_)
 ·obtain⟨h,p,q,bl,dx,fs,one,other,rfl,_⟩:=h;rfl
 ·obtain⟨h,p,q,bl,dx,fs,one,other,rfl,hh,hb,hp,hq,ok1,ok2,k⟩:=h;refine⟨_,(q0d (q0v (q0o (ne_k K rfl hr) (q0s (sl_k K rfl) (pv 1) q0x (q0u (q2c q1e q0g))) (q0s (sl_k K rfl) (pv 2) q0x (q0u (q2c q1e q0g))) (nomark _)) (q0f (q0j q3d)) q0k) (q0d (q0v (@q2k _ _ _ K rfl (@q2s _ _ _ _ _ K rfl (pv 0) (by rfl)) (fun _=>rfl)) (q0f (q0j (pe_c C.alike hr (q0a (q1a (ix_k K rfl) (pv 1) (q2c q1e q0g) (fun _ _=>rfl)) (q0a (q1a (ix_k K rfl) (pv 2) (q2c q1e q0g) (fun _ _=>rfl)) q0c))))) q0k) (q0f (q0j (q2m (eq_k K rfl hr) (q1a (ix_k K rfl) (pv 1) (q2c q1e q0g) (fun _ _=>rfl)) (q1a (ix_k K rfl) (pv 2) (q2c q1e q0g) (fun _ _=>rfl)) (nomark _)))))),?_⟩;obtain⟨c1,c2⟩:=q2f ok1.ne;obtain⟨d1,d2⟩:=q2f ok2.ne;refine⟨_,rfl,_,rfl,_,rfl,.inr (.inr ⟨p,_,rfl,SqT.of hp,c2,fun p1 hp1=>?_⟩)⟩;rw[c1];have s1:=(Same.refl H).new (o:=.tup (vP one.dropLast)) hp1;refine⟨_,rfl,_,rfl,_,rfl,.inr (.inr ⟨q,_,rfl,SqT.of (s1 _ _ hq),d2,fun p2 hp2=>?_⟩)⟩;rw[d1];have s2:=s1.new (o:=.tup (vP other.dropLast)) hp2;have hp1':upd (upd H p1 (.tup (vP one.dropLast))) p2 (.tup (vP other.dropLast)) p1=some (.tup (vP one.dropLast)):=by
   rw[q0e (fun z=>by rw[<- z,q0b] at hp2;cases hp2)];exact q0b
  generalize hH2:upd (upd H p1 (.tup (vP one.dropLast))) p2 (.tup (vP other.dropLast))=H2 at s2 hp1';have hp2':H2 p2=some (.tup (vP other.dropLast)):=by rw[<- hH2];exact q0b
  have fe:=z7v (bl:=bl) ok1.ne ok2.ne;refine q2w hp1' hp2' (q2g ok1.low) (q2g ok2.low) ⟨_,rfl,ite2 (fun hne=>?_) (fun hne=>?_)⟩
  ·have hne':one.dropLast≠other.dropLast:=by simpa using hne
   have e:decide (fold bl one=fold bl other)=false:=decide_eq_false fun z=>hne' (fe.mp z).1;refine(?_:Q _ _);rw[<- e];exact k _ s2
  ·have heq:one.dropLast=other.dropLast:=by simpa using hne
   refine⟨_,rfl,h,c,dx,fs,_,rfl,s2 _ _ hh,hk.cl,hk.b,hb,_,rfl,?_⟩;have l1:=q5t ok1;have l2:=q5t ok2;cases bl with
   |true =>
    refine iteT ⟨_,rfl,_,rfl,.inr (.inl ⟨p,_,-1,_,rfl,rfl,SqT.of (s2 _ _ hp),q4v ok1.ne,?_⟩)⟩;refine⟨_,rfl,_,rfl,.inr (.inl ⟨q,_,-1,_,rfl,rfl,SqT.of (s2 _ _ hq),q4v ok2.ne,?_⟩)⟩;refine⟨_,_,rfl,by rw[q1h];exact l1.low,by rw[q1h];exact l2.low,by rw[q0r];have:=l1.few;lia,by rw[q0r];have:=l2.few;lia,?_⟩;rw[q1h,q1h];have e:decide (fold true one=fold true other)=decide (lowN (one.getLastD [])=lowN (other.getLastD [])):=by
     refine decide_eq_decide.mpr (fe.trans ⟨fun z=>by simpa using z.2,fun z=>⟨heq,by simpa using z⟩⟩)
    have:=k _ s2;rw[e] at this;exact this
   |false =>
    refine iteF ⟨_,rfl,_,rfl,.inr (.inl ⟨p,_,-1,_,rfl,rfl,SqT.of (s2 _ _ hp),q4v ok1.ne,?_⟩)⟩;refine⟨_,rfl,_,rfl,.inr (.inl ⟨q,_,-1,_,rfl,rfl,SqT.of (s2 _ _ hq),q4v ok2.ne,?_⟩)⟩;refine .inl ⟨rfl,?_⟩;have e:decide (fold false one=fold false other)=decide (V.str (mk (one.getLastD []))=V.str (mk (other.getLastD []))):=by
     refine decide_eq_decide.mpr (fe.trans ⟨fun z=>?_,fun z=>⟨heq,?_⟩⟩)
     ·have:=z.2;simp only[Bw,if_false] at this;rw[this]
     ·simp only[Bw,if_false];exact SB.mk_inj (V.str.inj z)
    have:=k _ s2;rw[e] at this;exact this
def spThere(c:Addr):Sp:=fun vs H Q _=>∃h d p bl rows place,vs=[.ref h,.ref p]/\HallAt c H h d bl rows/\H p=some (.tup (vP place))/\okP place/\(∀r∈rows,okP r.1) /\
 (∀H',Same H H'->(∀r∈rows,fold bl r.1≠fold bl place)->Q .non H')/\∀H' b r,Same H H'->r∈rows->fold bl r.1=fold bl place->H' b=some (.tup (vP r.1))->Q (.ref b) H'
structure CallsI (P:Program) (w:World) (K:Ah) (mg:Str->Option Value) (base:Heap) (c:Addr):Prop where
 m_is_one_place:MCal P w K mg base c "is_one_place" 2 ["self", "one", "other"] (spOneP c)
theorem q2t{H H':Hp}{d:Addr}{o:HO}(hd:H d=some o)(k:∀a u,a≠d->H a=some u->H' a=some u):Same H (upd H' d o):=fun a u e=>by
 by_cases z:a=d
 ·subst z;rw[q0b,<- hd];exact e
 ·rw[q0e z];exact k a u z e
abbrev q2x:Stmt:=inClass (top 37) 4
theorem sc_Hall_there:FnScope ["self", "place", "path"] ["self", "place"] (defScope q2x):=by trivial
theorem x1n{c:Addr}(D:Mf K c "there" "Hall.there" q2x ["self", "place"])(hk:Hk K c)(T:Txt mg)(C:CallsI P w K mg base c):MCal P w K mg base c "there" 3 ["self", "place"] (spThere c):=by
 refine D.cal hk.cl sc_Hall_there (fun vs H Q E h=>?_) (fun f cdv A outer s H vs Q E hr h=>?_)
 ·obtain⟨h,d,p,bl,rows,place,rfl,_⟩:=h;rfl
 ·obtain⟨h,d,p,bl,rows,place,rfl,hh,hp,ok,oks,k1,k2⟩:=h;refine⟨_,(q0d (z2q H rfl (q3b Cr rfl (@z3u _ _ _ _ K rfl (@q2s _ _ _ _ _ K rfl (pv 0) (by rfl))) (q0i (i:=2) sc_Hall_there.nd rfl (by trivial)) (q0f (q0v (@q2k _ _ _ K rfl (pe_m C.m_is_one_place hr (pv 0) (q0a (pv 2) (q0a (pv 1) q0c))) (fun _=>rfl)) (q0f (q0j (pv 2))) q0k)))) (q0f (q0j q3e))),?_⟩;obtain⟨dx,hi⟩:=hh.i;have hd:=hh.d;have hhd:h≠d:=fun z=>by rw[z,hd] at hi;cases hi
  have hpd:p≠d:=fun z=>by rw[z,hd] at hp;cases hp
  refine⟨d,(fun o v e=>by rw[hd] at e;cases e),?_⟩;refine⟨_,rfl,h,c,dx,_,_,rfl,hi,hk.cl,hk.m,rfl,d,_,rfl,hd,fun ob=>?_⟩;refine q7m (fun i σ' H'=>(∃x,σ'=[some (.ref h),some (.ref p),x])/\H' d=some (.frz ob (dR (rows.map rR)))/\(∀a u,a≠d->H a=some u->H' a=some u)/\∀r∈rows.take i,fold bl r.1≠fold bl place)
   ⟨⟨none,rfl⟩,q0b,fun a u n e=>by rw[q0e n];exact e,fun r hr=>by rw[Ga] at hr;cases hr⟩ (fun i σ' H' x=>x.2.1) ?_ ?_
  ·rintro i ky v b σ' H' hk' hb ⟨⟨x,rfl⟩,hfz,kp,hno⟩;obtain⟨r,hr,rfl,rfl⟩:∃r,rows[i]?=some r/\ky=kP r.1/\v=mV r.2:=by
    rw[Aq,Aq] at hk';cases e:rows[i]? with
    |none=>rw[e] at hk';cases hk'
    |some r=>rw[e] at hk';cases hk';exact⟨r,rfl,rfl,rfl⟩
   have hrm:=As hr;rw[q3i] at hb;refine⟨_,rfl,h,dx,_,rfl,kp _ _ hhd hi,rfl,_,rfl,_,rfl,h,b,p,bl,dx,_,r.1,place,rfl,kp _ _ hhd hi,rfl,hb,kp _ _ hpd hp,oks r hrm,ok,fun H2 s2=>⟨_,rfl,?_⟩⟩;have kp2:∀a u,a≠d->H a=some u->H2 a=some u:=fun a u n e=>s2 _ _ (kp a u n e);refine iteB (fun he=>?_) (fun he=>?_)
   ·refine⟨_,rfl,ob,_,s2 _ _ hfz,k2 _ b r (q2t hd kp2) hrm (of_decide_eq_true he) ?_⟩;rw[q0e (fun z=>by rw[z,hfz] at hb;cases hb)];exact s2 _ _ hb
   ·refine⟨⟨_,rfl⟩,s2 _ _ hfz,kp2,fun y hy=>?_⟩;rw[Bs,hr] at hy;rcases Aw.mp hy with hy|hy
    ·exact hno y hy
    ·cases Az.mp hy;exact of_decide_eq_false he
  ·rintro σ' H' ⟨⟨x,rfl⟩,hfz,kp,hno⟩;refine⟨ob,_,hfz,k1 _ (q2t hd kp) fun r hr=>hno r ?_⟩;rw[Ac,Ac,Bi];exact hr
def spBlind(c:Addr):Sp:=fun vs H Q _=>∃h d bl rows,vs=[.ref h]/\HallAt c H h d bl rows/\Q (.bl bl) H
abbrev q2e:Stmt:=inClass (top 37) 2
theorem q6l:FnScope ["self"] ["self"] (defScope q2e):=by trivial
theorem x1o{c:Addr}(D:Mf K c "is_blind" "Hall.is_blind" q2e ["self"])(hk:Hk K c)(T:Txt mg):MCal P w K mg base c "is_blind" 1 ["self"] (spBlind c):=by
 refine D.cal hk.cl q6l (fun vs H Q E h=>?_) (fun f cdv A outer s H vs Q E hr h=>?_)
 ·obtain⟨h,d,bl,rows,rfl,_⟩:=h;rfl
 ·obtain⟨h,d,bl,rows,rfl,hh,k⟩:=h;refine⟨_,(q0f (q0j (@q2s _ _ _ _ _ K rfl (pv 0) (by rfl)))),?_⟩;obtain⟨dx,hi⟩:=hh.i;exact⟨_,rfl,h,c,dx,_,_,rfl,hi,hk.cl,hk.b,rfl,k⟩
def spHRows(c:Addr):Sp:=fun vs H Q _=>∃h d bl rows,vs=[.ref h]/\HallAt c H h d bl rows/\rows.length<64/\(∀r∈rows,Low r.1) /\
 ∀L zs H',H L=none->Same H H'->RL H' L zs->(zs.map (·.2)).Perm rows->(zs.map (·.2.1)).Pairwise (fun a b=>pLt b a=false)->Q (.ref L) H'
abbrev q3m:Stmt:=inClass (top 37) 1
theorem z1s:FnScope ["self"] ["self"] (defScope q3m):=by trivial
theorem x1p{c:Addr}(D:Mf K c "rows" "Hall.rows" q3m ["self"])(hk:Hk K c)(T:Txt mg):MCal P w K mg base c "rows" 2 ["self"] (spHRows c):=by
 refine D.cal hk.cl z1s (fun vs H Q E h=>?_) (fun f cdv A outer s H vs Q E hr h=>?_)
 ·obtain⟨h,d,bl,rows,rfl,_⟩:=h;rfl
 ·obtain⟨h,d,bl,rows,rfl,hh,h64,hlow,k⟩:=h;refine⟨_,(q0f (q0j (q0h (z5k hr) (by rfl) T.b_sorted (by decide +kernel) (q0a (@z2l _ _ _ _ _ _ _ _ _ K rfl Ks Oz Pa z3v (@q2s _ _ _ _ _ K rfl (pv 0) (by rfl)) (by rfl) (by rfl)) q0c)))),?_⟩;obtain⟨dx,hi⟩:=hh.i;refine⟨_,rfl,h,c,dx,_,_,rfl,hi,hk.cl,hk.m,rfl,.inr (.inr (.inl ⟨rfl,.inr ⟨_,hh.d⟩⟩)),d,_,rfl,rfl,hh.d,fun v hv=>?_⟩;have s1:=(Same.refl H).new (o:=vwO v d) hv;refine⟨v,d,rows.map rR,rfl,q0b,s1 _ _ hh.d,by rw[Ac];exact h64,fun r hr=>?_,fun L as rs H' hL hp hs sm hLL prs=>?_⟩
  ·obtain⟨x,hx,rfl⟩:=Al.mp hr;exact hlow x hx
  ·obtain⟨rows',p',rfl⟩:=perm_map_inv hp rfl;obtain⟨zs,z1,z2,z3⟩:=zs_of prs rfl;refine k L zs H' (s1.free hL) (s1.trans sm) ⟨?_,z3⟩ (by rw[z2];exact p') ?_
   ·rw[hLL,<- z1,Ba];rfl
   ·have e:zs.map (·.2.1)=(rows'.map rR).map (·.1):=by rw[<- z2,Ba,Ba];rfl
    rw[e];exact hs
theorem z4k{α:Type}:∀{l:List α} {i:Nat} {r:α},l[i]?=some r->l=l.take i++r::l.drop (i+1)
 |[],_,_,h=>by cases h
 |a::l,0,_,h=>by cases h;rfl
 |a::l,i+1,r,h=>by show a::l=a::(l.take i++r::l.drop (i+1));rw[<- z4k (l:=l) (i:=i) h]
theorem q9z{α β:Type}{f:α->β}{l:List α}{i:Nat}{r r':α}(nd:(l.map f).Nodup)(hr:l[i]?=some r)(hr':r'∈l.take i):f r'≠f r:=by
 rw[z4k hr,An,Ap] at nd;exact fun z=>(Ny.mp nd).2.2 _ (Al.mpr ⟨r',hr',rfl⟩) _ Ao z
structure InInv (c:Addr) (H:Hp) (x dx d Dr:Addr) (bl:Bool) (rows:List Rw) (ys:List (List Key×V)) (i:Nat) (H':Hp):Prop where
 ins:H' x=some (.ins c dx (hF bl d))
 d:H' d=some (dR ((rows.take i).map rR))
 r:H' Dr=some (.dT ys)
 k:∀a u,a≠x->H a=some u->H' a=some u
theorem InInv.same{c:Addr}{H H' H2:Hp}{x dx d Dr:Addr}{bl:Bool}{rows:List Rw}{ys:List (List Key×V)}{i:Nat}(v:InInv c H x dx d Dr bl rows ys i H')(s:Same H' H2):InInv c H x dx d Dr bl rows ys i H2:=⟨s _ _ v.ins,s _ _ v.d,s _ _ v.r,fun a u n e=>s _ _ (v.k a u n e)⟩
def spInit(c:Addr):Sp:=fun vs H Q _=>∃x dx L bl zs,vs=[.ref x,.ref L,.bl bl]/\H x=some (.ins c dx [])/\RL H L zs/\Hl bl (zs.map (·.2))/\zs.length<=60 /\
 ∀d H',H d=none->H' x=some (.ins c dx (hF bl d))->H' d=some (dR ((zs.map (·.2)).map rR))->(∀a u,a≠x->H a=some u->H' a=some u)->Q .non H'
structure CallsK (P:Program) (w:World) (K:Ah) (mg:Str->Option Value) (base:Heap) (c:Addr):Prop where
 m_there:MCal P w K mg base c "there" 3 ["self", "place"] (spThere c)
abbrev q1d:Stmt:=inClass (top 37) 0
theorem sc_Hall___init__:FnScope ["self", "rows", "blind", "drawers", "at", "path", "mark", "drawer"] ["self", "rows", "blind"] (defScope q1d):=by trivial
theorem x4k{c:Addr}(D:Kf K mg c "Hall" "Hall.__init__" q1d ["self", "rows", "blind"])(hk:Hk K c)(T:Txt mg)(C:CallsK P w K mg base c):KCal P w K mg base c "Hall" 4 ["self", "rows", "blind"] (spInit c):=by
 refine D.cal sc_Hall___init__ (fun vs H Q E h=>?_) (fun f cdv A outer s H vs Q E hr h=>?_)
 ·obtain⟨x,dx,L,bl,zs,rfl,_⟩:=h;rfl
 ·obtain⟨x,dx,L,bl,zs,rfl,hx,hl,hH,h60,k⟩:=h;refine⟨_,(q0d (@q6h _ _ _ _ _ _ _ _ K rfl (pv 0) (pv 2) (by rfl)) (q0d (@q6h _ _ _ _ _ _ _ _ K rfl (pv 0) q9p (by rfl)) (q0d (x1d (i:=3) ["path", "mark"] [] sc_Hall___init__.nd rfl (by trivial) rfl (@q6j _ _ _ _ K rfl (pv 1)) (fun _ _ _ _ _=>(@q1w _ _ _ _ (2) _ K rfl rfl (q0l (q0i (i:=0) (show(["path", "mark"]:List Str).Nodup by decide +kernel) rfl (by trivial)) (q0l (q0i (i:=1) (show(["path", "mark"]:List Str).Nodup by decide +kernel) rfl (by trivial)) q1j)) (by rfl) (by rfl))) (fun _ _ _ _ _=>(z2j (q2b (q4k (pv 1))))) (fun _ _ _ _ _=>(pv 0)) (fun _ _ _ _ _=>q3d) (q2v hr)) (q0f (q3b Cr rfl (@x2k _ _ _ _ _ _ _ _ K rfl rfl T.b_enumerate (q0a (pv 1) q0c) (by rfl)) (@q1w _ _ _ _ (2) _ K rfl rfl (q0l (q0i (i:=4) sc_Hall___init__.nd rfl (by trivial)) (q0l (@q1w _ _ _ _ (2) _ K rfl rfl (q0l (q0i (i:=5) sc_Hall___init__.nd rfl (by trivial)) (q0l (q0i (i:=6) sc_Hall___init__.nd rfl (by trivial)) q1j)) (by rfl) (by rfl)) q1j)) (by rfl) (by rfl)) (q0d (q0m (i:=7) sc_Hall___init__.nd rfl (by trivial) (q0s (sl_k K rfl) (pv 5) q0x (q0u (q2c q1e q0g)))) (q0d (q0v (pt_j (@PW.pt _ _ _ (q5a (q0o (ne_k K rfl hr) (pv 7) (q0z q0c) (nomark _)) (q2u (q2b (q5f (q2v hr) (pv 7) (pv 3))))))) (q0f q2a) q0k) (q0d (q0v (q2b (q9d (pe_m C.m_there hr (pv 0) (q0a (pv 5) q0c)))) (q0f q2a) q0k) (q0f (q9n (q2v hr) (@q2s _ _ _ _ _ K rfl (pv 0) (by rfl)) (pv 5) (pv 6) rfl)))))))))),?_⟩;have hLx:L≠x:=fun z=>by have e:=hl.at_;rw[z,hx] at e;cases e
  refine⟨_,rfl,_,rfl,x,c,dx,_,rfl,hx,hk.cl,hk.b,by decide,?_⟩;intro d hd;have hdx:d≠x:=fun z=>by rw[z,q0b] at hd;cases hd
  have hdH:H d=none:=by rw[q0e hdx] at hd;exact hd
  refine⟨_,rfl,x,c,dx,_,rfl,by rw[q0e hdx.symm];exact q0b,hk.cl,hk.m,by show 1<1000;decide,?_⟩;have pf:putF ("marks" : Str) (V.ref d) (putF ("blind" : Str) (V.bl bl) [])=hF bl d:=rfl;generalize hH3:upd (upd (upd H x (.ins c dx (putF ("blind" : Str) (.bl bl) []))) d (.dT [])) x (.ins c dx (putF ("marks" : Str) (.ref d) (putF ("blind" : Str) (.bl bl) [])))=H3;have k3:∀a u,a≠x->H a=some u->H3 a=some u:=fun a u n e=>by
   rw[<- hH3,q0e n,q0e (fun z=>by rw[z,hdH] at e;cases e),q0e n];exact e
  have i3:H3 x=some (.ins c dx (hF bl d)):=by rw[<- hH3,<- pf];exact q0b
  have d3:H3 d=some (.dT []):=by rw[<- hH3,q0e hdx];exact q0b
  have hl3:∀{H':Hp},(∀a u,a≠x->H a=some u->H' a=some u)->RL H' L zs:=fun{H'} kk=>⟨kk _ _ hLx hl.at_,fun z hz=>PR.same (hl.pr z hz) fun T' xs e=>kk _ _ (fun y=>by rw[y,hx] at e;cases e) e⟩
  refine⟨_,rfl,.inl ⟨L,rfl,⟨_,SqL.of (hl3 k3).at_⟩,fun Dr hDr=>?_⟩⟩;refine z5l (fun i ys H'=>H' Dr=some (.dT ys)/\Same H3 H'/\ys.length<=i/\i<=zs.length/\∀p,(p,none)∈(zs.take i).map (·.2)->(valV ys (kP p)).isSome=true) ⟨q0b,(Same.refl H3).new hDr,Aj _,Br _,fun p hp=>by rw[Ga] at hp;cases hp⟩ (fun i ys H' h=>⟨h.1,SqL.of (h.2.1 _ _ (hl3 k3).at_)⟩) ?_ ?_
  ·rintro i ys H' v hv ⟨hD',s',hlen,_,hsome⟩;obtain⟨z,hz,rfl⟩:=gR0 hv
   have hi:i<zs.length:=(Bb.mp hz).1;obtain⟨b,h1,h2⟩:=((hl3 k3).same s').pr z (As hz);refine⟨z.1,_,rfl,SqT.of h1,rfl,_,_,rfl,_,_,rfl,rfl,q1x,?_⟩;refine⟨_,rfl,_,rfl,?_⟩;refine iteB (fun hm=>?_) (fun hm=>?_)
   ·refine⟨_,rfl,kP z.2.1,b,rfl,by rw[q3i];exact h2,hD',small' (by lia),q0b,fun a u e=>?_,?_,hi,fun p hp=>?_⟩
    ·rw[q0e (fun y=>by rw[y] at e;rw[hDr] at e;cases e)];exact s' _ _ e
    ·have:=q2i ys (kP z.2.1) (.bl true);lia
    ·rw[x0r];by_cases e:kP p=kP z.2.1
     ·rw[if_pos e];rfl
     ·rw[if_neg e];rw[Bs,hz,An] at hp;rcases Aw.mp hp with hp|hp
      ·exact hsome p hp
      ·exfalso;have e2:(p,none)=z.2:=Az.mp hp;exact e (by rw[<- e2])
   ·refine⟨hD',s',by lia,hi,fun p hp=>?_⟩;rw[Bs,hz,An] at hp;rcases Aw.mp hp with hp|hp
    ·exact hsome p hp
    ·exfalso;have e:(p,none)=z.2:=Az.mp hp;refine of_decide_eq_false hm ?_;show mV z.2.2=_;rw[<- e];rfl
  ·rintro ys H' ⟨hD',s',hlen,_,hsome⟩;rw[Ac,Bi] at hsome;have I0:InInv c H x dx d Dr bl (zs.map (·.2)) ys 0 H':=⟨s' _ _ i3,s' _ _ d3,hD',fun a u n e=>s' _ _ (k3 a u n e)⟩
   have hDx:Dr≠x:=fun z=>by rw[z,i3] at hDr;cases hDr
   have hDd:Dr≠d:=fun z=>by rw[z,d3] at hDr;cases hDr
   refine⟨_,rfl,.inr ⟨L,_,rfl,SqL.of (hl3 I0.k).at_,?_⟩⟩;refine z1l (fun i σ' H2=>∃x4 x5 x6 x7,σ'=[some (.ref x),some (.ref L),some (.bl bl),some (.ref Dr),x4,x5,x6,x7]/\InInv c H x dx d Dr bl (zs.map (·.2)) ys i H2) ⟨none,none,none,none,rfl,I0⟩ (fun i σ' H2 h=>by obtain⟨_,_,_,_,_,h⟩:=h;exact SqL.of (hl3 h.k).at_) ?_ ?_
   ·rintro i v T' σ' H2 hv ⟨x4,x5,x6,x7,rfl,I⟩ hT;obtain⟨z,hz,rfl⟩:=gR0 hv
    have hi:i<zs.length:=(Bb.mp hz).1;have hzr:(zs.map (·.2))[i]?=some z.2:=by rw[Aq,hz];rfl
    have hzm:=As hzr;have okz:=hH.ok _ hzm;have sT:=(Same.refl H2).new (o:=.tup [.int i,.ref z.1]) hT;have I1:=I.same sT;obtain⟨b,h1,h2⟩:=(hl3 I1.k).pr z (As hz);refine⟨T',_,rfl,SqT.of q0b,rfl,_,_,rfl,_,_,rfl,z.1,_,rfl,SqT.of h1,rfl,_,_,rfl,_,_,rfl,rfl,rfl,?_⟩;generalize upd H2 T' (.tup [.int i,.ref z.1])=H4 at sT I1 h1 h2;replace h1:H4 z.1=some (.tup [.ref b,mV z.2.2]):=h1;replace h2:H4 b=some (.tup (vP z.2.1)):=h2;obtain⟨c1,c2⟩:=q2f okz.ne;refine⟨_,rfl,_,rfl,_,rfl,.inr (.inr ⟨b,_,rfl,SqT.of (xs:=vP z.2.1) h2,c2,fun p1 hp1=>?_⟩)⟩;rw[c1];have s5:=(Same.refl H4).new (o:=.tup (vP z.2.1.dropLast)) hp1;have I2:=I1.same s5;have h2':=s5 _ _ h2;have hp1':upd H4 p1 (.tup (vP z.2.1.dropLast)) p1=some (.tup (vP z.2.1.dropLast)):=q0b;generalize upd H4 p1 (.tup (vP z.2.1.dropLast))=H5 at s5 I2 h2' hp1';refine⟨fun bb H6=>bb=false/\Same H5 H6,?_,?_⟩
    ·rintro bb H6 ⟨rfl,s6⟩;refine iteF ?_;have I3:=I2.same s6;refine⟨_,rfl,x,dx,_,rfl,I3.ins,rfl,_,rfl,x,d,b,bl,_,z.2.1,rfl,⟨⟨dx,I3.ins⟩,I3.d⟩,s6 _ _ h2',okz,fun r hr=>hH.ok r (Cj hr),fun H7 s7 _=>?_,fun H7 b' r s7 hr e _=>absurd e (q9z (f:=fun r:Rw=>fold bl r.1) hH.nd hzr hr)⟩;refine⟨_,rfl,iteF ?_⟩;have I4:=I3.same s7;refine⟨_,rfl,_,rfl,x,c,dx,_,_,rfl,I4.ins,hk.cl,hk.m,rfl,_,rfl,d,_,rfl,DPut.t (k:=kP z.2.1) I4.d (by rw[q3i];exact s7 _ _ (s6 _ _ h2')) (by rw[Ac,Ac,Bf,Ac];exact small' (by lia)),?_⟩;have hnew:∀r∈((zs.map (·.2)).take i).map rR,r.1≠z.2.1:=fun r hr=>by
      obtain⟨y,hy,rfl⟩:=Al.mp hr;exact q9z (f:=fun r:Rw=>r.1) hH.paths hzr hy
     rw[q5l hnew];refine⟨_,_,_,_,rfl,?_,?_,?_,fun a u n e=>?_⟩
     ·rw[q0e hdx.symm];exact I4.ins
     ·have e:((zs.map (·.2)).take (i+1)).map rR=((zs.map (·.2)).take i).map rR++[(z.2.1,mV z.2.2)]:=by rw[Bs,hzr,An];rfl
      rw[e];exact q0b
     ·rw[q0e hDd];exact I4.r
     ·rw[q0e (fun y=>by rw[y,hdH] at e;cases e)];exact I4.k a u n e
    ·refine⟨_,rfl,by show 0<=sizeLine;decide,fun e0 he0=>?_⟩;have s6:=(Same.refl H5).new (o:=.tup []) he0;refine q2w (q:=[]) (s6 _ _ hp1') q0b (q2g okz.low) (fun _ h=>nomatch h) ⟨_,rfl,?_⟩;refine iteB (fun hne=>?_) (fun hne=>?_)
     ·have hne':z.2.1.dropLast≠[]:=by simpa using hne
      have hin:=hsome _ ((hH.dr _ hzm).resolve_left hne');refine⟨_,rfl,_,rfl,Dr,_,rfl,DGet.t (k:=kP z.2.1.dropLast) (I2.same s6).r (by rw[q3i];exact s6 _ _ hp1'),_,rfl,?_,s6⟩;cases e:valV ys (kP z.2.1.dropLast) with
      |none=>rw[e] at hin;cases hin
      |some v=>rfl
     ·exact⟨rfl,s6⟩
   ·rintro σ' H2 ⟨x4,x5,x6,x7,rfl,I⟩;have hd2:=I.d;rw[Ac,<- Ac (f:=fun z:Zr=>z.2),Bi] at hd2;exact k d H2 hdH I.ins hd2 I.k
theorem q9a{α β:Type}{F:α->β->Prop}:∀{l:List α} {m:List β},Cz F l m->l.length=m.length
 |_,_,.nil=>rfl
 |_,_,.cons _ t=>congrArg (· + 1) (q9a t)
theorem z4l{rows:List Rw}(nd:(rows.map (·.1)).Nodup):∀{l m:List Rw},(∀r∈l,r∈rows)->(∀r∈m,r∈rows)->l.map (·.1)=m.map (·.1)->l=m
 |[],[],_,_,_=>rfl
 |[],_::_,_,_,h=>by cases h
 |_::_,[],_,_,h=>by cases h
 |a::l,b::m,h1,h2,h=>by
  rw[Ap,Ap] at h;injection h with e1 e2;rw[q4g (f:=fun r:Rw=>r.1) nd (h1 a Ao) (h2 b Ao) e1,z4l nd (fun r hr=>h1 r (Ak _ hr)) (fun r hr=>h2 r (Ak _ hr)) e2]
structure CallsR (P:Program) (w:World) (K:Ah) (mg:Str->Option Value) (base:Heap) (c:Addr):Prop where
 m_rows:MCal P w K mg base c "rows" 2 ["self"] (spHRows c)
def spRight(c:Addr):Sp:=fun vs H Q _=>∃h m d bl rows,∃mrows:List Rw,vs=[.ref h,.ref m]/\HallAt c H h d bl rows/\H m=some (dR (mrows.map rR))/\mrows.Perm rows/\(rows.map (·.1)).Nodup/\(∀r∈rows,okP r.1)/\rows.length<64/\∀H',Same H H'->Q (.bl true) H'
abbrev q2y:Stmt:=top 59
theorem sc_rows_right:FnScope ["_law_hall", "_law_marks", "_law_found", "_law_row_here"] ["_law_hall", "_law_marks"] (defScope q2y):=by trivial
theorem x1q{c:Addr}(D:Df K mg "_law_rows_right" q2y ["_law_hall", "_law_marks"])(T:Txt mg)(C:CallsR P w K mg base c):Cal P w K mg base "_law_rows_right" 3 ["_law_hall", "_law_marks"] (spRight c):=by
 refine D.cal sc_rows_right (fun vs H Q E h=>?_) (fun f cdv A outer s H vs Q E hr h=>?_)
 ·obtain⟨h,m,d,bl,rows,mrows,rfl,_⟩:=h;rfl
 ·obtain⟨h,m,d,bl,rows,mrows,rfl,hh,hm,mpm,nd,oks,h64,k⟩:=h;refine⟨_,(q0d (q0m (i:=2) sc_rows_right.nd rfl (by trivial) (q4s C.m_rows hr (pv 0))) (q0d (q0v (pt_j (@PW.pt _ _ _ (q5b (q3a (@q2k _ _ _ K rfl (q0h (z5f K rfl) (by rfl) T.b_isinstance (by decide +kernel) (q0a (pv 2) (q0a (q4m (by rfl) T.b_list (by decide +kernel) (show RelV (.ty "list") _ from rfl)) q0c))) (fun _=>rfl))) (q3f (q0o (ne_k K rfl hr) (pv 2) (q1s ["_law_path"] [("_law_marks",1)] rfl (@q6j _ _ _ _ K rfl (q0h (q8v hr) (by rfl) T.b_sorted (by decide +kernel) (q0a (pv 1) q0c))) (fun _ _ _ _ _=>(q0i (i:=0) (show(["_law_path", "_law_marks"]:List Str).Nodup by decide +kernel) rfl (by trivial))) (fun _ _ _ _ _=>q1r) (fun _ _ _ _ _=>(q0z (q0a (pv 0) (q0a (q4p (q2v hr) (pv 1) (pv 0) (fun _ _=>rfl)) q0c))))) (nomark _)))))) (q0f (q0j q3d)) q0k) (q0d (q3b Cr rfl (@q6j _ _ _ _ K rfl (pv 2)) (q0i (i:=3) sc_rows_right.nd rfl (by trivial)) (q0f (q0v (pt_j (@PW.pt _ _ _ (q5b (q3a (@q2k _ _ _ K rfl (q0h (z5f K rfl) (by rfl) T.b_isinstance (by decide +kernel) (q0a (pv 3) (q0a (q4m (by rfl) T.b_tuple (by decide +kernel) (show RelV (.ty "tuple") _ from rfl)) q0c))) (fun _=>rfl))) (q5b (q3a (@q2k _ _ _ K rfl (q0h (z5f K rfl) (by rfl) T.b_isinstance (by decide +kernel) (q0a (q1a (ix_k K rfl) (pv 3) q0g (fun _ _=>rfl)) (q0a (q4m (by rfl) T.b_tuple (by decide +kernel) (show RelV (.ty "tuple") _ from rfl)) q0c))) (fun _=>rfl))) (q3f (@q2k _ _ _ K rfl (q0h (z5f K rfl) (by rfl) T.b_isinstance (by decide +kernel) (q0a (q1a (ix_k K rfl) (pv 3) q0g (fun _ _=>rfl)) (q0a (q4m (by rfl) T.b_bool (by decide +kernel) (show RelV (.ty "bool") _ from rfl)) q0c))) (fun _=>rfl))))))) (q0f (q0j q3d)) q0k))) (q0f (q0j q3d))))),?_⟩;obtain⟨dx,hi⟩:=hh.i;have low:∀r∈rows,Low r.1:=fun r hr=>(oks r hr).low
  refine⟨_,rfl,h,dx,_,rfl,hi,rfl,h,d,bl,rows,rfl,hh,h64,low,fun L zs H1 hL s1 rl hp hs=>?_⟩;have zin:∀r∈zs.map (·.2),r∈rows:=fun r hr=>hp.mem_iff.mp hr;have lowz:∀r∈zs.map (·.2),Low r.1:=fun r hr=>low r (zin r hr);refine⟨fun b H'=>b=false/\Same H1 H',?_,?_⟩
  ·rintro b H' ⟨rfl,s2⟩;refine iteF ?_;have rl2:=rl.same s2;refine⟨_,rfl,.inl ⟨L,rfl,⟨_,SqL.of rl2.at_⟩,?_⟩⟩;refine x0a (xs:=zs.map fun z=>V.ref z.1) (fun i σ' H3=>(∃x3,σ'=[some (.ref h),some (.ref m),some (.ref L),x3])/\H3=H') ⟨⟨none,rfl⟩,rfl⟩ (fun i σ' H3 _ x=>by rw[x.2];exact SqL.of rl2.at_) ?_ ?_
   ·rintro i v σ' H3 hv ⟨⟨x3,rfl⟩,rfl⟩;obtain⟨z,hz,rfl⟩:=gR0 hv
    obtain⟨b,h1,h2⟩:=rl2.pr z (As hz);refine⟨fun b H4=>b=false/\H4=H3,?_,?_⟩
    ·rintro b H4 ⟨rfl,rfl⟩;exact iteF ⟨⟨_,rfl⟩,rfl⟩
    ·refine⟨_,rfl,_,_,_,true,rfl,TyOf.tup h1,rfl,true,rfl,iteF ?_⟩;refine⟨_,rfl,.inr (.inl ⟨z.1,_,0,_,rfl,rfl,SqT.of h1,rfl,?_⟩)⟩;refine⟨_,_,_,true,rfl,TyOf.tup h2,rfl,true,rfl,iteF ?_⟩;refine⟨_,rfl,.inr (.inl ⟨z.1,_,1,_,rfl,rfl,SqT.of h1,rfl,?_⟩)⟩;show ∃x c t b,[mV z.2.2,_]=[x,.ty c]/\_;cases z.2.2 with
     |none=>exact⟨_,_,_,false,rfl,TyOf.non,rfl,false,rfl,rfl,rfl⟩
     |some n=>exact⟨_,_,_,false,rfl,TyOf.int n,rfl,false,rfl,rfl,rfl⟩
   ·rintro σ' H3 ⟨⟨x3,rfl⟩,rfl⟩;exact k _ (s1.trans s2)
  ·refine⟨_,rfl,_,_,_,true,rfl,TyOf.lst rl.at_,rfl,true,rfl,iteF ?_⟩;refine⟨_,rfl,_,rfl,m,_,rfl,s1 _ _ hm,by rw[Ac,mpm.length_eq];exact h64,fun r hr=>?_,fun L2 bs ps hL2 hp2 hs2 pts=>?_⟩
   ·obtain⟨y,hy,rfl⟩:=Al.mp hr;exact(oks y (mpm.mem_iff.mp hy)).ne
   have s2:=(Same.refl H1).new (o:=.lst (bs.map V.ref)) hL2;have hLL:upd H1 L2 (.lst (bs.map V.ref)) L2=some (.lst (bs.map V.ref)):=q0b;generalize upd H1 L2 (.lst (bs.map V.ref))=H2 at s2 hLL;refine .inl ⟨L2,rfl,⟨_,SqL.of hLL⟩,fun Dl hDl=>?_⟩;have hps:(mrows.map rR).map (·.1)=mrows.map (·.1):=by rw[Ba];rfl
   rw[hps] at hp2;have ndm:(mrows.map (·.1)).Nodup:=(mpm.map _).nodup_iff.mpr nd;replace hp2:=hp2.trans (mpm.map _);have hbl:bs.length=ps.length:=q9a pts;have hpl:ps.length=rows.length:=by rw[hp2.length_eq,Ac]
   refine q4e (xs:=bs.map V.ref) (fun i ys H3=>∃ws:List Zr,ys=ws.map (fun z=>V.ref z.1)/\ws.map (fun z=>z.2.1)=ps.take i/\(∀w∈ws,w.2∈rows/\PR H3 w.1 (rR w.2))/\Same H2 H3/\H3 Dl=some (.lst ys)/\i<=ps.length)
    ⟨[],rfl,rfl,(fun _ h=>nomatch h),(Same.refl H2).new hDl,q0b,Br _⟩ (fun i ys H3 ⟨ws,_,_,_,s3,h3,_⟩=>⟨h3,SqL.of (s3 _ _ hLL)⟩) ?_ ?_
   ·rintro i ys H3 v hv ⟨ws,rfl,hw1,hw2,s3,h3,hile⟩;obtain⟨b,hb,rfl⟩:∃b,bs[i]?=some b/\v=.ref b:=by
     rw[Aq] at hv;cases e:bs[i]? with
     |none=>rw[e] at hv;cases hv
     |some z=>rw[e] at hv;cases hv;exact⟨z,rfl,rfl⟩
    obtain⟨p,hp3,hbp⟩:=Cz.at' pts hb;have hi':i<ps.length:=(Bb.mp hp3).1;obtain⟨r,hr,rfl⟩:=Al.mp (hp2.mem_iff.mp (As hp3));have hb3:=s3 _ _ (s2 _ _ hbp);have hm3:=s3 _ _ (s2 _ _ (s1 _ _ hm));have hval:=q7z (rs:=mrows.map rR) (r:=rR r) (Al.mpr ⟨r,mpm.mem_iff.mpr hr,rfl⟩) (by rw[hps];exact ndm);have hg:=DGet.t (k:=kP r.1) hm3 (by rw[q3i];exact hb3);rw[show valV ((mrows.map rR).map fun r=>(kP r.1,r.2)) (kP r.1)=some (mV r.2) from hval] at hg;refine⟨_,rfl,_,rfl,_,rfl,m,_,rfl,hg,by show 2<=sizeLine;decide,fun Tn hTn=>?_⟩;have sT:=(Same.refl H3).new (o:=.tup [.ref b,mV r.2]) hTn;have hwl:ws.length=i:=by rw[<- Ac (f:=fun z:Zr=>z.2.1),hw1,Bf];lia
    have hDT:Dl≠Tn:=fun z=>by rw[z,hTn] at h3;cases h3
    have tk:∀S xs,upd H3 Tn (.tup [.ref b,mV r.2]) S=some (.tup xs)->upd (upd H3 Tn (.tup [.ref b,mV r.2])) Dl (.lst (ws.map (fun z=>V.ref z.1)++[.ref Tn])) S=some (.tup xs):=fun S xs e=>by
     rw[q0e (fun z=>by rw[z,q0e hDT,h3] at e;cases e)];exact e
    refine⟨by rw[q0e hDT];exact h3,small' (by rw[Ac];lia),ws++[(Tn,r)],by rw[An];rfl,?_,fun w hw=>?_,(s3.trans sT).put hDl,q0b,hi'⟩
    ·rw[An,hw1,Bs,hp3];rfl
    ·rcases Aw.mp hw with hw|hw
     ·exact⟨(hw2 w hw).1,PR.same (PR.same (hw2 w hw).2 fun S xs e=>sT _ _ e) tk⟩
     ·rw[Az.mp hw];exact⟨hr,b,tk _ _ q0b,tk _ _ (sT _ _ hb3)⟩
   ·rintro ys H3 ⟨ws,rfl,hw1,hw2,s3,h3,_⟩;rw[Ac,hbl,Bi] at hw1;have e1:zs.map (·.2.1)=ps:=by
     have z1:(zs.map (·.2)).map (·.1)=zs.map (·.2.1):=by rw[Ba];rfl
     have p1:(zs.map (·.2.1)).Perm (rows.map (·.1)):=by rw[<- z1];exact hp.map _
     exact q7t (p1.trans hp2.symm) (p1.nodup_iff.mpr nd) hs hs2
    have e2:zs.map (·.2)=ws.map (·.2):=z4l nd zin (fun r hr=>by obtain⟨w,hw,rfl⟩:=Al.mp hr;exact(hw2 w hw).1) (by
     rw[Ba,Ba];show zs.map (fun z=>z.2.1)=ws.map (fun z=>z.2.1);rw[e1,hw1])
    exact x4b (rl.same (s2.trans s3)) ⟨h3,fun w hw=>(hw2 w hw).2⟩ e2 lowz ⟨_,rfl,rfl,s2.trans s3⟩
def spCarried:Sp:=fun vs H Q _=>∃a b c x p q,vs=[.ref a,.ref b,.ref c]/\H a=some (.tup (vP x))/\H b=some (.tup (vP p))/\H c=some (.tup (vP q))/\Low x/\Low p/\x.length<=100/\q.length<=100/\∀e H',Same H H'->H' e=some (.tup (vP (carry p q x)))->Q (.ref e) H'
theorem z4m(p q:Pth):vP (p++q)=vP p++vP q:=An
theorem x2x(x:Pth)(n:Nat):cutV (vP x) none (some (n:Int))=vP (x.take n):=by
 unfold cutV;have e0:HT.sIx (vP x).length 0 none=0:=rfl;have e1:HT.sIx (vP x).length (vP x).length (some (n:Int))=min n x.length:=by
  show(if (n:Int)<0 then((n:Int)+((vP x).length:Int)).toNat else min ((n:Int)).toNat (vP x).length)=_;rw[if_neg (by lia),q1f,Cp]
 rw[e0,e1,Kq,Kc,<- Dv];rw[<- Ko,Bi]
theorem z4n(x:Pth)(n:Nat):cutV (vP x) (some (n:Int)) none=vP (x.drop n):=by
 unfold cutV;have e0:HT.sIx (vP x).length 0 (some (n:Int))=min n x.length:=by
  show(if (n:Int)<0 then((n:Int)+((vP x).length:Int)).toNat else min ((n:Int)).toNat (vP x).length)=_;rw[if_neg (by lia),q1f,Cp]
 have e1:HT.sIx (vP x).length (vP x).length none=x.length:=q1f x;rw[e0,e1,<- Rg,<- Dv];congr 1;rcases Nat.lt_or_ge n x.length with h|h
 ·rw[Ib (Hh h)];exact Dw (by rw[Fw];lia)
 ·rw[Tr h,Ts,List.drop_of_length_le h];exact List.take_nil
theorem z4o{p:Pth}{n:Nat}(h:Low p):Low (p.take n):=fun x hx=>h x (Cj hx)
abbrev q5u:Stmt:=top 36
theorem z5p:FnScope ["path", "moved", "place"] ["path", "moved", "place"] (defScope q5u):=by trivial
theorem z5q(D:Df K mg "carried" q5u ["path", "moved", "place"])(T:Txt mg):Cal P w K mg base "carried" 1 ["path", "moved", "place"] spCarried:=by
 refine D.cal z5p (fun vs H Q E h=>?_) (fun f cdv A outer s H vs Q E hr h=>?_)
 ·obtain⟨a,b,c,x,p,q,rfl,_⟩:=h;rfl
 ·obtain⟨a,b,c,x,p,q,rfl,ha,hb,hc,lx,lp,l1,l2,k⟩:=h;refine⟨_,(q0d (q0v (q0o (eq_k K rfl hr) (q0s sl_P (pv 0) q0x (q0u (q0h (q1k K rfl) (by rfl) T.b_len Ax (q0a (pv 1) q0c)))) (pv 1) (nomark _)) (q0f (q0j (q0p q5s (pv 2) (q0s sl_P (pv 0) (q0u (q0h (q1k K rfl) (by rfl) T.b_len Ax (q0a (pv 1) q0c))) q0x)))) q0k) (q0f (q0j (pv 0)))),?_⟩;refine⟨_,rfl,_,rfl,_,_,rfl,.inr ⟨_,SqT.of hb,rfl⟩,_,rfl,a,_,rfl,ha,fun t1 H1 s1 h1=>?_⟩;rw[q1f,x2x] at h1;refine⟨_,rfl,q1t h1 (s1 _ _ hb) (z4o lx) lp ⟨_,rfl,?_⟩⟩;refine iteB (fun he=>?_) (fun he=>?_)
  ·have he:=of_decide_eq_true he;refine⟨_,rfl,_,rfl,_,rfl,_,_,rfl,.inr ⟨_,SqT.of (s1 _ _ hb),rfl⟩,_,rfl,a,_,rfl,s1 _ _ ha,fun t2 H2 s2 h2=>?_⟩;rw[q1f,z4n] at h2;refine⟨c,t2,_,_,rfl,rfl,s2 _ _ (s1 _ _ hc),h2,by rw[q1f,q1f,Fw];exact small (by lia),fun e H3 s3 h3 _=>?_⟩;refine k e H3 ((s1.trans s2).trans s3) ?_;rw[h3,<- z4m];unfold carry;rw[if_pos he]
  ·have he:=of_decide_eq_false he;refine⟨_,rfl,k a H1 s1 ?_⟩;unfold carry;rw[if_neg he];exact s1 _ _ ha
theorem x1r{rs:List HRow}{p:Pth}{v:V}(h:valV (rs.map fun r=>(kP r.1,r.2)) (kP p)=some v):(p,v)∈rs:=by
 induction rs with
 |nil=>cases h
 |cons r rs ih =>
  rw[Ap] at h;by_cases e:kP r.1=kP p
  ·rw[q1n e] at h;cases h;rw[<- z4h e];exact Ao
  ·rw[q1l e] at h;exact Ak _ (ih h)
theorem q4i{rows:List Rw}(nd:(rows.map (·.1)).Nodup){p:Pth}{m:Option Int}(h:(p,m)∈rows):valV ((rows.map rR).map fun r=>(kP r.1,r.2)) (kP p)=some (mV m) :=
 q7z (rs:=rows.map rR) (r:=rR (p,m)) (Al.mpr ⟨_,h,rfl⟩) (by rw[Ba];exact nd)
theorem q6i{rows:List Rw}{p:Pth}{v:V}(h:valV ((rows.map rR).map fun r=>(kP r.1,r.2)) (kP p)=some v):∃m,v=mV m/\(p,m)∈rows:=by
 obtain⟨r,hr,e⟩:=Al.mp (x1r h);cases e;exact⟨r.2,rfl,hr⟩
def spIsDrawer(c:Addr):Sp:=fun vs H Q _=>∃h d p bl rows q,vs=[.ref h,.ref p]/\HallAt c H h d bl rows/\H p=some (.tup (vP q))/\Low q/\(rows.map (·.1)).Nodup/\∀H' bb,Same H H'->(bb=true↔q=[]\/(q,none)∈rows)->Q (.bl bb) H'
abbrev q1y:Stmt:=inClass (top 37) 6
theorem q5v:FnScope ["self", "path"] ["self", "path"] (defScope q1y):=by trivial
theorem z1t{c:Addr}(D:Mf K c "is_drawer" "Hall.is_drawer" q1y ["self", "path"])(hk:Hk K c)(T:Txt mg):MCal P w K mg base c "is_drawer" 1 ["self", "path"] (spIsDrawer c):=by
 refine D.cal hk.cl q5v (fun vs H Q E h=>?_) (fun f cdv A outer s H vs Q E hr h=>?_)
 ·obtain⟨h,d,p,bl,rows,q,rfl,_⟩:=h;rfl
 ·obtain⟨h,d,p,bl,rows,q,rfl,hh,hp,lq,nd,k⟩:=h;refine⟨_,(q0f (q0j (pe_j (pe_or (q2m (eq_k K rfl hr) (pv 1) (q0z q0c) (nomark _)) (q6c (pe_j (q8k (x2e (pc_din (q2v hr) (pv 1) (@q2s _ _ _ _ _ K rfl (pv 0) (by rfl)))) (q6c (x2e (q4k (q4p (q2v hr) (@q2s _ _ _ _ _ K rfl (pv 0) (by rfl)) (pv 1) (fun _ _=>rfl)))))))))))),?_⟩;obtain⟨dx,hi⟩:=hh.i;refine⟨fun v H'=>∃bb,v=.bl bb/\Same H H'/\(bb=true↔q=[]\/(q,none)∈rows),fun v H' x=>?_,?_⟩
  ·obtain⟨bb,rfl,s1,e⟩:=x;exact k H' bb s1 e
  refine⟨_,rfl,by show 0<=sizeLine;decide,fun e0 he0=>?_⟩;have s1:=(Same.refl H).new (o:=.tup []) he0;refine q1t (q:=[]) (s1 _ _ hp) q0b lq (fun _ h=>nomatch h) ⟨_,rfl,?_⟩;refine iteB (fun he=>?_) (fun he=>?_)
  ·exact⟨true,rfl,s1,⟨fun _=>.inl (of_decide_eq_true he),fun _=>rfl⟩⟩
  have he:=of_decide_eq_false he;refine⟨fun v H'=>∃bb,v=.bl bb/\Same H H'/\(bb=true↔q=[]\/(q,none)∈rows),fun v H' x=>x,?_⟩;refine⟨_,rfl,_,rfl,h,c,dx,_,_,rfl,s1 _ _ hi,hk.cl,hk.m,rfl,d,_,rfl,q8y (s1 _ _ hh.d) (s1 _ _ hp),_,rfl,?_⟩;cases hv:valV ((rows.map rR).map fun r=>(kP r.1,r.2)) (kP q) with
  |none =>
   refine iteF ⟨false,rfl,s1,⟨(fun z=>by cases z),fun z=>?_⟩⟩;exfalso;rw[q4i nd (z.resolve_left he)] at hv;cases hv
  |some v =>
   obtain⟨m,rfl,hm⟩:=q6i hv;refine iteT ⟨_,rfl,h,c,dx,_,_,rfl,s1 _ _ hi,hk.cl,hk.m,rfl,_,rfl,d,mV m,rfl,?_,_,rfl,s1,?_⟩
   ·rw[<- hv];exact q8y (s1 _ _ hh.d) (s1 _ _ hp)
   ·rw[decide_eq_true_iff];refine⟨fun z=>.inr (by rw[mV_none.mp z] at hm;exact hm),fun z=>mV_none.mpr ?_⟩;have:=q4g (f:=fun r:Rw=>r.1) nd hm (z.resolve_left he) rfl;cases this;rfl
def spAskThing(c:Addr):Sp:=fun vs H Q _=>∃h d p bl rows q m,vs=[.ref h,.ref p]/\HallAt c H h d bl rows/\H p=some (.tup (vP q))/\(rows.map (·.1)).Nodup/\(q,m)∈rows/\Q .non H
abbrev q1z:Stmt:=inClass (top 37) 11
theorem q5w:FnScope ["self", "path"] ["self", "path"] (defScope q1z):=by trivial
theorem z1u{c:Addr}(D:Mf K c "ask_thing" "Hall.ask_thing" q1z ["self", "path"])(hk:Hk K c)(T:Txt mg):MCal P w K mg base c "ask_thing" 1 ["self", "path"] (spAskThing c):=by
 refine D.cal hk.cl q5w (fun vs H Q E h=>?_) (fun f cdv A outer s H vs Q E hr h=>?_)
 ·obtain⟨h,d,p,bl,rows,q,m,rfl,_⟩:=h;rfl
 ·obtain⟨h,d,p,bl,rows,q,m,rfl,hh,hp,nd,hm,k⟩:=h;refine⟨_,(q0f (q0v (q2b (q5f (q2v hr) (pv 1) (@q2s _ _ _ _ _ K rfl (pv 0) (by rfl)))) (q0f q2a) q0k)),?_⟩;obtain⟨dx,hi⟩:=hh.i;refine⟨_,rfl,_,rfl,h,c,dx,_,_,rfl,hi,hk.cl,hk.m,rfl,d,_,rfl,q8y hh.d hp,_,rfl,?_⟩;rw[q4i nd hm];exact iteF k
structure CallsD (P:Program) (w:World) (K:Ah) (mg:Str->Option Value) (base:Heap) (c:Addr):Prop where
 m_is_drawer:MCal P w K mg base c "is_drawer" 1 ["self", "path"] (spIsDrawer c)
def spAskDrawer(c:Addr):Sp:=fun vs H Q _=>∃h d p bl rows q,vs=[.ref h,.ref p]/\HallAt c H h d bl rows/\H p=some (.tup (vP q))/\Low q/\(rows.map (·.1)).Nodup/\(q=[]\/(q,none)∈rows)/\∀H',Same H H'->Q .non H'
abbrev q1v:Stmt:=inClass (top 37) 12
theorem q5m:FnScope ["self", "path"] ["self", "path"] (defScope q1v):=by trivial
theorem z0a{c:Addr}(D:Mf K c "ask_drawer" "Hall.ask_drawer" q1v ["self", "path"])(hk:Hk K c)(T:Txt mg)(C:CallsD P w K mg base c):MCal P w K mg base c "ask_drawer" 2 ["self", "path"] (spAskDrawer c):=by
 refine D.cal hk.cl q5m (fun vs H Q E h=>?_) (fun f cdv A outer s H vs Q E hr h=>?_)
 ·obtain⟨h,d,p,bl,rows,q,rfl,_⟩:=h;rfl
 ·obtain⟨h,d,p,bl,rows,q,rfl,hh,hp,lq,nd,hq,k⟩:=h;refine⟨_,(q0f (q0v (q3a (@q2k _ _ _ K rfl (pe_m C.m_is_drawer hr (pv 0) (q0a (pv 1) q0c)) (fun _=>rfl))) (q0f q2a) q0k)),?_⟩;obtain⟨dx,hi⟩:=hh.i;refine⟨_,rfl,h,dx,_,rfl,hi,rfl,_,rfl,h,d,p,bl,rows,q,rfl,hh,hp,lq,nd,fun H' bb s1 hb=>⟨bb,rfl,?_⟩⟩;have e:=hb.mpr hq;subst e;exact iteF (k H' s1)
def spThere1(c:Addr):Sp:=fun vs H Q _=>∃h d p bl rows place,vs=[.ref h,.ref p]/\HallAt c H h d bl rows/\H p=some (.tup (vP place))/\okP place/\(∀r∈rows,okP r.1) /\
 ∀H' v,Same H H'->(v=.non/\(∀r∈rows,fold bl r.1≠fold bl place)\/∃b r,v=.ref b/\r∈rows/\fold bl r.1=fold bl place/\H' b=some (.tup (vP r.1)))->Q v H'
theorem there1{c:Addr}(M:MCal P w K mg base c "there" 3 ["self", "place"] (spThere c)):MCal P w K mg base c "there" 3 ["self", "place"] (spThere1 c) :=
 M.imp fun vs H Q E h=>by
  obtain⟨h,d,p,bl,rows,place,e,hh,hp,ok,oks,k⟩:=h;exact⟨h,d,p,bl,rows,place,e,hh,hp,ok,oks,fun H' s1 n=>k H' _ s1 (.inl ⟨rfl,n⟩),fun H' b r s1 hr e hb=>k H' _ s1 (.inr ⟨b,r,rfl,hr,e,hb⟩)⟩
structure CallsV (P:Program) (w:World) (K:Ah) (mg:Str->Option Value) (base:Heap) (c:Addr):Prop where
 carried:Cal P w K mg base "carried" 1 ["path", "moved", "place"] spCarried
 m_ask_thing:MCal P w K mg base c "ask_thing" 1 ["self", "path"] (spAskThing c)
 m_ask_drawer:MCal P w K mg base c "ask_drawer" 2 ["self", "path"] (spAskDrawer c)
 m_is_drawer:MCal P w K mg base c "is_drawer" 1 ["self", "path"] (spIsDrawer c)
 m_there:MCal P w K mg base c "there" 3 ["self", "place"] (spThere1 c)
def spMove(c:Addr):Sp:=fun vs H Q _=>∃h d a b bl rows p q m,vs=[.ref h,.ref a,.ref b]/\HallAt c H h d bl rows/\Hl bl rows/\rows.length<=60/\H a=some (.tup (vP p))/\H b=some (.tup (vP q))/\(p,m)∈rows/\(m=none->q.dropLast=p.dropLast)/\q≠p/\Free bl rows p q /\
 ((rows.map (cR p q)).map (·.1)).Nodup/\∀D H',H D=none->(∀x u,x≠h->H x=some u->H' x=some u)->HallAt c H' h D bl (rows.map (cR p q))->Q .non H'
theorem z8u{σ:St}{H:Hp}{Q:Bool->Hp->Prop}(h:Q true H):tIf0 σ H Q:=h
abbrev q3n:Stmt:=inClass (top 37) 10
theorem sc_Hall_move:FnScope ["self", "path", "place", "other"] ["self", "path", "place"] (defScope q3n):=by trivial
theorem x4l{c:Addr}(D:Mf K c "move" "Hall.move" q3n ["self", "path", "place"])(hk:Hk K c)(T:Txt mg)(C:CallsV P w K mg base c):MCal P w K mg base c "move" 4 ["self", "path", "place"] (spMove c):=by
 refine D.cal hk.cl sc_Hall_move (fun vs H Q E h=>?_) (fun f cdv A outer s H vs Q E hr h=>?_)
 ·obtain⟨h,d,a,b,bl,rows,p,q,m,rfl,_⟩:=h;rfl
 ·obtain⟨h,d,a,b,bl,rows,p,q,m,rfl,hh,hl,h60,ha,hb,hp,hm,hne,fr,ndc,k⟩:=h;refine⟨_,(q0d (q1c (pe_m C.m_ask_thing hr (pv 0) (q0a (pv 1) q0c))) (q0d (q1c (pe_m C.m_ask_drawer hr (pv 0) (q0a (q0s (sl_k K rfl) (pv 2) q0x (q0u (q2c q1e q0g))) q0c))) (q0d (q0v (pt_j (@PW.pt _ _ _ (q5a (@q2k _ _ _ K rfl (pe_m C.m_is_drawer hr (pv 0) (q0a (pv 1) q0c)) (fun _=>rfl)) (q2u (q0o (ne_k K rfl hr) (q0s (sl_k K rfl) (pv 2) q0x (q0u (q2c q1e q0g))) (q0s (sl_k K rfl) (pv 1) q0x (q0u (q2c q1e q0g))) (nomark _)))))) (q0f q2a) q0k) (q0d (q0m (i:=3) sc_Hall_move.nd rfl (by trivial) (pe_m C.m_there hr (pv 0) (q0a (pv 2) q0c))) (q0d (q0v (pt_j (@PW.pt _ _ _ (q5a (q2b (q9d (pv 3))) (q2u (pt_j (@PW.pt _ _ _ (q5b (q0o (ne_k K rfl hr) (pv 3) (pv 1) (nomark _)) (q3f (q0o (eq_k K rfl hr) (pv 2) (pv 1) (nomark _)))))))))) (q0f q2a) q0k) (q0f (@q6h _ _ _ _ _ _ _ _ K rfl (pv 0) (z8b H rfl (x1c ["thing", "mark"] [("path",1),("place",2)] rfl (@itm_k _ _ _ _ K rfl (@z2l _ _ _ _ _ _ _ _ _ K rfl Ks Oz Pa z3v (@q2s _ _ _ _ _ K rfl (pv 0) (by rfl)) (by rfl) (by rfl))) (fun _ _ _ _ _=>(@q1w _ _ _ _ (2) _ K rfl rfl (q0l (q0i (i:=0) (show(["thing", "mark", "path", "place"]:List Str).Nodup by decide +kernel) rfl (by trivial)) (q0l (q0i (i:=1) (show(["thing", "mark", "path", "place"]:List Str).Nodup by decide +kernel) rfl (by trivial)) q1j)) (by rfl) (by rfl))) (fun _ _ _ _ _=>q1r) (fun _ _ _ _ _=>(pe_c C.carried hr (q0a (pv 0) (q0a (pv 2) (q0a (pv 3) q0c))))) (fun _ _ _ _ _=>(pv 1)) (q2v hr))) (by rfl)))))))),?_⟩;obtain⟨dx,hi⟩:=hh.i;have okp:=hl.ok _ hp;obtain⟨c1,c2⟩:=q2f fr.ok.ne;obtain⟨c3,c4⟩:=q2f okp.ne;refine⟨_,rfl,h,dx,_,rfl,hi,rfl,_,rfl,h,d,a,bl,rows,p,m,rfl,hh,ha,hl.paths,hp,?_⟩;refine⟨_,rfl,h,dx,_,rfl,hi,rfl,_,rfl,_,rfl,_,rfl,.inr (.inr ⟨b,_,rfl,SqT.of hb,c2,fun t1 ht1=>?_⟩)⟩;rw[c1];have s1:=(Same.refl H).new (o:=.tup (vP q.dropLast)) ht1;refine⟨h,d,t1,bl,rows,q.dropLast,rfl,hh.same s1,q0b,q2g fr.ok.low,hl.paths,fr.dr,fun H1 s2=>?_⟩;have s12:=s1.trans s2;refine⟨fun bb H2=>bb=false/\Same H H2,?_,?_⟩;rotate_left
  ·refine⟨_,rfl,h,dx,_,rfl,s12 _ _ hi,rfl,_,rfl,h,d,a,bl,rows,p,rfl,hh.same s12,s12 _ _ ha,okp.low,hl.paths,fun H2 bb s3 hbb=>⟨bb,rfl,?_⟩⟩;have s13:=s12.trans s3;refine iteB (fun e=>?_) (fun e=>⟨rfl,s13⟩);have hpn:(p,none)∈rows:=(hbb.mp e).resolve_left okp.ne;have em:=hl.one hp hpn;refine⟨_,rfl,_,rfl,_,rfl,.inr (.inr ⟨b,_,rfl,SqT.of (s13 _ _ hb),c2,fun t2 ht2=>?_⟩)⟩;rw[c1];have s4:=(Same.refl H2).new (o:=.tup (vP q.dropLast)) ht2;refine⟨_,rfl,_,rfl,_,rfl,.inr (.inr ⟨a,_,rfl,SqT.of (s4 _ _ (s13 _ _ ha)),c4,fun t3 ht3=>?_⟩)⟩;rw[c3];have s5:=((Same.refl H2).new (o:=.tup (vP q.dropLast)) ht2).new (o:=.tup (vP p.dropLast)) ht3;refine q2w (p:=q.dropLast) (q:=p.dropLast) (by rw[q0e (fun z=>by rw[<- z,q0b] at ht3;cases ht3)];exact q0b) q0b (q2g fr.ok.low) (q2g okp.low) ⟨_,rfl,?_,s13.trans s5⟩;rw[decide_eq_true (hm em)];rfl
  rintro bb H2 ⟨rfl,s3⟩;refine iteF ?_;refine⟨_,rfl,h,dx,_,rfl,s3 _ _ hi,rfl,_,rfl,h,d,b,bl,rows,q,rfl,hh.same s3,s3 _ _ hb,fr.ok,hl.ok,fun H3 ov s4 hov=>?_⟩;have s34:=s3.trans s4;refine⟨fun bb H4=>bb=false/\Same H H4,?_,?_⟩;rotate_left
  ·refine⟨_,rfl,_,rfl,?_⟩;rcases hov with⟨rfl,_⟩|⟨e,r,rfl,hr,hf,he⟩
   ·exact iteF ⟨rfl,s34⟩
   ·refine iteT ?_;have er:=fr.un r hr hf;rw[er] at he;refine⟨fun bb H4=>bb=false/\Same H H4,fun bb H4 x=>x,?_⟩;refine⟨_,rfl,_,rfl,q2w he (s34 _ _ ha) okp.low okp.low ⟨_,rfl,?_⟩⟩;rw[decide_eq_true rfl];refine iteF ⟨_,rfl,_,rfl,q1t (s34 _ _ hb) (s34 _ _ ha) fr.ok.low okp.low ⟨_,rfl,decide_eq_false hne,s34⟩⟩
  rintro bb H4 ⟨rfl,s5⟩;refine iteF ?_;have hh5:=hh.same s5;have hdf:∀o v,H d≠some (.frz o v):=fun o v e=>by rw[hh.d] at e;cases e
  refine⟨d,hdf,_,rfl,h,c,dx,_,_,rfl,s5 _ _ hi,hk.cl,hk.m,rfl,.inr (.inr (.inl ⟨rfl,.inr ⟨_,hh5.d⟩⟩)),d,_,rfl,rfl,hh5.d,fun v hv=>?_⟩;have s6:=(Same.refl H4).new (o:=vwO v d) hv;have hvv:upd H4 v (vwO v d) v=some (vwO v d):=q0b;have hh6:=hh5.same s6;have s56:=s5.trans s6;generalize upd H4 v (vwO v d)=H5 at s6 hvv hh6 s56;refine⟨v,d,_,rfl,hvv,hh6.d,fun ob D hD=>?_⟩;have hDd:D≠d:=fun z=>by rw[z,q0b] at hD;cases hD
  have hD5:H5 D=none:=by rw[q0e hDd] at hD;exact hD
  have hDH:H D=none:=s56.free hD5;have had:a≠d:=fun z=>by have:=s56 _ _ ha;rw[z,hh6.d] at this;cases this
  have hbd:b≠d:=fun z=>by have:=s56 _ _ hb;rw[z,hh6.d] at this;cases this
  refine z3w (n:=rows.length) (fun i ys H'=>ys=((((rows.take i).map (cR p q)).map rR).map fun r=>(kP r.1,r.2))/\H' D=some (.dT ys)/\H' d=some (.frz ob (dR (rows.map rR)))/\∀x u,x≠d->H x=some u->H' x=some u)
   ⟨rfl,q0b,by rw[q0e hDd.symm];exact q0b,fun x u n e=>by rw[q0e (fun z=>by rw[z,hDH] at e;cases e),q0e n];exact s56 _ _ e⟩ (fun i ys H' x=>x.2.1) (fun i ys H' hi x=>⟨x.2.2.1,by rw[Ac,Ac];exact hi⟩) (fun ys H' x=>⟨x.2.2.1,by rw[Ac,Ac];exact Aj _⟩) ?_ ?_
  ·rintro i ys H' x H6 hi' ⟨rfl,hHD,hfz,kp⟩ ⟨ky,v',b',T',hk',hb',hT',rfl,rfl⟩;obtain⟨r,hr,rfl,rfl⟩:∃r,rows[i]?=some r/\ky=kP r.1/\v'=mV r.2:=by
    rw[Aq,Aq] at hk';cases e:rows[i]? with
    |none=>rw[e] at hk';cases hk'
    |some r=>rw[e] at hk';cases hk';exact⟨r,rfl,rfl,rfl⟩
   rw[q3i] at hb';have okr:=hl.ok _ (As hr);have sT:=(Same.refl H').new (o:=.tup [.ref b',mV r.2]) hT';refine⟨T',_,rfl,SqT.of q0b,rfl,_,_,rfl,_,_,rfl,rfl,q1x,?_⟩;refine z8u (iteT ?_);refine⟨_,rfl,_,rfl,_,rfl,b',a,b,r.1,p,q,rfl,sT _ _ hb',sT _ _ (kp _ _ had ha),sT _ _ (kp _ _ hbd hb),okr.low,okp.low,by have:=okr.few;lia,by have:=fr.ok.few;lia,fun e H7 s7 he=>?_⟩;have sT7:=sT.trans s7;have hnew:∀y∈((rows.take i).map (cR p q)).map rR,y.1≠carry p q r.1:=fun y hy=>by
    obtain⟨z,hz,rfl⟩:=Al.mp hy;obtain⟨x,hx,rfl⟩:=Al.mp hz;exact q9z (f:=fun r:Rw=>(cR p q r).1) (by rw[Ba] at ndc;exact ndc) hr hx
   refine⟨_,rfl,kP (carry p q r.1),e,rfl,by rw[q3i];exact he,sT7 _ _ hHD,by rw[Ac,Ac,Ac,Bf];exact small' (by lia),?_,q0b,?_,fun x u n e=>?_⟩
   ·rw[q5l hnew,Bs,hr];show _=((((rows.take i++[r]).map (cR p q)).map rR).map fun r=>(kP r.1,r.2))
    simp only[An];rfl
   ·rw[q0e hDd.symm];exact sT7 _ _ hfz
   ·rw[q0e (fun z=>by rw[z,hDH] at e;cases e)];exact sT7 _ _ (kp _ _ n e)
  ·rintro ys H' ⟨rfl,hHD,hfz,kp⟩;rw[Bi] at hHD;have hhd:h≠d:=fun z=>by have:=s56 _ _ hi;rw[z,hh6.d] at this;cases this
   have hhD:h≠D:=fun z=>by rw[<- z,hi] at hDH;cases hDH
   refine⟨ob,_,hfz,_,rfl,h,c,dx,_,rfl,by rw[q0e hhd];exact kp _ _ hhd hi,hk.cl,hk.m,by show 2<1000;decide,?_⟩;refine k D _ hDH (fun x u n e=>?_) ⟨⟨dx,q0b⟩,?_⟩
   ·rw[q0e n];by_cases z:x=d
    ·rw[z] at e ⊢;rw[q0b,<- hh.d];exact e
    ·rw[q0e z];exact kp _ _ z e
   ·rw[q0e hhD.symm,q0e hDd];exact hHD
theorem z4p{p:Pth}(h:okP p)(bl:Bool):okP (fold bl p):=by
 cases bl with
 |false=>exact h
 |true =>
  rw[q7s];have e:=q9q h.ne;have hl:p.dropLast.length<6:=by rw[Cq];have:=h.few;have:=Bo.mpr h.ne;lia
  refine okP.snoc ?_ hl (q5t h).lo;by_cases z:p.dropLast=[]
  ·exact .inl z
  ·exact .inr ⟨z,by lia,fun n hn=>h.all n (Qu _ hn)⟩
structure CallsT (P:Program) (w:World) (K:Ah) (mg:Str->Option Value) (base:Heap):Prop where
 folded:Cal P w K mg base "_law_folded" 1 ["_law_path", "_law_blind"] spFolded
def spThereL:Sp:=fun vs H Q _=>∃m p bl,∃rows:List Rw,∃place,vs=[.ref m,.bl bl,.ref p]/\H m=some (dR (rows.map rR))/\H p=some (.tup (vP place))/\okP place/\(∀r∈rows,okP r.1) /\
 ∀H' v,Same H H'->(v=.non/\(∀r∈rows,fold bl r.1≠fold bl place)\/∃b r,v=.ref b/\r∈rows/\fold bl r.1=fold bl place/\H' b=some (.tup (vP r.1)))->Q v H'
abbrev z0b:Stmt:=top 60
theorem sc_there:FnScope ["_law_marks", "_law_blind", "_law_place", "_law_path"] ["_law_marks", "_law_blind", "_law_place"] (defScope z0b):=by trivial
theorem z8v(D:Df K mg "_law_there" z0b ["_law_marks", "_law_blind", "_law_place"])(T:Txt mg)(C:CallsT P w K mg base):Cal P w K mg base "_law_there" 2 ["_law_marks", "_law_blind", "_law_place"] spThereL:=by
 refine D.cal sc_there (fun vs H Q E h=>?_) (fun f cdv A outer s H vs Q E hr h=>?_)
 ·obtain⟨m,p,bl,rows,place,rfl,_⟩:=h;rfl
 ·obtain⟨m,p,bl,rows,place,rfl,hd,hp,ok,oks,k⟩:=h;refine⟨_,(q0d (z2q H rfl (q3b Cr rfl (@z3u _ _ _ _ K rfl (pv 0)) (q0i (i:=3) sc_there.nd rfl (by trivial)) (q0f (q0v (q0o (eq_k K rfl hr) (pe_c C.folded hr (q0a (pv 3) (q0a (pv 1) q0c))) (pe_c C.folded hr (q0a (pv 2) (q0a (pv 1) q0c))) (nomark _)) (q0f (q0j (pv 3))) q0k)))) (q0f (q0j q3e))),?_⟩;have hpd:p≠m:=fun z=>by rw[z,hd] at hp;cases hp
  refine⟨m,(fun o v e=>by rw[hd] at e;cases e),?_⟩;refine⟨_,rfl,m,_,rfl,hd,fun ob=>?_⟩;refine q7m (fun i σ' H'=>(∃x,σ'=[some (.ref m),some (.bl bl),some (.ref p),x])/\H' m=some (.frz ob (dR (rows.map rR)))/\(∀a u,a≠m->H a=some u->H' a=some u)/\∀r∈rows.take i,fold bl r.1≠fold bl place)
   ⟨⟨none,rfl⟩,q0b,fun a u n e=>by rw[q0e n];exact e,fun r hr=>by rw[Ga] at hr;cases hr⟩ (fun i σ' H' x=>x.2.1) ?_ ?_
  ·rintro i ky v b σ' H' hk' hb ⟨⟨x,rfl⟩,hfz,kp,hno⟩;obtain⟨r,hr,rfl,rfl⟩:∃r,rows[i]?=some r/\ky=kP r.1/\v=mV r.2:=by
    rw[Aq,Aq] at hk';cases e:rows[i]? with
    |none=>rw[e] at hk';cases hk'
    |some r=>rw[e] at hk';cases hk';exact⟨r,rfl,rfl,rfl⟩
   have hrm:=As hr;rw[q3i] at hb;refine⟨_,rfl,_,rfl,b,r.1,bl,rfl,hb,oks r hrm,fun f1 H2 s2 hf1=>?_⟩;refine⟨_,rfl,_,rfl,p,place,bl,rfl,s2 _ _ (kp _ _ hpd hp),ok,fun f2 H3 s3 hf2=>?_⟩;have s23:=s2.trans s3;have kp2:∀a u,a≠m->H a=some u->H3 a=some u:=fun a u n e=>s23 _ _ (kp a u n e);refine q1t (s3 _ _ hf1) hf2 (z4p (oks r hrm) bl).low (z4p ok bl).low ⟨_,rfl,?_⟩;refine iteB (fun he=>?_) (fun he=>?_)
   ·refine⟨_,rfl,ob,_,s23 _ _ hfz,k _ _ (q2t hd kp2) (.inr ⟨b,r,rfl,hrm,of_decide_eq_true he,?_⟩)⟩;rw[q0e (fun z=>by rw[z,hfz] at hb;cases hb)];exact s23 _ _ hb
   ·refine⟨⟨_,rfl⟩,s23 _ _ hfz,kp2,fun y hy=>?_⟩;rw[Bs,hr] at hy;rcases Aw.mp hy with hy|hy
    ·exact hno y hy
    ·cases Az.mp hy;exact of_decide_eq_false he
  ·rintro σ' H' ⟨⟨x,rfl⟩,hfz,kp,hno⟩;refine⟨ob,_,hfz,k _ _ (q2t hd kp) (.inl ⟨rfl,fun r hr=>hno r ?_⟩)⟩;rw[Ac,Ac,Bi];exact hr
def spMoved:Sp:=fun vs H Q _=>∃m e t,∃rows:List Rw,∃p q,vs=[.ref m,.ref e,.ref t]/\H m=some (dR (rows.map rR))/\H e=some (.tup (vP p))/\H t=some (.tup (vP q))/\(∀r∈rows,okP r.1)/\Low p/\q.length<=100/\rows.length<=60/\(rows.map (·.1)).Nodup/\((rows.map (cR p q)).map (·.1)).Nodup /\
 ∀D H',H D=none->Same H H'->H' D=some (dR ((rows.map (cR p q)).map rR))->Q (.ref D) H'
abbrev z0c:Stmt:=top 61
theorem sc_moved:FnScope ["_law_marks", "_law_path", "_law_place", "_law_found", "_law_other"] ["_law_marks", "_law_path", "_law_place"] (defScope z0c):=by trivial
theorem x1s(D:Df K mg "_law_moved" z0c ["_law_marks", "_law_path", "_law_place"])(T:Txt mg):Cal P w K mg base "_law_moved" 1 ["_law_marks", "_law_path", "_law_place"] spMoved:=by
 refine D.cal sc_moved (fun vs H Q E h=>?_) (fun f cdv A outer s H vs Q E hr h=>?_)
 ·obtain⟨m,e,t,rows,p,q,rfl,_⟩:=h;rfl
 ·obtain⟨m,e,t,rows,p,q,rfl,hm,he,ht,oks,lp,lq,h60,nd,ndc,k⟩:=h;refine⟨_,(q0d (q0m (i:=3) sc_moved.nd rfl (by trivial) q9p) (q0d (z2q H rfl (q3b Cr rfl (@z3u _ _ _ _ K rfl (pv 0)) (q0i (i:=4) sc_moved.nd rfl (by trivial)) (q0f (q0v (q0o (eq_k K rfl hr) (q0s sl_P (pv 4) q0x (q0u (q0h (q1k K rfl) (by rfl) T.b_len Ax (q0a (pv 1) q0c)))) (pv 1) (nomark _)) (q0f (q9n (q2v hr) (pv 3) (q0p q5s (pv 2) (q0s sl_P (pv 4) (q0u (q0h (q1k K rfl) (by rfl) T.b_len Ax (q0a (pv 1) q0c))) q0x)) (q4p (q2v hr) (pv 0) (pv 4) (fun _ _=>rfl)) rfl)) (q0f (q9n (q2v hr) (pv 3) (pv 4) (q4p (q2v hr) (pv 0) (pv 4) (fun _ _=>rfl)) rfl)))))) (q0f (q0j (pv 3))))),?_⟩;intro D hD;have s1:=(Same.refl H).new (o:=.dT []) hD;have hDm:D≠m:=fun z=>by rw[z,hm] at hD;cases hD
  have hem:e≠m:=fun z=>by rw[z,hm] at he;cases he
  have htm:t≠m:=fun z=>by rw[z,hm] at ht;cases ht
  refine⟨m,(fun o v e=>by rw[hm] at e;cases e),?_⟩;refine⟨_,rfl,m,_,rfl,s1 _ _ hm,fun ob=>?_⟩;refine q7m (fun i σ' H'=>(∃x,σ'=[some (.ref m),some (.ref e),some (.ref t),some (.ref D),x])/\H' m=some (.frz ob (dR (rows.map rR)))/\(∀a u,a≠m->H a=some u->H' a=some u)/\H' D=some (dR (((rows.take i).map (cR p q)).map rR)))
   ⟨⟨none,rfl⟩,q0b,fun a u n e=>by rw[q0e n];exact s1 _ _ e,by rw[q0e hDm];exact q0b⟩ (fun i σ' H' x=>x.2.1) ?_ ?_
  ·rintro i ky v b σ' H' hk' hb ⟨⟨x,rfl⟩,hfz,kp,hHD⟩;obtain⟨r,hr,rfl,rfl⟩:∃r,rows[i]?=some r/\ky=kP r.1/\v=mV r.2:=by
    rw[Aq,Aq] at hk';cases e:rows[i]? with
    |none=>rw[e] at hk';cases hk'
    |some r=>rw[e] at hk';cases hk';exact⟨r,rfl,rfl,rfl⟩
   have hrm:=As hr;rw[q3i] at hb;have okr:=oks r hrm;have hnew:∀y∈((rows.take i).map (cR p q)).map rR,y.1≠carry p q r.1:=fun y hy=>by
    obtain⟨z,hz,rfl⟩:=Al.mp hy;obtain⟨x,hx,rfl⟩:=Al.mp hz;exact q9z (f:=fun r:Rw=>(cR p q r).1) (by rw[Ba] at ndc;exact ndc) hr hx
   have hlen:((((rows.take i).map (cR p q)).map rR).map fun r=>(kP r.1,r.2)).length<sizeLine:=by rw[Ac,Ac,Ac,Bf];exact small' (by lia)
   have put:∀{H2:Hp} {g:Addr},Same H' H2->H2 g=some (.tup (vP (carry p q r.1)))->DPut H2 D (.ref g) (mV r.2) (upd H2 D (dR (((rows.take (i+1)).map (cR p q)).map rR))):=fun{H2 g} s2 hg=>by
    have:=DPut.t (v:=mV r.2) (k:=kP (carry p q r.1)) (s2 _ _ hHD) (by rw[q3i];exact hg) hlen;rw[q5l hnew] at this;rw[Bs,hr];have e1:((rows.take i++(some r).toList).map (cR p q)).map rR=((rows.take i).map (cR p q)).map rR++[(carry p q r.1,mV r.2)]:=by
     show((rows.take i++[r]).map (cR p q)).map rR=_;simp only[An];rfl
    rw[e1];exact this
   have fin:∀{H2:Hp},Same H' H2->(∃x,([some (.ref m),some (.ref e),some (.ref t),some (.ref D),some (.ref b)]:St)=[some (.ref m),some (.ref e),some (.ref t),some (.ref D),x])/\upd H2 D (dR (((rows.take (i+1)).map (cR p q)).map rR)) m=some (.frz ob (dR (rows.map rR)))/\(∀a u,a≠m->H a=some u->upd H2 D (dR (((rows.take (i+1)).map (cR p q)).map rR)) a=some u)/\upd H2 D (dR (((rows.take (i+1)).map (cR p q)).map rR)) D=some (dR (((rows.take (i+1)).map (cR p q)).map rR)):=fun{H2} s2 =>
    ⟨⟨_,rfl⟩,by rw[q0e hDm.symm];exact s2 _ _ hfz,fun a u n e=>by rw[q0e (fun z=>by rw[z,hD] at e;cases e)];exact s2 _ _ (kp a u n e),q0b⟩
   have hg:∀{H2:Hp},Same H' H2->DGet H2 m (.ref b) (some (mV r.2)):=fun{H2} s2=>by rw[<- q4i nd (p:=r.1) (m:=r.2) hrm];exact x2s (s2 _ _ hfz) (s2 _ _ hb)
   refine⟨_,rfl,_,rfl,_,_,rfl,.inr ⟨_,SqT.of (kp _ _ hem he),rfl⟩,_,rfl,b,_,rfl,hb,fun t1 H1 s1 h1=>?_⟩;rw[q1f,x2x] at h1;refine⟨_,rfl,q1t h1 (s1 _ _ (kp _ _ hem he)) (z4o okr.low) lp ⟨_,rfl,?_⟩⟩;refine iteB (fun hc=>?_) (fun hc=>?_)
   ·have hc:=of_decide_eq_true hc;refine⟨_,rfl,_,rfl,m,_,rfl,hg s1,_,rfl,_,rfl,_,rfl,_,rfl,_,_,rfl,.inr ⟨_,SqT.of (s1 _ _ (kp _ _ hem he)),rfl⟩,_,rfl,b,_,rfl,s1 _ _ hb,fun t2 H2 s2 h2=>?_⟩;rw[q1f,z4n] at h2;refine⟨t,t2,_,_,rfl,rfl,s2 _ _ (s1 _ _ (kp _ _ htm ht)),h2,by rw[q1f,q1f,Fw];have:=okr.few;exact small (by lia),fun g H3 s3 h3 _=>?_⟩;have s13:=(s1.trans s2).trans s3;have h3':H3 g=some (.tup (vP (carry p q r.1))):=by
     rw[h3,<- z4m];unfold carry;rw[if_pos hc]
    exact⟨D,_,rfl,put s13 h3',fin s13⟩
   ·have hc:=of_decide_eq_false hc;have h3':H1 b=some (.tup (vP (carry p q r.1))):=by
     unfold carry;rw[if_neg hc];exact s1 _ _ hb
    exact⟨_,rfl,_,rfl,m,_,rfl,hg s1,_,rfl,_,rfl,D,_,rfl,put s1 h3',fin s1⟩
  ·rintro σ' H' ⟨⟨x,rfl⟩,hfz,kp,hHD⟩;rw[Ac,Ac,Bi] at hHD;refine⟨ob,_,hfz,_,rfl,k D _ hD (q2t hm kp) ?_⟩;rw[q0e hDm];exact hHD
theorem z5r{tt:TT}{m D:Addr}{ob:Obj}{rows:List Rw}{r:St}{H1 H2:Hp}{Fin:List V->Hp->Prop}{ch:Rw->Bool}(hm:H1 m=some (dR (rows.map rR)))(h2:H2=upd H1 m (.frz ob (dR (rows.map rR))))(hD:H2 D=none)(few:rows.length<=1000)(ht:∀(b:Addr) (x:Rw) (H:Hp) (Q:Bool->Hp->Prop),x∈rows->H b=some (.tup (vP x.1))->H m=some (.frz ob (dR (rows.map rR)))->Q (ch x) H->tt (some (.ref b)::r) H Q)(k:∀(zs:List Zp) (H':Hp),(∀z∈zs,H' z.1=some (.tup (vP z.2))/\∃x∈rows,x.1=z.2/\ch x=true)->(∀x∈rows,ch x=true->∃z∈zs,z.2=x.1)->zs.length<=rows.length->H' D=some (.lst (zs.map fun z=>V.ref z.1))->H' m=some (.frz ob (dR (rows.map rR)))->(∀a u,a≠m->H1 a=some u->H' a=some u)->Fin (zs.map fun z=>V.ref z.1) H'):
  CompW (Itk m ob ((rows.map rR).map fun r=>(kP r.1,r.2))) (gName 0) tt (tVar 0) (none::r) D Fin H2:=by
 subst h2;have hDm:D≠m:=fun z=>by rw[z,q0b] at hD;cases hD
 have hD1:H1 D=none:=by rw[q0e hDm] at hD;exact hD
 have hlen:((rows.map rR).map fun r=>(kP r.1,r.2)).length=rows.length:=by rw[Ac,Ac]
 refine q7f (n:=rows.length) (fun i ys H'=>∃zs:List Zp,ys=zs.map (fun z=>V.ref z.1)/\zs.length<=i/\(∀z∈zs,H' z.1=some (.tup (vP z.2))/\∃x∈rows,x.1=z.2/\ch x=true)/\(∀x∈rows.take i,ch x=true->∃z∈zs,z.2=x.1)/\H' D=some (.lst ys)/\H' m=some (.frz ob (dR (rows.map rR)))/\∀a u,a≠m->H1 a=some u->H' a=some u)
  ⟨[],rfl,Br _,(fun _ h=>nomatch h),(fun x hx=>by rw[Ga] at hx;cases hx),q0b,by rw[q0e hDm.symm];exact q0b,fun a u n e=>by rw[q0e (fun z=>by rw[z,hD1] at e;cases e),q0e n];exact e⟩
  (fun i ys H' x=>by obtain⟨_,_,_,_,_,h,_⟩:=x;exact h) (fun i ys H' hi x=>by obtain⟨_,_,_,_,_,_,h,_⟩:=x;exact⟨h,by rw[hlen];exact hi⟩) (fun ys H' x=>by obtain⟨_,_,_,_,_,_,h,_⟩:=x;exact⟨h,by rw[hlen];exact Aj _⟩) ?_ ?_
 ·rintro i ys H' x H6 hi ⟨zs,rfl,hzl,hz,hall,hHD,hfz,kp⟩ ⟨rfl,ky,v,b,hk',hb,rfl⟩;obtain⟨x,hx,rfl,rfl⟩:∃x,rows[i]?=some x/\ky=kP x.1/\v=mV x.2:=by
   rw[Aq,Aq] at hk';cases e:rows[i]? with
   |none=>rw[e] at hk';cases hk'
   |some r=>rw[e] at hk';cases hk';exact⟨r,rfl,rfl,rfl⟩
  rw[q3i] at hb;have hxm:=As hx;refine⟨q4d,ht b x _ _ hxm hb hfz ?_⟩;have hcase:∀{zs':List Zp},(∀z∈zs,z∈zs')->(ch x=true->∃z∈zs',z.2=x.1)->∀y∈rows.take (i+1),ch y=true->∃z∈zs',z.2=y.1:=fun{zs'} s1 s2 y hy hc=>by
   rw[Bs,hx] at hy;rcases Aw.mp hy with hy|hy
   ·obtain⟨z,hz,e⟩:=hall y hy hc;exact⟨z,s1 z hz,e⟩
   ·cases Az.mp hy;exact s2 hc
  refine iteB (fun hc=>?_) (fun hc=>?_)
  ·refine⟨_,rfl,hHD,small' (by rw[Ac];lia),zs++[(b,x.1)],by rw[An];rfl,by rw[Ai];exact Jc hzl,fun z hz'=>?_,hcase (fun z hz=>Dc _ hz) (fun _=>⟨(b,x.1),by simp,rfl⟩),q0b,by rw[q0e hDm.symm];exact hfz,fun a u n e=>by rw[q0e (fun z=>by rw[z,hD1] at e;cases e)];exact kp a u n e⟩;have tk:∀S xs,H6 S=some (.tup xs)->upd H6 D (.lst (zs.map (fun z=>V.ref z.1)++[.ref b])) S=some (.tup xs):=fun S xs e=>by rw[q0e (fun z=>by rw[z,hHD] at e;cases e)];exact e
   rcases Aw.mp hz' with hz'|hz'
   ·exact⟨tk _ _ (hz z hz').1,(hz z hz').2⟩
   ·rw[Az.mp hz'];exact⟨tk _ _ hb,x,hxm,rfl,hc⟩
  ·exact⟨zs,rfl,Gw hzl,hz,hcase (fun z hz=>hz) (fun z=>by rw[hc] at z;cases z),hHD,hfz,kp⟩
 ·rintro ys H' ⟨zs,rfl,hzl,hz,hall,hHD,hfz,kp⟩;rw[Bi] at hall;exact k zs H' hz hall hzl hHD hfz kp
theorem foldR:∀{rs acc:List HRow},((acc++rs).map (·.1)).Nodup->rs.foldl putR (acc.map fun r=>(kP r.1,r.2))=(acc++rs).map fun r=>(kP r.1,r.2)
 |[],acc,_=>by rw[Bt];rfl
 |r::rs,acc,nd=>by
  have e:acc++r::rs=(acc++[r])++rs:=by rw[Cg];rfl
  show rs.foldl putR (putK (acc.map fun r=>(kP r.1,r.2)) (kP r.1) r.2)=_;rw[q5l (p:=r.1) (v:=r.2) fun x hx z=>by
   rw[An,Ap] at nd;exact(Ny.mp nd).2.2 _ (Al.mpr ⟨x,hx,rfl⟩) _ Ao z]
  rw[e] at nd ⊢;exact foldR nd
theorem z8w{bl:Bool}{zs:List Zr}(hl:Hl bl (zs.map (·.2))):HO.dT ((zs.map fun z=>rR z.2).foldl putR [])=dR ((zs.map (·.2)).map rR):=by
 have er:(zs.map fun z=>rR z.2)=(zs.map (·.2)).map rR:=by rw[Ba];rfl
 have nd2:(((zs.map (·.2)).map rR).map (·.1)).Nodup:=by rw[Ba];exact hl.paths
 rw[er];exact congrArg HO.dT (foldR (acc:=[]) nd2)
theorem z1v{c x dx d:Addr}{H1 H':Hp}(hx:H1 x=none)(hdx:H1 dx=none)(hd:upd (upd H1 dx (.own x)) x (.ins c dx []) d=none)(k:∀a u,a≠x->upd (upd H1 dx (.own x)) x (.ins c dx []) a=some u->H' a=some u):Same H1 H'/\H1 d=none:=by
 refine⟨fun a u e=>k a u (fun z=>by rw[z,hx] at e;cases e) ?_,?_⟩
 ·rw[q0e (fun z=>by rw[z,hx] at e;cases e),q0e (fun z=>by rw[z,hdx] at e;cases e)];exact e
 ·have h1:d≠x:=fun z=>by rw[z,q0b] at hd;cases hd
  rw[q0e h1] at hd;have h2:d≠dx:=fun z=>by rw[z,q0b] at hd;cases hd
  rw[q0e h2] at hd;exact hd
theorem z8x{c x dx L:Addr}{H1:Hp}{zs:List Zr}(h:RL H1 L zs)(hx:H1 x=none)(hdx:H1 dx=none):RL (upd (upd H1 dx (.own x)) x (.ins c dx [])) L zs:=h.same fun a u e=>by
 rw[q0e (fun z=>by rw[z,hx] at e;cases e),q0e (fun z=>by rw[z,hdx] at e;cases e)];exact e
theorem z0d{c a b h d:Addr}{bl:Bool}{rows:List Rw}{H H':Hp}(x:HallAt c H h d bl rows)(F:FeedAt H a b)(fd:Fd a b H H'):HallAt c H' h d bl rows:=by
 obtain⟨i,j,q⟩:=F.fa;exact⟨x.i.imp fun dx e=>fd.at e fun z=>by(rw[z,q] at e;cases e),fd.at x.d fun z=>by have e:=x.d;rw[z,q] at e;cases e⟩
theorem x4m{a b m:Addr}{rs:List HRow}{H H':Hp}(x:H m=some (dR rs))(F:FeedAt H a b)(fd:Fd a b H H'):H' m=some (dR rs):=by
 obtain⟨i,j,q⟩:=F.fa;exact fd.at x fun z=>by rw[z,q] at x;cases x
structure CallsC (P:Program) (w:World) (K:Ah) (mg:Str->Option Value) (base:Heap) (c:Addr):Prop where
 m_rows:MCal P w K mg base c "rows" 2 ["self"] (spHRows c)
 m_is_blind:MCal P w K mg base c "is_blind" 1 ["self"] (spBlind c)
 k_Hall:KCal P w K mg base c "Hall" 4 ["self", "rows", "blind"] (spInit c)
def spCopied(c:Addr):Sp:=fun vs H Q _=>∃h d bl rows,vs=[.ref h]/\HallAt c H h d bl rows/\Hl bl rows/\rows.length<=60/\∀h' d' rows' H',Same H H'->H h'=none->HallAt c H' h' d' bl rows'->rows'.Perm rows->Q (.ref h') H'
abbrev q8a:Stmt:=top 39
theorem z8y:FnScope ["hall"] ["hall"] (defScope q8a):=by trivial
theorem z8z{c:Addr}(D:Df K mg "copied" q8a ["hall"])(T:Txt mg)(C:CallsC P w K mg base c):Cal P w K mg base "copied" 6 ["hall"] (spCopied c):=by
 refine D.cal z8y (fun vs H Q E h=>?_) (fun f cdv A outer s H vs Q E hr h=>?_)
 ·obtain⟨h,d,bl,rows,rfl,_⟩:=h;rfl
 ·obtain⟨h,d,bl,rows,rfl,hh,hl,h60,k⟩:=h;refine⟨_,(q0f (q0j (pe_k C.k_Hall hr (q0a (q4s C.m_rows hr (pv 0)) (q0a (q4s C.m_is_blind hr (pv 0)) q0c))))),?_⟩;obtain⟨dx,hi⟩:=hh.i;refine⟨_,rfl,h,dx,_,rfl,hi,rfl,h,d,bl,rows,rfl,hh,by lia,fun r hr=>(hl.ok r hr).low,fun L zs H1 hL s1 rl1 pm1 pw1=>?_⟩;have hh1:=hh.same s1;refine⟨_,rfl,h,dx,_,rfl,s1 _ _ hi,rfl,h,d,bl,rows,rfl,hh1,fun x dx' hx hdx n=>?_⟩;have hl1:Hl bl (zs.map (·.2)):=hl.perm pm1;refine⟨x,dx',L,bl,zs,rfl,q0b,z8x rl1 hx hdx,hl1,by have:=pm1.length_eq;rw[Ac] at this;lia,fun d' H2 hd i1 i2 i3=>⟨rfl,?_⟩⟩;obtain⟨s2,_⟩:=z1v hx hdx hd i3;exact k x d' _ H2 (s1.trans s2) (s1.free hx) ⟨⟨dx',i1⟩,i2⟩ pm1
structure CallsM (P:Program) (w:World) (K:Ah) (mg:Str->Option Value) (base:Heap) (c:Addr):Prop where
 m_move:MCal P w K mg base c "move" 4 ["self", "path", "place"] (spMove c)
def spMade(c:Addr):Sp:=fun vs H Q _=>∃h d a b bl rows p q,vs=[.ref h,.ref a,.ref b]/\HallAt c H h d bl rows/\rows.length<=60/\H a=some (.tup (vP p))/\H b=some (.tup (vP q))/\Mvd bl rows p q /\
 ∀D H',H D=none->(∀x u,x≠h->H x=some u->H' x=some u)->HallAt c H' h D bl (rows.map (cR p q))->Q (.bl true) H'
abbrev q5x:Stmt:=top 40
theorem z5s:FnScope ["hall", "path", "place"] ["hall", "path", "place"] (defScope q5x):=by trivial
theorem z5t{c:Addr}(D:Df K mg "is_made" q5x ["hall", "path", "place"])(T:Txt mg)(C:CallsM P w K mg base c):Cal P w K mg base "is_made" 5 ["hall", "path", "place"] (spMade c):=by
 refine D.cal z5s (fun vs H Q E h=>?_) (fun f cdv A outer s H vs Q E hr h=>?_)
 ·obtain⟨h,d,a,b,bl,rows,p,q,rfl,_⟩:=h;rfl
 ·obtain⟨h,d,a,b,bl,rows,p,q,rfl,hh,h60,ha,hb,mv,k⟩:=h;refine⟨_,(q0d (z8c rfl (q0f (q1c (pe_m C.m_move hr (pv 0) (q0a (pv 1) (q0a (pv 2) q0c)))))) (q0f (q0j q3d))),?_⟩;obtain⟨dx,hi⟩:=hh.i;obtain⟨mk0,hp,par⟩:=mv.m;refine⟨_,rfl,h,dx,_,rfl,hi,rfl,_,rfl,_,rfl,h,d,a,b,bl,rows,p,q,mk0,rfl,hh,mv.hl,h60,ha,hb,hp,par,mv.ne,mv.fr,mv.moved.paths,fun D1 H4 hD1 kp hall4=>?_⟩;exact k D1 H4 hD1 kp hall4
structure CallsW (P:Program) (w:World) (K:Ah) (mg:Str->Option Value) (base:Heap) (c:Addr):Prop where
 copied:Cal P w K mg base "copied" 6 ["hall"] (spCopied c)
 is_made:Cal P w K mg base "is_made" 5 ["hall", "path", "place"] (spMade c)
def spWalk(c:Addr):Sp:=fun vs H Q _=>∃h d L bl rows zs,vs=[.ref h,.ref L]/\HallAt c H h d bl rows/\rows.length<=60/\ML H L zs/\WkOk bl rows (zs.map (·.2)) /\
 ∀h' d' rows' H',Same H H'->H h'=none->HallAt c H' h' d' bl rows'->rows'.Perm (wk rows (zs.map (·.2)))->Q (.ref h') H'
abbrev z3b:Stmt:=top 41
theorem sc_walk:FnScope ["hall", "row", "walked", "at", "path", "place"] ["hall", "row"] (defScope z3b):=by trivial
theorem x4n{c:Addr}(D:Df K mg "walk" z3b ["hall", "row"])(T:Txt mg)(C:CallsW P w K mg base c):Cal P w K mg base "walk" 7 ["hall", "row"] (spWalk c):=by
 refine D.cal sc_walk (fun vs H Q E h=>?_) (fun f cdv A outer s H vs Q E hr h=>?_)
 ·obtain⟨h,d,L,bl,rows,zs,rfl,_⟩:=h;rfl
 ·obtain⟨h,d,L,bl,rows,zs,rfl,hh,h60,ml,ok,k⟩:=h;refine⟨_,(q0d (q0m (i:=2) sc_walk.nd rfl (by trivial) (pe_c C.copied hr (q0a (pv 0) q0c))) (q0d (q3b Cr rfl (@x2k _ _ _ _ _ _ _ _ K rfl rfl T.b_enumerate (q0a (pv 1) q0c) (by rfl)) (@q1w _ _ _ _ (2) _ K rfl rfl (q0l (q0i (i:=3) sc_walk.nd rfl (by trivial)) (q0l (@q1w _ _ _ _ (2) _ K rfl rfl (q0l (q0i (i:=4) sc_walk.nd rfl (by trivial)) (q0l (q0i (i:=5) sc_walk.nd rfl (by trivial)) q1j)) (by rfl) (by rfl)) q1j)) (by rfl) (by rfl)) (q0f (q0v (q3a (@q2k _ _ _ K rfl (pe_c C.is_made hr (q0a (pv 2) (q0a (pv 4) (q0a (pv 5) q0c)))) (fun _=>rfl))) (q0f q2a) q0k))) (q0f (q0j (pv 2))))),?_⟩;refine⟨_,rfl,h,d,bl,rows,rfl,hh,ok.hd,h60,fun h' d0 rows0 H1 s1 hh' hall1 pm1=>?_⟩;refine⟨_,rfl,.inr ⟨L,_,rfl,SqL.of (s1 _ _ ml.at_),?_⟩⟩;refine z1l (fun i σ' H2=>∃x3 x4 x5 d' rows',σ'=[some (.ref h),some (.ref L),some (.ref h'),x3,x4,x5]/\Same H H2/\HallAt c H2 h' d' bl rows'/\rows'.Perm (wk rows ((zs.map (·.2)).take i))) ⟨none,none,none,d0,rows0,rfl,s1,hall1,pm1⟩ (fun i σ' H2 h=>by obtain⟨_,_,_,_,_,_,s2,_⟩:=h;exact SqL.of (s2 _ _ ml.at_)) ?_ ?_
  ·rintro i v T' σ' H2 hv ⟨x3,x4,x5,d',rows',rfl,s2,hall2,pm2⟩ hT;obtain⟨z,hz,rfl⟩:=gR0 hv
   have sT:=(Same.refl H2).new (o:=.tup [.int i,.ref z.1]) hT;obtain⟨A1,B1,g1,g2,g3⟩:=((ml.same s2).same sT).pr z (As hz);have hzr:(zs.map (·.2))[i]?=some z.2:=by rw[Aq,hz];rfl
   have e1:(zs.map (·.2)).take (i+1)=(zs.map (·.2)).take i++[z.2]:=by rw[Bs,hzr];rfl
   have mv0:Mvd bl (wk rows ((zs.map (·.2)).take i)) z.2.1 z.2.2:=by
    have:=(ok.take (i+1)).1;rw[e1] at this;exact(WkOk.app.mp this).2.1
   have mv:=mv0.perm pm2;refine⟨T',_,rfl,SqT.of q0b,rfl,_,_,rfl,_,_,rfl,z.1,_,rfl,SqT.of g1,rfl,_,_,rfl,_,_,rfl,rfl,rfl,?_⟩;have hall3:=hall2.same sT;have s3:=s2.trans sT;refine⟨_,rfl,_,rfl,_,rfl,h',d',A1,B1,bl,rows',z.2.1,z.2.2,rfl,hall3,by rw[pm2.length_eq,q5k];exact h60,g2,g3,mv,fun D1 H4 hD1 kp hall4=>⟨true,rfl,iteF ?_⟩⟩;refine⟨_,_,_,D1,_,rfl,fun x u e=>kp x u (fun y=>by rw[y,hh'] at e;cases e) (s3 _ _ e),hall4,?_⟩;rw[e1,q9v];exact pm2.map _
  ·rintro σ' H2 ⟨x3,x4,x5,d',rows',rfl,s2,hall2,pm2⟩;rw[Ac,<- Ac (f:=fun z:Zm=>z.2),Bi] at pm2;exact⟨_,rfl,k h' d' rows' H2 s2 hh' hall2 pm2⟩
theorem z9a{a:Addr}{xs:List V}{te:TE}{r:St}{D:Addr}{Fin:List V->Hp->Prop}{H1:Hp}(Pv:Nat->List V->Hp->Prop)(h0:Pv 0 [] (upd H1 D (.lst [])))(hl:∀i ys H,Pv i ys H->H D=some (.lst ys)/\SqL K H a xs)(hs:∀i ys H x,xs.reverse[i]?=some x->Pv i ys H->∃T v w,x=.ref T/\SqT K H T [v,w]/\te (some v::some w::r) H fun u H4=>H4 D=some (.lst ys)/\ys.length<sizeLine/\Pv (i+1) (ys++[u]) (upd H4 D (.lst (ys++[u]))))(hd:∀ys H,Pv xs.length ys H->Fin ys H):CompW (Itv K a xs.length) (gTup K 2 (gCons (gName 0) (gCons (gName 1) gNil))) tIf0 te (none::none::r) D Fin H1 :=
 q7f (n:=xs.length) Pv h0 (fun i ys H p=>(hl i ys H p).1) (fun i ys H h p=>⟨xs,xs.reverse[i]'(by simpa using h),(hl i ys H p).2,rfl,Cu _⟩) (fun ys H p=>Aj _)
  (fun i ys H x H' h p y=>by
   obtain⟨e,y⟩:=y;subst e;obtain⟨T,v,w,rfl,hT,q⟩:=hs i ys _ x (y xs (hl i ys _ p).2) p;refine⟨T,_,rfl,hT,rfl,_,_,rfl,_,_,rfl,rfl,q1x,?_⟩;exact iteT (B:=Pv (i+1) ys H') q) hd
def spTurned:Sp:=fun vs H Q _=>∃L zs,vs=[.ref L]/\ML H L zs/\zs.length<=2000/\∀L' zs' H',H L'=none->Same H H'->ML H' L' zs'->zs'.map (·.2)=tb (zs.map (·.2))->Q (.ref L') H'
abbrev q2o:Stmt:=top 42
theorem q8h:FnScope ["row"] ["row"] (defScope q2o):=by trivial
theorem q8i(D:Df K mg "turned_back" q2o ["row"])(T:Txt mg):Cal P w K mg base "turned_back" 1 ["row"] spTurned:=by
 refine D.cal q8h (fun vs H Q E h=>?_) (fun f cdv A outer s H vs Q E hr h=>?_)
 ·obtain⟨L,zs,rfl,_⟩:=h;rfl
 ·obtain⟨L,zs,rfl,ml,hml,k⟩:=h;refine⟨_,(q0f (q0j (q1s ["path", "place"] [] rfl (@rev_k _ _ _ _ _ _ K rfl rfl T.b_reversed (q0a (pv 0) q0c) (by rfl)) (fun _ _ _ _ _=>(@q1w _ _ _ _ (2) _ K rfl rfl (q0l (q0i (i:=0) (show(["path", "place"]:List Str).Nodup by decide +kernel) rfl (by trivial)) (q0l (q0i (i:=1) (show(["path", "place"]:List Str).Nodup by decide +kernel) rfl (by trivial)) q1j)) (by rfl) (by rfl))) (fun _ _ _ _ _=>q1r) (fun _ _ _ _ _=>(q0z (q0a (pv 1) (q0a (pv 0) q0c))))))),?_⟩;refine⟨_,rfl,L,_,rfl,ml.at_,fun D hD=>?_⟩;refine z9a (xs:=zs.map fun z=>V.ref z.1) (fun i ys H'=>∃us:List Zm,ys=us.map (fun z=>V.ref z.1)/\Same H H'/\ML H' D us/\us.map (·.2)=((zs.map (·.2)).reverse.take i).map (fun m=>(m.2,m.1))/\i<=zs.length) ⟨[],rfl,(Same.refl H).new hD,ML.nil q0b,by rw[Ga];rfl,Br _⟩ (fun i ys H' ⟨us,e,sm,hu,_⟩=>⟨by rw[e];exact hu.at_,SqL.of (sm _ _ ml.at_)⟩) ?_ ?_
  ·rintro i ys H' x hx ⟨us,rfl,sm,hu,hum,hi⟩;rw[<- Tt] at hx;obtain⟨z,hz,rfl⟩:=gR0 hx
   have hzm:z∈zs:=List.mem_reverse.mp (As hz);have hi':i<zs.length:=by have:=(Bb.mp hz).1;simpa using this
   obtain⟨A1,B1,g1,g2,g3⟩:=(ml.same sm).pr z hzm;have hul:us.length<=zs.length:=by
    have:=congrArg List.length hum;rw[Ac,Ac,Bf] at this;lia
   refine⟨z.1,.ref A1,.ref B1,rfl,SqT.of g1,_,rfl,_,rfl,by show 2<=sizeLine;decide,fun T2 hT2=>?_⟩;have sT:=(Same.refl H').new (o:=.tup [.ref B1,.ref A1]) hT2;have hu2:=hu.same sT;have kt:∀S xs,upd H' T2 (.tup [.ref B1,.ref A1]) S=some (.tup xs)->upd (upd H' T2 (.tup [.ref B1,.ref A1])) D (.lst (us.map (fun z=>V.ref z.1)++[.ref T2])) S=some (.tup xs):=fun S xs e=>by rw[q0e (fun y=>by have:=hu2.at_;rw[<- y,e] at this;cases this)];exact e
   refine⟨hu2.at_,small' (by rw[Ac];lia),us++[(T2,(z.2.2,z.2.1))],by rw[An];rfl,(sm.new hT2).put hD,⟨by rw[An];exact q0b,fun y hy=>?_⟩,?_,hi'⟩
   ·rcases Aw.mp hy with hy|hy
    ·exact(hu2.pr y hy).keep kt
    ·rw[Az.mp hy];exact MT.keep (m:=(z.2.2,z.2.1)) ⟨B1,A1,q0b,sT _ _ g3,sT _ _ g2⟩ kt
   ·have e2:(zs.map (·.2)).reverse[i]?=some z.2:=by rw[<- Tt,Aq,hz];rfl
    rw[An,hum,Bs,e2,An];rfl
  ·rintro ys H' ⟨us,rfl,sm,hu,hum,hi⟩;refine k D us H' hD sm hu ?_;have e3:((zs.map (·.2)).reverse).length=(zs.map fun z=>V.ref z.1).length:=by simp
   rw[hum,<- e3,Bi];rfl
structure CallsDu (P:Program) (w:World) (K:Ah) (mg:Str->Option Value) (base:Heap):Prop where
 there:Cal P w K mg base "_law_there" 2 ["_law_marks", "_law_blind", "_law_place"] spThereL
def spDue:Sp:=fun vs H Q _=>∃m e t bl,∃rows:List Rw,∃p q mk0,vs=[.ref m,.bl bl,.ref e,.ref t]/\H m=some (dR (rows.map rR))/\Hl bl rows/\H e=some (.tup (vP p))/\H t=some (.tup (vP q))/\(p,mk0)∈rows/\okP q /\
 ∀v H',Same H H'->((v=.non/\Mvd bl rows p q)\/∃T,v=.ref T)->Q v H'
abbrev q4w:Stmt:=top 62
theorem sc_move_due:FnScope ["_law_marks", "_law_blind", "_law_path", "_law_place", "_law_there_here"] ["_law_marks", "_law_blind", "_law_path", "_law_place"] (defScope q4w):=by trivial
theorem ok_due(D:Df K mg "_law_move_due" q4w ["_law_marks", "_law_blind", "_law_path", "_law_place"])(T:Txt mg)(C:CallsDu P w K mg base):Cal P w K mg base "_law_move_due" 3 ["_law_marks", "_law_blind", "_law_path", "_law_place"] spDue:=by
 refine D.cal sc_move_due (fun vs H Q E h=>?_) (fun f cdv A outer s H vs Q E hr h=>?_)
 ·obtain⟨m,e,t,bl,rows,p,q,mk0,rfl,_⟩:=h;rfl
 ·obtain⟨m,e,t,bl,rows,p,q,mk0,rfl,hm,hl,he,ht,hp,okq,k⟩:=h;refine⟨_,(q0d (q0v (q2b (q5f (q2v hr) (pv 2) (pv 0))) (q0f (q0j (q0z (q0a q0t (q0a (pv 2) q0c))))) q0k) (q0d (q0v (pt_j (@PW.pt _ _ _ (q5a (q0o (ne_k K rfl hr) (q0s (sl_k K rfl) (pv 3) q0x (q0u (q2c q1e q0g))) (q0z q0c) (nomark _)) (q2u (q2b (q9d (x0t (q2v hr) (pv 0) (q0s (sl_k K rfl) (pv 3) q0x (q0u (q2c q1e q0g))) q0g ⟨rfl,rfl,rfl,rfl⟩))))))) (q0f (q0j (q0z (q0a q0t (q0a (q0s (sl_k K rfl) (pv 3) q0x (q0u (q2c q1e q0g))) q0c))))) q0k) (q0d (q0v (pt_j (@PW.pt _ _ _ (q5a (q2b (q4k (q4p (q2v hr) (pv 0) (pv 2) (fun _ _=>rfl)))) (q2u (q0o (ne_k K rfl hr) (q0s (sl_k K rfl) (pv 3) q0x (q0u (q2c q1e q0g))) (q0s (sl_k K rfl) (pv 2) q0x (q0u (q2c q1e q0g))) (nomark _)))))) (q0f (q0j (q0z (q0a q0t (q0a (pv 2) q0c))))) q0k) (q0d (q0m (i:=4) sc_move_due.nd rfl (by trivial) (pe_c C.there hr (q0a (pv 0) (q0a (pv 1) (q0a (pv 3) q0c))))) (q0d (q0v (pt_j (@PW.pt _ _ _ (q5b (q0o (eq_k K rfl hr) (pv 3) (pv 2) (nomark _)) (q3f (pt_j (@PW.pt _ _ _ (q5a (q2b (q9d (pv 4))) (q2u (q0o (ne_k K rfl hr) (pv 4) (pv 2) (nomark _)))))))))) (q0f (q0j (q0z (q0a q0t (q0a (pv 4) q0c))))) q0k) (q0f (q0j q3e))))))),?_⟩;have okp:okP p:=hl.ok _ hp;obtain⟨c1,c2⟩:=q2f okq.ne;obtain⟨p1,p2⟩:=q2f okp.ne;have hg:∀{H1:Hp},Same H H1->DGet H1 m (.ref e) (some (mV mk0)):=fun{H1} s1=>by rw[<- q4i hl.paths (p:=p) (m:=mk0) hp];exact q8y (s1 _ _ hm) (s1 _ _ he)
  refine⟨_,rfl,_,rfl,m,_,rfl,hg (Same.refl H),_,rfl,iteF ?_⟩;refine⟨fun bb H1=>Same H H1/\(bb=false->q.dropLast=[]\/(q.dropLast,none)∈rows),?_,?_⟩;rotate_left
  ·refine⟨_,rfl,_,rfl,_,rfl,.inr (.inr ⟨t,_,rfl,SqT.of ht,c2,fun u1 hu1=>?_⟩)⟩;rw[c1];have s1:=(Same.refl H).new (o:=.tup (vP q.dropLast)) hu1;refine⟨by show 0<=sizeLine;decide,fun e0 he0=>?_⟩;have s2:=(Same.refl (upd H u1 (.tup (vP q.dropLast)))).new (o:=.tup []) he0;have s12:=s1.trans s2;refine q2w (q:=[]) (s2 _ _ q0b) q0b (q2g okq.low) (fun _ h=>nomatch h) ⟨_,rfl,?_⟩;refine iteB (fun hb=>?_) (fun hb=>?_)
   ·have hne:q.dropLast≠[]:=by simpa using hb
    generalize upd (upd H u1 (.tup (vP q.dropLast))) e0 (.tup [])=H2 at s12;refine⟨_,rfl,m,rfl,isD_t (s12 _ _ hm),_,rfl,_,rfl,_,rfl,.inr (.inr ⟨t,_,rfl,SqT.of (s12 _ _ ht),c2,fun u2 hu2=>?_⟩)⟩;rw[c1];have s3:=(Same.refl H2).new (o:=.tup (vP q.dropLast)) hu2;have s13:=s12.trans s3;refine⟨_,q8y (s13 _ _ hm) q0b,_,rfl,s13,fun hz=>?_⟩;cases hv:valV ((rows.map rR).map fun r=>(kP r.1,r.2)) (kP q.dropLast) with
    |none=>rw[hv] at hz;simp at hz
    |some v =>
     rw[hv] at hz;obtain⟨mm,rfl,hmm⟩:=q6i hv;have e1:mV mm=.non:=by simpa using hz
     rw[mV_none.mp e1] at hmm;exact .inr hmm
   ·exact⟨s12,fun _=>.inl (by simpa using hb)⟩
  rintro bb H1 ⟨s1,hdr⟩;refine iteB (fun hb=>?_) (fun hb=>?_)
  ·refine⟨_,rfl,_,rfl,_,rfl,.inr (.inr ⟨t,_,rfl,SqT.of (s1 _ _ ht),c2,fun u1 hu1=>⟨by show 2<=sizeLine;decide,fun T1 hT1=>?_⟩⟩)⟩;exact k _ _ ((s1.new hu1).new hT1) (.inr ⟨T1,rfl⟩)
  have hdr:=hdr hb;refine⟨fun bb H2=>Same H H2/\(bb=false->mk0=none->q.dropLast=p.dropLast),?_,?_⟩;rotate_left
  ·refine⟨_,rfl,_,rfl,m,_,rfl,hg s1,_,rfl,?_⟩;refine iteB (fun hb=>?_) (fun hb=>?_)
   ·refine⟨_,rfl,_,rfl,_,rfl,.inr (.inr ⟨t,_,rfl,SqT.of (s1 _ _ ht),c2,fun u1 hu1=>?_⟩)⟩;rw[c1];have s2:=s1.new (o:=.tup (vP q.dropLast)) hu1;have hu1':upd H1 u1 (.tup (vP q.dropLast)) u1=some (.tup (vP q.dropLast)):=q0b;generalize upd H1 u1 (.tup (vP q.dropLast))=H2 at s2 hu1';refine⟨_,rfl,_,rfl,_,rfl,.inr (.inr ⟨e,_,rfl,SqT.of (s2 _ _ he),p2,fun u2 hu2=>?_⟩)⟩;rw[p1];have s3:=(Same.refl H2).new (o:=.tup (vP p.dropLast)) hu2;refine q2w (s3 _ _ hu1') q0b (q2g okq.low) (q2g okp.low) ⟨_,rfl,s2.trans s3,fun hz _=>by simpa using hz⟩
   ·exact⟨s1,fun _ hn=>absurd (mV_none.mpr hn) (of_decide_eq_false hb)⟩
  rintro bb H2 ⟨s2,hpar⟩;refine iteB (fun hb=>?_) (fun hb=>?_)
  ·exact⟨_,rfl,by show 2<=sizeLine;decide,fun T1 hT1=>k _ _ (s2.new hT1) (.inr ⟨T1,rfl⟩)⟩
  have hpar:=hpar hb;refine⟨_,rfl,_,rfl,_,rfl,m,t,bl,rows,q,rfl,s2 _ _ hm,s2 _ _ ht,okq,hl.ok,fun H3 ov s3 hov=>?_⟩;have s23:=s2.trans s3;refine⟨fun bb H4=>H4=H3/\(bb=true->ov=.non\/∃c,ov=.ref c)/\(bb=false->q≠p/\∀r∈rows,fold bl r.1=fold bl q->r.1=p),?_,?_⟩
  ·rintro bb H4 ⟨rfl,hT,hb⟩;refine iteB (fun e1=>?_) (fun e1=>?_)
   ·exact⟨_,rfl,by show 2<=sizeLine;decide,fun T1 hT1=>k _ _ (s23.new hT1) (.inr ⟨T1,rfl⟩)⟩
   ·obtain⟨h1,h2⟩:=hb e1;exact k _ _ s23 (.inl ⟨rfl,hl,⟨mk0,hp,hpar⟩,h1,okq,hdr,h2⟩)
  refine⟨_,rfl,_,rfl,q1t (s23 _ _ ht) (s23 _ _ he) okq.low okp.low ⟨_,rfl,?_⟩⟩;have hov2:ov=.non\/∃c,ov=.ref c:=hov.imp (fun x=>x.1) fun⟨c,_,x,_⟩=>⟨c,x⟩
  refine iteB (fun e1=>⟨rfl,fun _=>hov2,fun z=>by cases z⟩) (fun e1=>?_);have hne:=of_decide_eq_false e1;refine⟨fun bb H10=>H10=H3/\(bb=true->ov=.non\/∃c,ov=.ref c)/\(bb=false->q≠p/\∀r∈rows,fold bl r.1=fold bl q->r.1=p),fun bb H10 x=>x,?_⟩;refine⟨_,rfl,_,rfl,?_⟩;rcases hov with⟨rfl,hno⟩|⟨c,r,rfl,hr,hf,hc⟩
  ·exact iteF ⟨rfl,fun _=>hov2,fun _=>⟨hne,fun r hr hf=>absurd hf (hno r hr)⟩⟩
  ·refine iteT ⟨_,rfl,_,rfl,q2w hc (s23 _ _ he) (hl.ok r hr).low okp.low ⟨_,rfl,rfl,fun _=>hov2,fun z=>⟨hne,fun r' hr' hf'=>?_⟩⟩⟩;have e2:r.1=p:=by simpa using z
   rw[<- e2,hl.eq hr' hr (hf'.trans hf.symm)]
structure CallsGo (P:Program) (w:World) (K:Ah) (mg:Str->Option Value) (base:Heap):Prop where
 draw:Cal P w K mg base "_law_draw" 1 ["_law_feed", "_law_many"] spDraw
 name:Cal P w K mg base "_law_name" 2 ["_law_feed"] spName
def spGoal:Sp:=fun vs H Q _=>∃a b m e bl,∃rows:List Rw,∃p mk0,vs=[.ref a,.ref m,.ref e]/\FeedAt H a b/\H m=some (dR (rows.map rR))/\Hl bl rows/\rows.length<=60/\H e=some (.tup (vP p))/\(p,mk0)∈rows /\
 ∀t q H',Fd a b H H'->H' t=some (.tup (vP q))->okP q->Q (.ref t) H'
abbrev z3c:Stmt:=top 63
theorem sc_goal:FnScope ["_law_feed", "_law_marks", "_law_path", "_law_drawers", "_law_names", "_law_name_here"] ["_law_feed", "_law_marks", "_law_path"] (defScope z3c):=by trivial
theorem x4o(D:Df K mg "_law_goal" z3c ["_law_feed", "_law_marks", "_law_path"])(T:Txt mg)(C:CallsGo P w K mg base):Cal P w K mg base "_law_goal" 3 ["_law_feed", "_law_marks", "_law_path"] spGoal:=by
 refine D.cal sc_goal (fun vs H Q E h=>?_) (fun f cdv A outer s H vs Q E hr h=>?_)
 ·obtain⟨a,b,m,e,bl,rows,p,mk0,rfl,_⟩:=h;rfl
 ·obtain⟨a,b,m,e,bl,rows,p,mk0,rfl,F,hm,hl,h60,he,hp,k⟩:=h;refine⟨_,(q0d (q0m (i:=3) sc_goal.nd rfl (by trivial) (q0p q0q (q2l (q0a (q0z q0c) q0c)) (q0h (z5n hr) (by rfl) T.b_sorted (by decide +kernel) (q0a (z8b H rfl (q1s ["_law_other"] [("_law_marks",1)] rfl (@z3u _ _ _ _ K rfl (pv 1)) (fun _ _ _ _ _=>(q0i (i:=0) (show(["_law_other", "_law_marks"]:List Str).Nodup by decide +kernel) rfl (by trivial))) (fun _ _ _ _ _=>(z2j (pt_j (@PW.pt _ _ _ (q5a (q2b (q4k (q4p (q2v hr) (pv 1) (pv 0) (fun _ _=>rfl)))) (q2u (q0o x3f (q0h (q1k K rfl) (by rfl) T.b_len Ax (q0a (pv 0) q0c)) q0g (nomark _)))))))) (fun _ _ _ _ _=>(pv 0)))) q0c)))) (q0d (q0m (i:=4) sc_goal.nd rfl (by trivial) (q2l (q0a (pe_c C.name hr (q0a (pv 0) q0c)) (q0a (@z2l _ _ _ _ _ _ _ _ _ K rfl By PySem.F.slot_str_upper PySem.F.type_str_upper x0m (q1a (ix_k K rfl) (pv 2) (q2c q1e q0g) (fun _ _=>rfl)) (by rfl) (by rfl)) (q0a (@z2l _ _ _ _ _ _ _ _ _ K rfl By Ih Ii q6n (q1a (ix_k K rfl) (pv 2) (q2c q1e q0g) (fun _ _=>rfl)) (by rfl) (by rfl)) (q0a (pe_c C.name hr (q0a (pv 0) q0c)) q0c)))))) (q0d (q0m (i:=5) sc_goal.nd rfl (by trivial) (q1a (ix_k K rfl) (pv 4) (pe_c C.draw hr (q0a (pv 0) (q0a q0g q0c))) (fun _ _=>rfl))) (q0d (q0v (pt_j (@PW.pt _ _ _ (q5b (q2b (q4k (q4p (q2v hr) (pv 1) (pv 2) (fun _ _=>rfl)))) (q3f (q0o (eq_k K rfl hr) (pe_c C.draw hr (q0a (pv 0) (q0a q0g q0c))) q0g (nomark _)))))) (q0f (q0j (q0p q5s (q0s (sl_k K rfl) (pv 2) q0x (q0u (q2c q1e q0g))) (q0z (q0a (pv 5) q0c))))) q0k) (q0f (q0j (q0p q5s (q1a (ix_k K rfl) (pv 3) (pe_c C.draw hr (q0a (pv 0) (q0a (q0h (q1k K rfl) (by rfl) T.b_len Ax (q0a (pv 3) q0c)) q0c))) (fun _ _=>rfl)) (q0z (q0a (pv 5) q0c))))))))),?_⟩;have okp:=hl.ok _ hp;replace okp:okP p:=okp;have hma:m≠a:=fun z=>by obtain⟨_,_,q⟩:=F.fa;rw[<- z,hm] at q;cases q
  refine⟨by show 0<=sizeLine;decide,fun t0 ht0=>⟨by show 1<=sizeLine;decide,fun L0 hL0=>?_⟩⟩;have s1:=((Same.refl H).new (o:=.tup []) ht0).new (o:=.lst [.ref t0]) hL0;have h0L:upd (upd H t0 (.tup [])) L0 (.lst [.ref t0]) L0=some (.lst [.ref t0]):=q0b;have h0t:upd (upd H t0 (.tup [])) L0 (.lst [.ref t0]) t0=some (.tup (vP [])):=by rw[q0e (fun z=>by rw[<- z,q0b] at hL0;cases hL0)];exact q0b
  generalize upd (upd H t0 (.tup [])) L0 (.lst [.ref t0])=H1 at s1 h0L h0t;refine⟨m,(fun o v e=>by rw[hm] at e;cases e),_,rfl,m,_,rfl,s1 _ _ hm,fun ob D hD=>?_⟩;refine z5r (H1:=H1) (rows:=rows) (ch:=fun x=>decide (x.2=none)&&decide (x.1.length<6)) (s1 _ _ hm) rfl hD (by lia) (fun c x H2 Q' hx hc hf q=>?_) (fun zs H2 hz _ hzl hHD hfz kp=>?_)
  ·refine⟨fun bb H3=>bb=(decide (x.2=none)&&decide (x.1.length<6))/\H3=H2,?_,?_⟩
   ·rintro bb H3 ⟨rfl,rfl⟩;exact q
   have hg:DGet H2 m (.ref c) (some (mV x.2)):=by rw[<- q4i hl.paths (p:=x.1) (m:=x.2) hx];exact x2s hf hc
   refine⟨_,rfl,_,rfl,m,_,rfl,hg,_,rfl,?_⟩;have e0:decide (mV x.2=.non)=decide (x.2=none):=decide_eq_decide.mpr mV_none;rw[e0];refine iteB (fun hb=>?_) (fun hb=>?_)
   ·refine⟨_,rfl,_,_,rfl,.inr ⟨_,SqT.of hc,rfl⟩,_,_,rfl,rfl,_,rfl,?_,rfl⟩;rw[hb,q1f,Nr];exact decide_eq_decide.mpr (by lia)
   ·exact⟨by rw[hb,Mt],rfl⟩
  have hDm:D≠m:=fun z=>by rw[z,q0b] at hD;cases hD
  have hthaw:Same H1 (upd H2 m (dR (rows.map rR))):=q2t (s1 _ _ hm) kp;have sA:=s1.trans hthaw;have hnm:∀z∈zs,z.1≠m:=fun z hz' y=>by have:=(hz z hz').1;rw[y,hfz] at this;cases this
  refine⟨ob,_,hfz,D,zs,rfl,by rw[q0e hDm];exact hHD,by lia,fun z hz'=>⟨by rw[q0e (hnm z hz')];exact(hz z hz').1,?_⟩,fun L2 zs2 hL2 perm _=>?_⟩
  ·obtain⟨x,hx,e1,_⟩:=(hz z hz').2;rw[<- e1];exact(hl.ok x hx).ne
  have s3:=(Same.refl (upd H2 m (dR (rows.map rR)))).new (o:=.lst (zs2.map fun z=>V.ref z.1)) hL2;have hzs2:∀z∈zs2,upd (upd H2 m (dR (rows.map rR))) L2 (.lst (zs2.map fun z=>V.ref z.1)) z.1=some (.tup (vP z.2))/\(z.2=[]\/okP z.2)/\z.2.length<6:=fun z hz'=>by
   have hzz:=perm.mem_iff.mp hz';refine⟨s3 _ _ (by rw[q0e (hnm z hzz)];exact(hz z hzz).1),?_⟩;obtain⟨x,hx,e1,e2⟩:=(hz z hzz).2;rw[Co] at e2;exact⟨.inr (by rw[<- e1];exact hl.ok x hx),by rw[<- e1];exact of_decide_eq_true e2.2⟩
  have hLL:upd (upd H2 m (dR (rows.map rR))) L2 (.lst (zs2.map fun z=>V.ref z.1)) L2=some (.lst (zs2.map fun z=>V.ref z.1)):=q0b;have sB:=sA.trans s3;have s1B:=hthaw.trans s3;generalize upd (upd H2 m (dR (rows.map rR))) L2 (.lst (zs2.map fun z=>V.ref z.1))=H3 at s3 hzs2 hLL sB s1B;have hz2l:zs2.length<=60:=by rw[perm.length_eq];lia
  refine .inr (.inr ⟨L0,L2,_,_,rfl,rfl,s1B _ _ h0L,hLL,by rw[Ac];exact small (by show 1+_<=_;lia),fun Ld hLd=>?_⟩);have s4:=(Same.refl H3).new (o:=.lst ([.ref t0]++zs2.map fun z=>V.ref z.1)) hLd;obtain⟨ds,hds,hdl⟩:∃ds:List Zp,[V.ref t0]++zs2.map (fun z=>V.ref z.1)=ds.map (fun z=>V.ref z.1)/\ds=(t0,[])::zs2:=⟨_,rfl,rfl⟩
  have hdp:∀z∈ds,upd H3 Ld (.lst ([.ref t0]++zs2.map fun z=>V.ref z.1)) z.1=some (.tup (vP z.2))/\(z.2=[]\/okP z.2)/\z.2.length<6:=fun z hz'=>by
   rw[hdl] at hz';rcases Bd.mp hz' with rfl|hz'
   ·exact⟨s4 _ _ (s1B _ _ h0t),.inl rfl,by show 0<6;decide⟩
   ·exact⟨s4 _ _ (hzs2 z hz').1,(hzs2 z hz').2⟩
  have hLd':upd H3 Ld (.lst ([.ref t0]++zs2.map fun z=>V.ref z.1)) Ld=some (.lst (ds.map fun z=>V.ref z.1)):=by rw[<- hds];exact q0b
  have sC:=sB.trans s4;have hdlen:0<ds.length/\ds.length<=61:=by rw[hdl,Bm];lia
  have hLdH:H Ld=none:=sB.free hLd;generalize upd H3 Ld (.lst ([.ref t0]++zs2.map fun z=>V.ref z.1))=H4 at s4 hdp hLd' sC;have fd4:Fd a b H H4:=(Fd.refl F).same sC;have hLda:Ld≠a:=(F.na hLdH).symm;clear s4 hds hdl sB s1B s3 hzs2 hLL sA hthaw kp hfz hHD hz s1 h0L h0t;have lnp:=q5t okp;refine⟨_,rfl,a,b,rfl,fd4.feed,fun n1 H5 okn1 fd5=>?_⟩;have fd45:=fd4.trans fd5;refine⟨_,rfl,_,rfl,.inr (.inl ⟨e,_,-1,_,rfl,rfl,SqT.of (tupFd F fd45 _ _ he),q4v okp.ne,rfl,_,rfl,rfl,small (by rw[q0r];have:=lnp.few;lia),?_⟩)⟩;refine⟨_,rfl,_,rfl,.inr (.inl ⟨e,_,-1,_,rfl,rfl,SqT.of (tupFd F fd45 _ _ he),q4v okp.ne,rfl,_,rfl,rfl,small (by rw[q0r];have:=lnp.few;lia),?_⟩)⟩;refine⟨_,rfl,a,b,rfl,fd45.feed,fun n2 H6 okn2 fd6=>⟨by show 4<=sizeLine;decide,fun N hN=>?_⟩⟩;have fd46:=fd45.trans fd6;rw[x1e lnp.low,z4g lnp.low];have hNN:upd H6 N (.lst [.str (mk n1),.str (mk (uppN (p.getLastD []))),.str (mk (lowN (p.getLastD []))),.str (mk n2)]) N=some (.lst [.str (mk n1),.str (mk (uppN (p.getLastD []))),.str (mk (lowN (p.getLastD []))),.str (mk n2)]):=q0b;have fd7:=fd46.same ((Same.refl H6).new (o:=.lst [.str (mk n1),.str (mk (uppN (p.getLastD []))),.str (mk (lowN (p.getLastD []))),.str (mk n2)]) hN);have hLd7:upd H6 N (.lst [.str (mk n1),.str (mk (uppN (p.getLastD []))),.str (mk (lowN (p.getLastD []))),.str (mk n2)]) Ld=some (.lst (ds.map fun z=>V.ref z.1)):=(Same.refl H6).new hN _ _ ((fd5.trans fd6).at hLd' hLda);have hNa:N≠a:=(F.na (fd46.free hN)).symm;have hdp7:∀z∈ds,upd H6 N (.lst [.str (mk n1),.str (mk (uppN (p.getLastD []))),.str (mk (lowN (p.getLastD []))),.str (mk n2)]) z.1=some (.tup (vP z.2))/\(z.2=[]\/okP z.2)/\z.2.length<6:=fun z hz=>⟨(Same.refl H6).new hN _ _ (tupFd fd4.feed (fd5.trans fd6) _ _ (hdp z hz).1),(hdp z hz).2⟩
  generalize upd H6 N _=H7 at hNN fd7 hLd7 hdp7;refine⟨_,rfl,_,rfl,a,b,_,rfl,fd7.feed,by decide,by decide,fun r1 H8 r10 r11 fd8=>?_⟩;have hat:∃nn:List Nat,atI [V.str (mk n1),V.str (mk (uppN (p.getLastD []))),V.str (mk (lowN (p.getLastD []))),V.str (mk n2)] r1=some (.str (mk nn))/\okN nn:=by
   have e:r1=0\/r1=1\/r1=2\/r1=3:=by lia
   rcases e with rfl|rfl|rfl|rfl
   ·exact⟨n1,rfl,okn1⟩
   ·exact⟨_,rfl,lnp.up⟩
   ·exact⟨_,rfl,lnp.lo⟩
   ·exact⟨n2,rfl,okn2⟩
  obtain⟨nn,hat,oknn⟩:=hat;refine .inl ⟨N,_,r1,_,rfl,rfl,SqL.of (fd8.at hNN hNa),hat,?_⟩;have fd78:=fd7.trans fd8;have hm8:=x4m hm F fd78;refine⟨fun bb H9=>Fd a b H8 H9,?_,?_⟩;rotate_left
  ·have hg:DGet H8 m (.ref e) (some (mV mk0)):=by rw[<- q4i hl.paths (p:=p) (m:=mk0) hp];exact q8y hm8 (tupFd F fd78 _ _ he)
   refine⟨_,rfl,_,rfl,m,_,rfl,hg,_,rfl,?_⟩;refine iteB (fun hb=>Fd.refl fd78.feed) (fun hb=>?_);exact⟨_,rfl,a,b,_,rfl,fd78.feed,by decide,by decide,fun r2 H9 r20 r21 fd9=>.inl ⟨rfl,_,rfl,fd9⟩⟩
  rintro bb H9 fd9;have fd79:=fd78.trans fd9;have he9:=tupFd F fd79 _ _ he;refine iteB (fun hb=>?_) (fun hb=>?_)
  ·obtain⟨c1,c2⟩:=q2f okp.ne;have hpl:p.dropLast.length<6:=by rw[Cq];have:=okp.few;have:=Bo.mpr okp.ne;lia
   refine⟨_,rfl,_,rfl,_,rfl,.inr (.inr ⟨e,_,rfl,SqT.of he9,c2,fun u1 hu1=>?_⟩)⟩;rw[c1];have sa:=(Same.refl H9).new (o:=.tup (vP p.dropLast)) hu1;refine⟨_,rfl,by show 1<=sizeLine;decide,fun u2 hu2=>?_⟩;have sb:=sa.new (o:=.tup [.str (mk nn)]) hu2;refine⟨u1,u2,_,_,rfl,rfl,by rw[q0e (fun z=>by subst z;rw[q0b] at hu2;cases hu2)];exact q0b,q0b,by rw[q1f];exact small (by show _+1<=_;lia),fun u3 H10 sc hu3 _=>?_⟩;refine k u3 (p.dropLast++[nn]) H10 (fd79.same (sb.trans sc)) ?_ (okP.snoc ((hl.dr _ hp).imp id fun y=>hl.ok _ y) hpl oknn);rw[hu3,z4m];rfl
  ·have hLd9:=fd9.at (fd8.at hLd7 hLda) hLda;refine⟨_,rfl,_,rfl,_,rfl,_,_,rfl,.inl ⟨_,SqL.of hLd9,rfl⟩,a,b,_,rfl,fd79.feed,by rw[Ac];lia,by rw[Ac];lia,fun r3 H10 r30 r31 fd10=>?_⟩;rw[Ac] at r31;obtain⟨v,hv1,hv2⟩:=q7j (xs:=ds.map fun z=>V.ref z.1) r30 (by rw[Ac];exact r31);obtain⟨z,hz,rfl⟩:∃z∈ds,v=V.ref z.1:=by
    rw[Aq] at hv1;cases e:ds[r3.toNat]? with
    |none=>rw[e] at hv1;cases hv1
    |some z=>rw[e] at hv1;cases hv1;exact⟨z,As e,rfl⟩
   refine .inl ⟨Ld,_,r3,_,rfl,rfl,SqL.of (fd10.at hLd9 hLda),hv2,?_⟩;obtain⟨zt,zd,zl⟩:=hdp7 z hz;have fdz:=(fd8.trans fd9).trans fd10;refine⟨_,rfl,by show 1<=sizeLine;decide,fun u2 hu2=>?_⟩;have sb:=(Same.refl H10).new (o:=.tup [.str (mk nn)]) hu2;refine⟨z.1,u2,_,_,rfl,rfl,sb _ _ (tupFd fd7.feed fdz _ _ zt),q0b,by rw[q1f];exact small (by show _+1<=_;lia),fun u3 H11 sc hu3 _=>?_⟩;refine k u3 (z.2++[nn]) H11 ((fd79.trans fd10).same (sb.trans sc)) ?_ (okP.snoc zd zl oknn);rw[hu3,z4m];rfl
theorem zp_of{H:Hp}:∀{bs:List Addr} {ps:List Pth},Cz (fun b p=>H b=some (.tup (vP p))) bs ps->∃zs:List Zp,bs.map V.ref=zs.map (fun z=>V.ref z.1)/\zs.map (·.2)=ps/\∀z∈zs,H z.1=some (.tup (vP z.2))
 |_,_,.nil=>⟨[],rfl,rfl,fun _ h=>nomatch h⟩
 |b::bs,p::ps,.cons h t=>by
  obtain⟨zs,z1,z2,z3⟩:=zp_of t;refine⟨(b,p)::zs,by rw[Ap,z1];rfl,by rw[Ap,z2],fun z hz=>?_⟩;rcases Bd.mp hz with rfl|hz
  ·exact h
  ·exact z3 z hz
structure StAt (H:Hp) (S:Addr) (ds:List Addr) (rows:List Rw) (ms:List Mv):Prop where
 at_:H S=some (.lst (ds.map V.ref))
 len:ds.length=ms.length+1
 pr:∀(i:Nat) (d:Addr),ds[i]?=some d->H d=some (dR ((wk rows (ms.take i)).map rR))
theorem StAt.same{H H':Hp}{S:Addr}{ds:List Addr}{rows:List Rw}{ms:List Mv}(x:StAt H S ds rows ms)(s:Same H H'):StAt H' S ds rows ms:=⟨s _ _ x.at_,x.len,fun i d e=>s _ _ (x.pr i d e)⟩
theorem StAt.fd{a b:Addr}{H H':Hp}{S:Addr}{ds:List Addr}{rows:List Rw}{ms:List Mv}(x:StAt H S ds rows ms)(F:FeedAt H a b)(fd:Fd a b H H')(hS:S≠a):StAt H' S ds rows ms:=⟨fd.at x.at_ hS,x.len,fun i d e=>x4m (x.pr i d e) F fd⟩
theorem z3d{ds:List Addr}{i:Nat}{d:Addr}(h:ds[i]?=some d):atI (ds.map V.ref) i=some (.ref d):=by
 have hi:=(Bb.mp h).1;obtain⟨x,h1,h2⟩:=q7j (xs:=ds.map V.ref) (i:=(i:Int)) (by lia) (by rw[Ac];lia);rw[h2,<- h1];show(ds.map V.ref)[i]?=_;rw[Aq,h];rfl
theorem StAt.last{H:Hp}{S:Addr}{ds:List Addr}{rows:List Rw}{ms:List Mv}(x:StAt H S ds rows ms):∃d,atI (ds.map V.ref) (-1)=some (.ref d)/\H d=some (dR ((wk rows ms).map rR))/\ds[ms.length]?=some d:=by
 have hl:ms.length<ds.length:=by rw[x.len];lia
 have e:ds[ms.length]?=some (ds[ms.length]):=Cu hl;refine⟨_,?_,?_,e⟩
 ·unfold atI ixN;rw[if_neg (by decide),if_pos (by rw[Ac];lia)];have e2:((-1:Int)+((ds.map V.ref).length:Int)).toNat=ms.length:=by rw[Ac,x.len];lia
  show(ds.map V.ref)[((-1:Int)+((ds.map V.ref).length:Int)).toNat]?=_;rw[e2,Aq,e];rfl
 ·have:=x.pr _ _ e;rw[Bi] at this;exact this
structure CallsRo (P:Program) (w:World) (K:Ah) (mg:Str->Option Value) (base:Heap):Prop where
 draw:Cal P w K mg base "_law_draw" 1 ["_law_feed", "_law_many"] spDraw
 goal:Cal P w K mg base "_law_goal" 3 ["_law_feed", "_law_marks", "_law_path"] spGoal
 move_due:Cal P w K mg base "_law_move_due" 3 ["_law_marks", "_law_blind", "_law_path", "_law_place"] spDue
 moved:Cal P w K mg base "_law_moved" 1 ["_law_marks", "_law_path", "_law_place"] spMoved
structure RoI (H:Hp) (a b:Addr) (bl:Bool) (mrows:List Rw) (i:Nat) (H':Hp) (R S:Addr) (zs:List Zm) (ds:List Addr):Prop where
 fd:Fd a b H H'
 rn:H R=none
 sn:H S=none
 rs:R≠S
 r:ML H' R zs
 s:StAt H' S ds mrows (zs.map (·.2))
 ok:WkOk bl mrows (zs.map (·.2))
 len:zs.length<=i
theorem RoI.same{H:Hp}{a b:Addr}{bl:Bool}{mrows:List Rw}{i:Nat}{H' H2:Hp}{R S:Addr}{zs:List Zm}{ds:List Addr}(x:RoI H a b bl mrows i H' R S zs ds)(s:Same H' H2):RoI H a b bl mrows i H2 R S zs ds:=⟨x.fd.same s,x.rn,x.sn,x.rs,x.r.same s,x.s.same s,x.ok,x.len⟩
theorem RoI.go{H:Hp}{a b:Addr}{bl:Bool}{mrows:List Rw}{i:Nat}{H' H2:Hp}{R S:Addr}{zs:List Zm}{ds:List Addr}(x:RoI H a b bl mrows i H' R S zs ds)(F:FeedAt H a b)(fd:Fd a b H' H2):RoI H a b bl mrows i H2 R S zs ds :=
 ⟨x.fd.trans fd,x.rn,x.sn,x.rs,x.r.fd x.fd.feed fd (F.na x.rn).symm,x.s.fd x.fd.feed fd (F.na x.sn).symm,x.ok,x.len⟩
def spRow:Sp:=fun vs H Q _=>∃a b m bl,∃mrows:List Rw,∃n:Int,vs=[.ref a,.ref m,.bl bl,.int n]/\FeedAt H a b/\H m=some (dR (mrows.map rR))/\Hl bl mrows/\mrows.length<=60/\0<=n/\n<=20 /\
 ∀T R S zs ds H',RoI H a b bl mrows 20 H' R S zs ds->H' T=some (.tup [.ref R,.ref S])->H T=none->Q (.ref T) H'
abbrev z9b:Stmt:=top 64
theorem sc_row:FnScope ["_law_feed", "_law_marks", "_law_blind", "_law_most", "_law_row_here", "_law_stands", "_law_k", "_law_paths", "_law_path", "_law_place"] ["_law_feed", "_law_marks", "_law_blind", "_law_most"] (defScope z9b):=by trivial
theorem ok_row(D:Df K mg "_law_row" z9b ["_law_feed", "_law_marks", "_law_blind", "_law_most"])(T:Txt mg)(C:CallsRo P w K mg base):Cal P w K mg base "_law_row" 4 ["_law_feed", "_law_marks", "_law_blind", "_law_most"] spRow:=by
 refine D.cal sc_row (fun vs H Q E h=>?_) (fun f cdv A outer s H vs Q E hr h=>?_)
 ·obtain⟨a,b,m,bl,mrows,n,rfl,_⟩:=h;rfl
 ·obtain⟨a,b,m,bl,mrows,n,rfl,F,hm,hl,h60,n0,n1,k⟩:=h;refine⟨_,(q0d (q0m (i:=4) sc_row.nd rfl (by trivial) (q2l q0c)) (q0d (q0m (i:=5) sc_row.nd rfl (by trivial) (q2l (q0a (pv 1) q0c))) (q0d (q3b Cr rfl (q1p rfl T.b_range (q0a (pe_c C.draw hr (q0a (pv 0) (q0a (q0p q0q (pv 3) q0g) q0c))) q0c)) (q0i (i:=6) sc_row.nd rfl (by trivial)) (q0d (q0m (i:=7) sc_row.nd rfl (by trivial) (q0h (q8v hr) (by rfl) T.b_sorted (by decide +kernel) (q0a (q1a (ix_k K rfl) (pv 5) (q2c q1e q0g) (fun _ _=>rfl)) q0c))) (q0f (q0v (q0o (ne_k K rfl hr) (pv 7) (q2l q0c) (nomark _)) (q0d (q0m (i:=8) sc_row.nd rfl (by trivial) (q1a (ix_k K rfl) (pv 7) (pe_c C.draw hr (q0a (pv 0) (q0a (q0h (q1k K rfl) (by rfl) T.b_len Ax (q0a (pv 7) q0c)) q0c))) (fun _ _=>rfl))) (q0d (q0m (i:=9) sc_row.nd rfl (by trivial) (pe_c C.goal hr (q0a (pv 0) (q0a (q1a (ix_k K rfl) (pv 5) (q2c q1e q0g) (fun _ _=>rfl)) (q0a (pv 8) q0c))))) (q0f (q0v (q2b (q4k (pe_c C.move_due hr (q0a (q1a (ix_k K rfl) (pv 5) (q2c q1e q0g) (fun _ _=>rfl)) (q0a (pv 2) (q0a (pv 8) (q0a (pv 9) q0c))))))) (q0d (q1c (@bm_k _ _ _ _ _ _ _ _ _ _ _ _ K rfl Ci Cs Ct q1q (pv 4) (q0a (q0z (q0a (pv 8) (q0a (pv 9) q0c))) q0c) (by rfl) (by rfl) (by rfl) (by rfl) (by rfl))) (q0f (q1c (@bm_k _ _ _ _ _ _ _ _ _ _ _ _ K rfl Ci Cs Ct q1q (pv 5) (q0a (pe_c C.moved hr (q0a (q1a (ix_k K rfl) (pv 5) (q2c q1e q0g) (fun _ _=>rfl)) (q0a (pv 8) (q0a (pv 9) q0c)))) q0c) (by rfl) (by rfl) (by rfl) (by rfl) (by rfl))))) q0k)))) q0k)))) (q0f (q0j (q0z (q0a (pv 4) (q0a (pv 5) q0c)))))))),?_⟩;refine⟨by show 0<=sizeLine;decide,fun R hR=>⟨_,rfl,by show 1<=sizeLine;decide,fun S hS=>?_⟩⟩;have hRS:R≠S:=fun z=>by rw[<- z,q0b] at hS;cases hS
  have hS0:H S=none:=by rw[q0e hRS.symm] at hS;exact hS
  have s1:Same H (upd (upd H R (.lst [])) S (.lst [.ref m])):=((Same.refl H).new hR).new hS;have I0:RoI H a b bl mrows 0 (upd (upd H R (.lst [])) S (.lst [.ref m])) R S [] [m]:=by
   refine⟨(Fd.refl F).same s1,hR,hS0,hRS,ML.nil (by rw[q0e hRS];exact q0b),⟨q0b,rfl,fun i d e=>?_⟩,hl,Aj _⟩;cases i with
   |zero=>cases e;exact s1 _ _ hm
   |succ i=>cases e
  generalize upd (upd H R (.lst [])) S (.lst [.ref m])=H1 at I0 s1;refine⟨_,rfl,_,rfl,.inl ⟨_,_,rfl,rfl,a,b,_,rfl,I0.fd.feed,by lia,by lia,fun tr H2 t0 t1 fd2=>?_⟩⟩;refine⟨tr,rfl,by lia,by lia,q3h (n:=tr.toNat) (fun i σ' H'=>∃x6 x7 x8 x9 zs ds,σ'=[some (.ref a),some (.ref m),some (.bl bl),some (.int n),some (.ref R),some (.ref S),x6,x7,x8,x9]/\RoI H a b bl mrows i H' R S zs ds/\i<=20) ⟨_,_,_,_,_,_,rfl,I0.go F fd2,Br _⟩ ?_ ?_⟩
  ·rintro i σ' H' hi ⟨x6,x7,x8,x9,zs,ds,rfl,I,hi20⟩;have hi':i+1<=20:=by lia
   have Inx:∀{H2:Hp},RoI H a b bl mrows i H2 R S zs ds->RoI H a b bl mrows (i+1) H2 R S zs ds:=fun{H2} x=>⟨x.fd,x.rn,x.sn,x.rs,x.r,x.s,x.ok,Gw x.len⟩
   have hlw:=I.ok.fin;have hwl:(wk mrows (zs.map (·.2))).length<=60:=by rw[q5k];exact h60
   obtain⟨dl,hat,hdl,hdi⟩:=I.s.last;refine⟨_,rfl,_,rfl,.inl ⟨S,_,-1,_,rfl,rfl,SqL.of I.s.at_,hat,?_⟩⟩;refine⟨dl,_,rfl,hdl,by rw[Ac];lia,fun r hr=>?_,fun L2 bs ps hL2 hp2 hs2 pts=>?_⟩
   ·obtain⟨y,hy,rfl⟩:=Al.mp hr;exact(hlw.ok y hy).ne
   obtain⟨qs,q1,q2,q3⟩:=zp_of pts;have hps:((wk mrows (zs.map (·.2))).map rR).map (·.1)=(wk mrows (zs.map (·.2))).map (·.1):=by rw[Ba];rfl
   rw[hps,<- q2] at hp2;rw[q1];have s2:=(Same.refl H').new (o:=.lst (qs.map fun z=>V.ref z.1)) hL2;have hLL:upd H' L2 (.lst (qs.map fun z=>V.ref z.1)) L2=some (.lst (qs.map fun z=>V.ref z.1)):=q0b;have hqt:∀z∈qs,upd H' L2 (.lst (qs.map fun z=>V.ref z.1)) z.1=some (.tup (vP z.2)):=fun z hz=>s2 _ _ (q3 z hz);have hqin:∀z∈qs,∃mk0,(z.2,mk0)∈wk mrows (zs.map (·.2)):=fun z hz=>by
    obtain⟨y,hy,e⟩:=Al.mp (hp2.mem_iff.mp (Al.mpr ⟨z,hz,rfl⟩));exact⟨y.2,by rw[<- e];exact hy⟩
   have hql:qs.length<=60:=by
    have:=hp2.length_eq;rw[Ac,Ac] at this;lia
   have I2:=I.same s2;have hL2a:L2≠a:=(F.na (I.fd.free hL2)).symm;generalize upd H' L2 (.lst (qs.map fun z=>V.ref z.1))=H3 at s2 hLL hqt I2;refine⟨_,rfl,by show 0<=sizeLine;decide,fun e0 he0=>?_⟩;have s4:=(Same.refl H3).new (o:=.lst []) he0;refine ne_noP (s4 _ _ hLL) (fun z hz=>s4 _ _ (hqt z hz)) q0b (fun z hz=>by obtain⟨_,y⟩:=hqin z hz;exact(hlw.ok _ y).low) ⟨_,rfl,?_⟩;have I4:=I2.same s4;have hLL4:=s4 _ _ hLL;have hqt4:∀z∈qs,upd H3 e0 (.lst []) z.1=some (.tup (vP z.2)):=fun z hz=>s4 _ _ (hqt z hz);generalize upd H3 e0 (.lst [])=H4 at s4 I4 hLL4 hqt4;refine iteB (fun hne=>?_) (fun hne=>⟨_,_,_,_,_,_,rfl,Inx I4,hi'⟩);have hne':qs≠[]:=by simpa using hne
   have hpos:=Bo.mpr hne';refine⟨_,rfl,_,rfl,_,rfl,_,_,rfl,.inl ⟨_,SqL.of hLL4,rfl⟩,a,b,_,rfl,I4.fd.feed,by rw[Ac];lia,by rw[Ac];lia,fun r H5 r0 r1 fd5=>?_⟩;rw[Ac] at r1;obtain⟨v,hv1,hv2⟩:=q7j (xs:=qs.map fun z=>V.ref z.1) r0 (by rw[Ac];exact r1);obtain⟨z,hz,rfl⟩:∃z∈qs,v=V.ref z.1:=by
    rw[Aq] at hv1;cases e:qs[r.toNat]? with
    |none=>rw[e] at hv1;cases hv1
    |some z=>rw[e] at hv1;cases hv1;exact⟨z,As e,rfl⟩
   refine .inl ⟨L2,_,r,_,rfl,rfl,SqL.of (fd5.at hLL4 hL2a),hv2,?_⟩;have I5:=I4.go F fd5;have hzt:H5 z.1=some (.tup (vP z.2)):=tupFd I4.fd.feed fd5 _ _ (hqt4 z hz);obtain⟨mk0,hzm⟩:=hqin z hz;clear hqt hqt4 hLL hLL4 hqin hv2 I2 I4 q3 s2 s4 hv1;generalize z.1=e1 at hzt;generalize z.2=p at hzt hzm;have hdl5:H5 dl=some (dR ((wk mrows (zs.map (·.2))).map rR)):=by have:=I5.s.pr _ _ hdi;rw[Bi] at this;exact this
   refine⟨_,rfl,_,rfl,_,rfl,.inl ⟨S,_,-1,_,rfl,rfl,SqL.of I5.s.at_,hat,?_⟩⟩;refine⟨_,rfl,a,b,dl,e1,bl,_,p,mk0,rfl,I5.fd.feed,hdl5,hlw,hwl,hzt,hzm,fun t q H6 fd6 ht okq=>?_⟩;have I6:=I5.go F fd6;have hzt6:H6 e1=some (.tup (vP p)):=tupFd I5.fd.feed fd6 _ _ hzt;have hdl6:=x4m hdl5 I5.fd.feed fd6;refine⟨_,rfl,_,rfl,.inl ⟨S,_,-1,_,rfl,rfl,SqL.of I6.s.at_,hat,?_⟩⟩;refine⟨_,rfl,_,rfl,_,rfl,dl,e1,t,bl,_,p,q,mk0,rfl,hdl6,hlw,hzt6,ht,hzm,okq,fun v H7 s7 hv=>⟨_,rfl,?_⟩⟩;have I7:=I6.same s7;rcases hv with⟨rfl,mv⟩|⟨T1,rfl⟩
   rotate_left
   ·exact iteF ⟨_,_,_,_,_,_,rfl,Inx I7,hi'⟩
   refine iteT ?_;refine⟨_,rfl,.inl ⟨rfl,_,SqL.of I7.r.at_⟩,_,rfl,_,rfl,by show 2<=sizeLine;decide,fun T2 hT2=>?_⟩;have s8:=(Same.refl H7).new (o:=.tup [.ref e1,.ref t]) hT2;have I8:=I7.same s8;have h8e:upd H7 T2 (.tup [.ref e1,.ref t]) e1=some (.tup (vP p)):=s8 _ _ (s7 _ _ hzt6);have h8t:upd H7 T2 (.tup [.ref e1,.ref t]) t=some (.tup (vP q)):=s8 _ _ (s7 _ _ ht);have h8T:upd H7 T2 (.tup [.ref e1,.ref t]) T2=some (.tup [.ref e1,.ref t]):=q0b;have h8d:upd H7 T2 (.tup [.ref e1,.ref t]) dl=some (dR ((wk mrows (zs.map (·.2))).map rR)):=s8 _ _ (s7 _ _ hdl6);generalize upd H7 T2 (.tup [.ref e1,.ref t])=H8 at s8 I8 h8e h8t h8T h8d;refine⟨R,_,_,rfl,rfl,I8.r.at_,by rw[Ac];have:=I8.len;exact small' (by lia),?_⟩;have kt:∀(x:Addr) (u:HO),x≠R->H8 x=some u->upd H8 R (.lst (zs.map (fun z=>V.ref z.1)++[.ref T2])) x=some u:=fun x u n e=>by rw[q0e n];exact e
   have nR:∀{x:Addr} {xs:List V},H8 x=some (.tup xs)->x≠R:=fun{x xs} e z=>by rw[z,I8.r.at_] at e;cases e
   have nRd:∀{x:Addr} {rs:List HRow},H8 x=some (dR rs)->x≠R:=fun{x rs} e z=>by rw[z,I8.r.at_] at e;cases e
   have r9:ML (upd H8 R (.lst (zs.map (fun z=>V.ref z.1)++[.ref T2]))) R (zs++[(T2,(p,q))]):=by
    refine⟨by rw[An];exact q0b,fun y hy=>?_⟩;rcases Aw.mp hy with hy|hy
    ·exact(I8.r.pr y hy).keep fun S' xs e=>kt _ _ (nR e) e
    ·rw[Az.mp hy];exact⟨e1,t,kt _ _ (nR h8T) h8T,kt _ _ (nR h8e) h8e,kt _ _ (nR h8t) h8t⟩
   have st9:StAt (upd H8 R (.lst (zs.map (fun z=>V.ref z.1)++[.ref T2]))) S ds mrows (zs.map (·.2)):=⟨kt _ _ I8.rs.symm I8.s.at_,I8.s.len,fun j d e=>kt _ _ (nRd (I8.s.pr j d e)) (I8.s.pr j d e)⟩
   have fd9:Fd a b H (upd H8 R (.lst (zs.map (fun z=>V.ref z.1)++[.ref T2]))):=I8.fd.put F I8.rn;have h9e:=kt _ _ (nR h8e) h8e;have h9t:=kt _ _ (nR h8t) h8t;have h9d:=kt _ _ (nRd h8d) h8d;generalize upd H8 R (.lst (zs.map (fun z=>V.ref z.1)++[.ref T2]))=H9 at r9 st9 fd9 h9e h9t h9d kt;clear kt nR nRd;refine⟨_,rfl,.inl ⟨rfl,_,SqL.of st9.at_⟩,_,rfl,_,rfl,.inl ⟨S,_,-1,_,rfl,rfl,SqL.of st9.at_,hat,?_⟩⟩;refine⟨_,rfl,_,rfl,dl,e1,t,_,p,q,rfl,h9d,h9e,h9t,hlw.ok,mv.okp.low,by have:=okq.few;lia,hwl,hlw.paths,mv.moved.paths,fun D2 H10 hD2 s10 h10=>?_⟩;have st10:=st9.same s10;refine⟨S,_,_,rfl,rfl,st10.at_,by rw[Ac,st10.len,Ac];have:=I.len;exact small' (by lia),?_⟩;have em:(zs++[(T2,(p,q))]).map (·.2)=zs.map (·.2)++[(p,q)]:=by rw[An];rfl
   have nS:∀{x:Addr} {u:HO},H10 x=some u->(∀xs,u≠.lst xs)->upd H10 S (.lst (ds.map V.ref++[.ref D2])) x=some u:=fun{x u} e n=>by rw[q0e (fun z=>by rw[z,st10.at_] at e;cases e;exact n _ rfl)];exact e
   have hRS':upd H10 S (.lst (ds.map V.ref++[.ref D2])) R=some (.lst ((zs++[(T2,(p,q))]).map fun z=>V.ref z.1)):=by rw[q0e I.rs];exact(r9.same s10).at_
   refine⟨_,_,_,_,zs++[(T2,(p,q))],ds++[D2],rfl,⟨(fd9.same s10).put F I.sn,I.rn,I.sn,I.rs,⟨hRS',fun y hy=>((r9.same s10).pr y hy).keep fun S' xs e=>nS e (fun _ z=>by cases z)⟩,⟨by rw[An];exact q0b,?_,fun j d e=>?_⟩,?_,?_⟩,hi'⟩
   ·rw[em,Ai,Ai,st10.len];rfl
   ·rw[em];have hdl0:ds.length=(zs.map (·.2)).length+1:=st10.len;by_cases hj:j<ds.length
    ·rw[Gx hj] at e;rw[Ij (by lia)];exact nS (st10.pr j d e) (fun _ z=>by cases z)
    ·have hj2:j=ds.length:=by
      have:=(Bb.mp e).1;rw[Ai] at this;simp at this;lia
     rw[hj2,Gq (Aj _),Nat.sub_self] at e;cases e;rw[hj2,hdl0,Dw (by rw[Ai];exact Aj _),q9v];exact nS h10 (fun _ z=>by cases z)
   ·rw[em];exact I.ok.snoc mv
   ·rw[Ai];exact Jc I.len
  ·rintro σ' H' ⟨x6,x7,x8,x9,zs,ds,rfl,I,hi⟩;refine⟨_,rfl,_,rfl,by show 2<=sizeLine;decide,fun T1 hT1=>?_⟩;have sT:=(Same.refl H').new (o:=.tup [.ref R,.ref S]) hT1;have I1:=I.same sT;exact k T1 R S zs ds _ ⟨I1.fd,I1.rn,I1.sn,I1.rs,I1.r,I1.s,I1.ok,by have:=I1.len;lia⟩ q0b (I.fd.free hT1)
theorem z4q{q:Pth}(h:okP q):∀x∈q,x.length<=12:=fun x hx=>(h.all x hx).few
theorem q3o{q:Pth}(h:okP q):(jn q).length<=78:=by
 have:=z8q (m:=12) (z4q h);have:=h.few;have:q.length*(12+1)<=6*13:=Qv _ h.few;lia
theorem spc:Ad " " = mk [32]:=by decide +kernel
theorem q2d(a b:List Nat):mk a++mk b=mk (a++b):=ext (by rw[q6e,q1h,q1h,q1h])
theorem z9c(a:Str):Hd++a=a:=ext (by rw[q6e];rfl)
def MVT:List Nat:=tl (Ad "move ")
def BGN:List Nat:=tl (Ad "begin")
def DNT:List Nat:=tl (Ad "done ")
def mvT(m:Mv):List Nat:=MVT++(jn m.1++32::jn m.2)
def dnT(k:Nat):List Nat:=DNT++dg k
def lnsB(ms:List Mv):List (List Nat):=ms.map mvT++BGN::(List.range ms.length).map dnT
def bkT(ls:List (List Nat)):List Nat:=(ls.map fun l=>l++[10]).flatten
def wr(l n:Nat):Nat:=min n (l+1)+(n-(l+1)) / 2
def md(l n:Nat):Nat:=(n-(l+1)+1) / 2
def stL(ms:List Mv)(n:Nat):List (List Nat):=(ms.take n).map mvT++(if ms.length<n then[BGN] else[])++(List.range ((n-(ms.length+1)) / 2)).map dnT
theorem stL_eq{ms:List Mv}{n:Nat}(h:n<=3*ms.length+2):stL ms n=(lnsB ms).take (wr ms.length n):=by
 unfold stL lnsB wr;by_cases hn:ms.length<n
 ·have e1:min n (ms.length+1)=ms.length+1:=Tr hn;have e2:ms.length+1+(n-(ms.length+1)) / 2=(ms.map mvT).length+((n-(ms.length+1)) / 2+1):=by rw[Ac];lia
  rw[if_pos hn,e1,e2,List.take_length_add_append,List.take_succ_cons,Dw (Hh hn),<- Dv,List.take_range,Ib (by lia),Cg];rfl
 ·have e1:min n (ms.length+1)=n:=Ib (by lia);have e2:n-(ms.length+1)=0:=by lia
  rw[if_neg hn,e1,e2,Ij (by rw[Ac];lia),<- Dv,Bt];show(ms.take n).map mvT++[]=_;rw[Bt];rfl
theorem mvw:Ad "move " = mk MVT:=(z0x _).symm
theorem bgw:Ad "begin" = mk BGN:=(z0x _).symm
theorem dnw:Ad "done " = mk DNT:=(z0x _).symm
theorem q5y:MVT.length=5:=by decide +kernel
theorem x4p:BGN.length=5:=by decide +kernel
theorem z9d:DNT.length=5:=by decide +kernel
def okMv(m:Mv):Prop:=okP m.1/\okP m.2
theorem z3e{m:Mv}(h:okMv m):(mvT m).length<=200:=by
 have:=q3o h.1;have:=q3o h.2;unfold mvT;rw[Ai,Ai,Bm,q5y];lia
theorem dg_le{k:Nat}(h:k<=1000):(dg k).length<=10:=x2m 9 _ (by lia)
theorem z3f{k:Nat}(h:k<=1000):(dnT k).length<=200:=by
 have:=dg_le h;unfold dnT;rw[Ai,z9d];lia
theorem q6t(ms:List Mv):(lnsB ms).length=2*ms.length+1:=by
 unfold lnsB;rw[Ai,Bm,Ac,Ac,Ky];lia
theorem q5n{ms:List Mv}(h:∀m∈ms,okMv m)(hl:ms.length<=1000):∀x∈lnsB ms,x.length<=200:=fun x hx=>by
 unfold lnsB at hx;rcases Aw.mp hx with hx|hx
 ·obtain⟨m,hm,rfl⟩:=Al.mp hx;exact z3e (h m hm)
 ·rcases Bd.mp hx with rfl|hx
  ·rw[x4p];lia
  ·obtain⟨k,hk,rfl⟩:=Al.mp hx;have:=List.mem_range.mp hk;exact z3f (by lia)
abbrev vL(ns:List (List Nat)):List V:=ns.map fun n=>V.str (mk n)
theorem vL_map(ns:List (List Nat)):(ns.map mk).map V.str=vL ns:=by rw[Ba];rfl
theorem z9e(a:List (List Nat))(b:List Nat):vL a++[V.str (mk b)]=vL (a++[b]):=by show _=(a++[b]).map _;rw[An];rfl
theorem x4q{M:Nat}{ns:List (List Nat)}(h:∀x∈ns,x.length<=M):((ns.map mk).map (·.length)).sum<=ns.length*M:=by
 induction ns with
 |nil=>exact Br _
 |cons a r ih =>
  have:=ih fun x hx=>h x (Ak _ hx);have h1:=h a Ao;rw[Ap,Ap,Ra,q0r,Bm,Ov];lia
theorem nlw:Ad "\n" = mk [10]:=by decide +kernel
theorem z9f(ns:List (List Nat)):(ns.map mk).map tl=ns:=by
 rw[Ba];exact List.map_id'' (fun x=>q1h x) ns
theorem z9g(ls:List (List Nat)):PySem.Txt.join (Ad "") ((ls.map fun l=>l++[10]).map mk)=mk (bkT ls):=ext (by rw[z7d,q1h,z9f];rfl)
theorem z9h{K:Ah}{L D:Addr}{ls:List (List Nat)}{H1:Hp}{te:TE}{Fin:List V->Hp->Prop}(hL:H1 L=some (.lst (vL ls)))(hD:H1 D=none)(few:ls.length<=1000)(sz:∀x∈ls,x.length<=200)(he:∀(l:List Nat) (H:Hp) (Q:VK),l.length<=200->Q (.str (mk (l++[10]))) H->te [some (.str (mk l))] H Q)(k:∀H',Same H1 H'->H' D=some (.lst (((ls.map fun l=>l++[10]).map mk).map V.str))->(((ls.map fun l=>l++[10]).map mk).map (·.length)).sum+((ls.map fun l=>l++[10]).map mk).length*(Ad "").length<=16777216->Fin (((ls.map fun l=>l++[10]).map mk).map V.str) H'):
  CompW (Itl K L) (gName 0) tIf0 te [none] D Fin H1:=by
 refine q4e (xs:=vL ls) (fun i ys H'=>ys=vL ((ls.take i).map fun l=>l++[10])/\Same H1 H'/\H' D=some (.lst ys)) ⟨rfl,(Same.refl H1).new hD,q0b⟩ (fun i ys H' x=>⟨x.2.2,SqL.of (x.2.1 _ _ hL)⟩) ?_ ?_
 ·rintro i ys H' v hv ⟨rfl,sm,hHD⟩;obtain⟨l,hl,rfl⟩:∃l,ls[i]?=some l/\v=.str (mk l):=by
   rw[Aq] at hv;cases e:ls[i]? with
   |none=>rw[e] at hv;cases hv
   |some z=>rw[e] at hv;cases hv;exact⟨z,rfl,rfl⟩
  have hi:i<ls.length:=(Bb.mp hl).1;refine he l H' _ (sz l (As hl)) ⟨hHD,small' (by rw[Ac,Ac,Bf];lia),?_,sm.put hD,q0b⟩;rw[Bs,hl];show _=vL ((ls.take i++[l]).map fun l=>l++[10]);rw[An];show _=((ls.take i).map (fun l=>l++[10])++[l++[10]]).map _;rw[An];rfl
 ·rintro ys H' ⟨rfl,sm,hHD⟩;rw[Ac,Bi] at hHD ⊢;rw[<- vL_map] at hHD ⊢;refine k H' sm hHD ?_;have:=x4q (M:=201) (ns:=ls.map fun l=>l++[10]) fun x hx=>by
   obtain⟨y,hy,rfl⟩:=Al.mp hx;rw[Ai];have:=sz y hy;show _+1<=_;lia
  rw[Ac] at this;have e0:(Ad "").length=0:=by decide +kernel
  rw[e0,Nat.mul_zero];lia
theorem z4r{K:Ah}{L D:Addr}{zs:List Zm}{H1:Hp}{te:TE}{Fin:List V->Hp->Prop}(hL:ML H1 L zs)(hD:H1 D=none)(few:zs.length<=1000)(ok:∀m∈zs.map (·.2),okMv m)(he:∀(A B:Addr) (m:Mv) (H:Hp) (Q:VK),okMv m->H A=some (.tup (vP m.1))->H B=some (.tup (vP m.2))->(∀H',Same H H'->Q (.str (mk (mvT m))) H')->te [some (.ref A),some (.ref B)] H Q)(k:∀H',Same H1 H'->H' D=some (.lst (vL ((zs.map (·.2)).map mvT)))->Fin (vL ((zs.map (·.2)).map mvT)) H'):
  CompW (Itl K L) (gTup K 2 (gCons (gName 0) (gCons (gName 1) gNil))) tIf0 te [none,none] D Fin H1:=by
 refine q7g (xs:=zs.map fun z=>V.ref z.1) (fun i ys H'=>ys=vL (((zs.take i).map (·.2)).map mvT)/\Same H1 H'/\H' D=some (.lst ys)) ⟨rfl,(Same.refl H1).new hD,q0b⟩ (fun i ys H' x=>⟨x.2.2,SqL.of (x.2.1 _ _ hL.at_)⟩) ?_ ?_
 ·rintro i ys H' v hv ⟨rfl,sm,hHD⟩;obtain⟨z,hz,rfl⟩:=gR0 hv
  have hi:i<zs.length:=(Bb.mp hz).1;obtain⟨A,B,h1,h2,h3⟩:=(hL.same sm).pr z (As hz);have o1:=ok z.2 (Al.mpr ⟨z,As hz,rfl⟩);refine⟨z.1,_,rfl,SqT.of h1,rfl,_,_,rfl,_,_,rfl,rfl,q1x,?_⟩;refine z8u (iteT ?_);refine he A B z.2 H' _ o1 h2 h3 fun H2 s2=>⟨s2 _ _ hHD,small' (by rw[Ac,Ac,Ac,Bf];lia),?_,(sm.trans s2).put hD,q0b⟩
  rw[Bs,hz];show _=vL (((zs.take i++[z]).map (·.2)).map mvT);rw[An,An];show _=(((zs.take i).map (·.2)).map mvT++[mvT z.2]).map _;rw[An];rfl
 ·rintro ys H' ⟨rfl,sm,hHD⟩;rw[Ac,Bi] at hHD ⊢;exact k H' sm hHD
theorem z4s{D:Addr}{n:Nat}{H1:Hp}{te:TE}{Fin:List V->Hp->Prop}(hD:H1 D=none)(few:n<=1000)(he:∀(i:Nat) (H:Hp) (Q:VK),i<=1000->Q (.str (mk (dnT i))) H->te [some (.int (i:Int))] H Q)(k:∀H',Same H1 H'->H' D=some (.lst (vL ((List.range n).map dnT)))->Fin (vL ((List.range n).map dnT)) H'):
  CompW (Itr 0 n) (gName 0) tIf0 te [none] D Fin H1:=by
 refine q4o (fun i ys H'=>ys=vL ((List.range i).map dnT)/\Same H1 H'/\H' D=some (.lst ys)) ⟨rfl,(Same.refl H1).new hD,q0b⟩ (fun i ys H' x=>x.2.2) ?_ ?_
 ·rintro i ys H' hi ⟨rfl,sm,hHD⟩;rw[Int.zero_add];refine he i H' _ (by lia) ⟨hHD,small' (by rw[Ac,Ac,Ky];lia),?_,sm.put hD,q0b⟩;rw[List.range_succ,An];show _=((List.range i).map dnT++[dnT i]).map _;rw[An];rfl
 ·rintro ys H' ⟨rfl,sm,hHD⟩;exact k H' sm hHD
theorem q3p(xs:List V)(n:Nat):cutV xs none (some (n:Int))=xs.take n:=by
 have e1:HT.sIx xs.length xs.length (some (n:Int))=min n xs.length:=by
  show(if (n:Int)<0 then((n:Int)+(xs.length:Int)).toNat else min ((n:Int)).toNat xs.length)=_;rw[if_neg (by lia),Cp]
 have e0:HT.sIx xs.length 0 none=0:=rfl;unfold cutV;rw[e0,e1,Kq,Kc,<- Ko,Bi]
def isName(l:List Nat):Bool:=decide (1<=l.length)&&(decide (l.length<=12)&&l.all fun c=>decide (c∈NS))
def spIsName:Sp:=fun vs H Q _=>∃t,vs=[.str t]/\t.length<=1000/\∀H',Same H H'->Q (.bl (isName (tl t))) H'
def aOf(t s:List Nat):Bool:=decide (¬t=[])&&t.all fun c=>decide (c∈s)
theorem x4r{t:List Nat}:decide (V.str (mk t)=V.str (Ad ""))=decide (t=[]):=by
 refine decide_eq_decide.mpr ⟨fun h=>?_,fun h=>by rw[h];rfl⟩;injection h with h;have:=congrArg tl h;rw[q1h] at this;rw[this];decide +kernel
def spAllOf:Sp:=fun vs H Q _=>∃t g,vs=[.str (mk t),.str g]/\t.length<=1000/\∀H',Same H H'->Q (.bl (aOf t (tl g))) H'
abbrev q8b:Stmt:=top 30
theorem z9i:FnScope ["text", "signs"] ["text", "signs"] (defScope q8b):=by trivial
theorem z9j(D:Df K mg "all_of" q8b ["text", "signs"])(T:Txt mg):Cal P w K mg base "all_of" 1 ["text", "signs"] spAllOf:=by
 refine D.cal z9i (fun vs H Q E h=>?_) (fun f cdv A outer s H vs Q E hr h=>?_)
 ·obtain⟨t,g,rfl,_⟩:=h;rfl
 ·obtain⟨t,g,rfl,hl,k⟩:=h;refine⟨_,(q0f (q0j (pe_j (q8k (q2m (ne_k K rfl hr) (pv 0) q0t (nomark _)) (q6c (q0h (all_k K rfl rfl) (by rfl) T.b_all (by decide +kernel) (q0a (q1s ["sign"] [("signs",1)] rfl (@q6j _ _ _ _ K rfl (pv 0)) (fun _ _ _ _ _=>(q0i (i:=0) (show(["sign", "signs"]:List Str).Nodup by decide +kernel) rfl (by trivial))) (fun _ _ _ _ _=>q1r) (fun _ _ _ _ _=>(q2m (in_k K rfl) (pv 0) (pv 1) (by with_unfolding_all rfl)))) q0c))))))),?_⟩;refine⟨fun v H'=>v=.bl (aOf t (tl g))/\Same H H',?_,?_⟩
  ·rintro v H' ⟨rfl,sm⟩;exact k H' sm
  refine⟨_,rfl,.inl ⟨rfl,_,rfl,?_⟩⟩;rw[x4r];refine iteB (fun h=>?_) (fun h=>?_)
  ·have hne:¬t=[]:=fun z=>by rw[decide_eq_true z] at h;cases h
   refine⟨_,rfl,.inr (.inr ⟨mk t,rfl,fun D hD=>?_⟩)⟩;refine z7c (fun i ys H'=>ys=(t.take i).map (fun c=>V.bl (decide (c∈tl g)))/\Same H H'/\H' D=some (.lst ys)/\ys.length<=i/\i<=t.length) ⟨rfl,(Same.refl H).new hD,q0b,Aj _,Br _⟩ (fun i ys H' h=>h.2.2.1) ?_ ?_
   ·rintro i ys H' c hc ⟨rfl,sm,hHD,hle,_⟩;have hci:t[i]?=some c:=by have:=get hc;rw[q1h] at this;exact this
    have hi:i<t.length:=(Bb.mp hci).1;refine⟨_,rfl,_,rfl,.inl ⟨_,_,rfl,rfl,hHD,small' (by lia),?_,sm.put hD,q0b,?_,hi⟩⟩
    ·rw[q6f hci,An,in_one];rfl
    ·rw[Ai,Dq];lia
   ·rintro ys H' ⟨rfl,sm,hHD,_,_⟩;have e3:t.take (mk t).length=t:=by rw[len,q1h];exact Dw (Aj _)
    rw[e3] at hHD;refine⟨D,t.map fun c=>decide (c∈tl g),rfl,SqL.of (by rw[Ba];exact hHD),?_,sm⟩;unfold aOf;rw[decide_eq_true hne,Nr,List.all_map];rfl
  ·have he:t=[]:=Classical.byContradiction fun z=>by rw[decide_eq_false z] at h;cases h
   refine⟨?_,Same.refl H⟩;subst he;rfl
structure CallsNm (P:Program) (w:World) (K:Ah) (mg:Str->Option Value) (base:Heap):Prop where
 all_of:Cal P w K mg base "all_of" 1 ["text", "signs"] spAllOf
abbrev q5z:Stmt:=top 31
theorem z5u:FnScope ["text"] ["text"] (defScope q5z):=by trivial
theorem z5v(D:Df K mg "is_name" q5z ["text"])(T:Txt mg)(C:CallsNm P w K mg base):Cal P w K mg base "is_name" 2 ["text"] spIsName:=by
 refine D.cal z5u (fun vs H Q E h=>?_) (fun f cdv A outer s H vs Q E hr h=>?_)
 ·obtain⟨t,rfl,_⟩:=h;rfl
 ·obtain⟨t,rfl,hl,k⟩:=h;obtain⟨_,g_NAME_SIGNS⟩:=T.NAME_SIGNS;obtain⟨_,g_MOST_SIGNS⟩:=T.MOST_SIGNS;refine⟨_,(q0f (q0j (pe_j (q8k (q2m op_le (q0h (q1k K rfl) (by rfl) T.b_len Ax (q0a (pv 0) q0c)) (q0w (v:=.int 12) (by rfl) g_MOST_SIGNS ⟨_,rfl⟩) (nomark _)) (q6c (pe_c C.all_of hr (q0a (pv 0) (q0a (q0w (v:=.str (Ad "abcdefghijklmnopqrstuvwxyzABCDEFGHIJKLMNOPQRSTUVWXYZ0123456789-_.")) (by rfl) g_NAME_SIGNS ⟨_,rfl⟩) q0c)))))))),?_⟩;have e:=len t;refine⟨fun v H'=>v=.bl (isName (tl t))/\Same H H',?_,?_⟩
  ·rintro v H' ⟨rfl,sm⟩;exact k H' sm
  refine⟨_,rfl,_,_,rfl,⟨small (by lia),rfl⟩,_,_,rfl,rfl,_,rfl,?_⟩;refine iteB (fun h=>?_) (fun h=>?_)
  ·have h':=of_decide_eq_true h;refine⟨_,rfl,tl t,NSs,?_,by lia,fun H' sm=>⟨?_,sm⟩⟩
   ·rw[z0x];rfl
   ·unfold isName aOf;rw[decide_eq_true (show(tl t).length<=12 by lia),Nr];congr 2;exact decide_eq_decide.mpr (by rw[<- List.length_eq_zero_iff];lia)
  ·have h':=of_decide_eq_false h;refine⟨?_,Same.refl H⟩;unfold isName;rw[decide_eq_false (show ¬(tl t).length<=12 by lia)];simp
theorem z5w{l:List Nat}(h:isName l=true):1<=l.length/\l.length<=12:=by
 unfold isName at h;rw[Co,Co,decide_eq_true_eq,decide_eq_true_eq] at h;exact⟨h.1,h.2.1⟩
theorem z5x{l:List Nat}(h:isName l=true):∀c∈l,c∈NS:=by
 unfold isName at h;rw[Co,Co,Fx] at h;exact fun c hc=>of_decide_eq_true (h.2.2 c hc)
theorem z9k{l:List Nat}(h1:1<=l.length)(h2:l.length<=12)(h3:∀c∈l,c∈NS):isName l=true:=by
 unfold isName;rw[Co,Co,Fx];exact⟨decide_eq_true h1,decide_eq_true h2,fun c hc=>decide_eq_true (h3 c hc)⟩
theorem no47:(47:Nat)∉NS:=by decide +kernel
theorem z3g{l:List Nat}(h:isName l=true):47∉l:=fun z=>no47 (z5x h 47 z)
def rp(l:List Nat):Option (List (List Nat)):=if (sp l).length<=6/\(sp l).all isName=true then some (sp l) else none
structure PN (ns:List (List Nat)):Prop where
 ne:1<=ns.length
 le:ns.length<=6
 ok:∀n∈ns,isName n=true
theorem PN.rp{ns:List (List Nat)}(h:PN ns):rp (jn ns)=some ns:=by
 have e:sp (jn ns)=ns:=x4g (fun z=>by have:=h.ne;rw[z] at this;simp at this) fun x hx=>z3g (h.ok x hx);unfold K.rp;rw[e,if_pos ⟨h.le,Fx.mpr h.ok⟩]
theorem PN.sz{ns:List (List Nat)}(h:PN ns):∀x∈ns,x.length<=20:=fun x hx=>by have:=z5w (h.ok x hx);lia
theorem x2y:∀{ns:List (List Nat)},(∀x∈ns,x.length<=20)->((ns.map mk).map (·.length)).sum<=ns.length*20
 |[],_=>Aj _
 |a::r,h=>by
  have ih:=x2y (ns:=r) fun x hx=>h x (Ak _ hx);have h1:=h a Ao;rw[Ap,Ap,Ra,q0r,Bm,Ov];lia
theorem vN_map(ns:List (List Nat)):(ns.map mk).map V.str=vN ns:=by rw[Ba];rfl
theorem x2z:∀(l:List Nat) (p:List Nat),p∈sp l->p.length<=l.length
 |[],p,h=>by rw[show sp []=[[]] from rfl,Az] at h;rw[h];exact Aj _
 |c::r,p,h=>by
  have ih:=x2z r;have e:sp (c::r)=if c=47 then[]::sp r else match sp r with | []=>[[c]]|p::q=>(c::p)::q:=rfl
  rw[e] at h;split at h
  ·rcases Bd.mp h with rfl|h
   ·exact Br _
   ·have:=ih p h;rw[Bm];lia
  ·cases es:sp r with
   |nil=>rw[es] at h;rw[Az.mp h];simp
   |cons q qs =>
    rw[es] at h ih;rcases Bd.mp h with rfl|h
    ·have:=ih q Ao;simp;lia
    ·have:=ih p (Ak _ h);rw[Bm];lia
def spShow(K:Ah):Sp:=fun vs H Q _=>∃p ns,vs=[.ref p]/\SqT K H p (vN ns)/\ns.length<=20/\(∀x∈ns,x.length<=20)/\Q (.str (mk (jn ns))) H
abbrev q3q:Stmt:=top 33
theorem z1w:FnScope ["path"] ["path"] (defScope q3q):=by trivial
theorem z1x(D:Df K mg "show_path" q3q ["path"]):Cal P w K mg base "show_path" 1 ["path"] (spShow K):=by
 refine D.cal z1w (fun vs H Q E h=>?_) (fun f cdv A outer s H vs Q E hr h=>?_)
 ·obtain⟨p,ns,rfl,_⟩:=h;rfl
 ·obtain⟨p,ns,rfl,hp,hl,hz,k⟩:=h;refine⟨_,(q0f (q0j (@bm_k _ _ _ _ _ _ _ _ _ _ _ _ K rfl By Gm Gn (z0w K rfl) q0t (q0a (pv 0) q0c) (by rfl) (by rfl) (by rfl) (by rfl) (by rfl)))),?_⟩;refine⟨rfl,_,rfl,_,p,ns.map mk,rfl,rfl,.inr (by rw[vN_map];exact hp),?_,?_⟩
  ·have:=x2y hz;have e:(Ad "/").length=1:=by decide +kernel
   rw[e,Ac];lia
  ·rw[join_mk];exact k
def spRead:Sp:=fun vs H Q _=>∃t,vs=[.str t]/\t.length<=1000/\(rp (tl t)=none->∀H',Same H H'->Q .non H')/\∀ns,rp (tl t)=some ns->∀T H',H T=none->Same H H'->H' T=some (.tup (vN ns))->Q (.ref T) H'
structure Calls1 (P:Program) (w:World) (K:Ah) (mg:Str->Option Value) (base:Heap):Prop where
 is_name:Cal P w K mg base "is_name" 2 ["text"] spIsName
abbrev q3r:Stmt:=top 34
theorem sc_read_path:FnScope ["text", "names"] ["text"] (defScope q3r):=by trivial
theorem z1y(D:Df K mg "read_path" q3r ["text"])(T:Txt mg)(C:Calls1 P w K mg base):Cal P w K mg base "read_path" 3 ["text"] spRead:=by
 refine D.cal sc_read_path (fun vs H Q E h=>?_) (fun f cdv A outer s H vs Q E hr h=>?_)
 ·obtain⟨t,rfl,_⟩:=h;rfl
 ·obtain⟨t,rfl,hl,k1,k2⟩:=h;obtain⟨_,g_MOST_NAMES⟩:=T.MOST_NAMES;refine⟨_,(q0d (q0m (i:=1) sc_read_path.nd rfl (by trivial) (@bm_k _ _ _ _ _ _ _ _ _ _ _ _ K rfl By Lg Lh q9m (pv 0) (q0a q0t q0c) (by rfl) (by rfl) (by rfl) (by rfl) (by rfl))) (q0d (q0v (q0o x0c (q0h (q1k K rfl) (by rfl) T.b_len Ax (q0a (pv 1) q0c)) (q0w (v:=.int 6) (by rfl) g_MOST_NAMES ⟨_,rfl⟩) (nomark _)) (q0f (q0j q3e)) q0k) (q0d (q0v (q3a (@q2k _ _ _ K rfl (q0h (all_k K rfl rfl) (by rfl) T.b_all (by decide +kernel) (q0a (q1s ["name"] [] rfl (@q6j _ _ _ _ K rfl (pv 1)) (fun _ _ _ _ _=>(q0i (i:=0) (show(["name"]:List Str).Nodup by decide +kernel) rfl (by trivial))) (fun _ _ _ _ _=>q1r) (fun _ _ _ _ _=>(pe_c C.is_name hr (q0a (pv 0) q0c)))) q0c)) (fun _=>rfl))) (q0f (q0j q3e)) q0k) (q0f (q0j (q2r (x3o K rfl) (by rfl) T.b_tuple (by decide +kernel) (q0a (pv 1) q0c))))))),?_⟩;have e:=len t;have hsl:=x2v (tl t);have e47:(Ad "/").length=1:=by decide +kernel
  have hsp:(Pf t (Ad "/")).length=(sp (tl t)).length:=by rw[<- z4f,Ac]
  refine⟨_,rfl,rfl,_,_,rfl,rfl,by rw[e47];rfl,small (by lia),small (by lia),?_,fun L hL=>?_⟩
  ·rw[Mp];have:=Qk t (Ad "/") 0 t.length (t.length+1);exact small (by lia)
  rw[split_mk];generalize hH1:upd H L _=H1;have sm1:Same H H1:=by rw[<- hH1];exact(Same.refl H).new hL
  have hL1:H1 L=some (.lst (vN (sp (tl t)))):=by rw[<- hH1];exact q0b
  refine⟨_,rfl,_,_,rfl,.inl ⟨_,SqL.of hL1,rfl⟩,_,_,rfl,rfl,_,rfl,?_⟩;rw[Ac];refine iteB (fun h=>?_) (fun h=>?_)
  ·have h':=of_decide_eq_true h;refine k1 ?_ _ sm1;unfold rp;rw[if_neg];rintro⟨z,_⟩;lia
  have h6:(sp (tl t)).length<=6:=by
   have:=of_decide_eq_false h;lia
  refine⟨_,rfl,.inl ⟨L,rfl,⟨_,SqL.of hL1⟩,fun D hD=>?_⟩⟩;have hLD:L≠D:=q0n hL1 hD;refine q4e (xs:=vN (sp (tl t))) (fun i ys H'=>ys=((sp (tl t)).take i).map (fun n=>V.bl (isName n))/\Same H1 H'/\H' D=some (.lst ys)/\i<=(sp (tl t)).length) ⟨rfl,(Same.refl H1).new hD,q0b,Br _⟩ (fun i ys H' ⟨_,sm,hHD,_⟩=>⟨hHD,SqL.of (sm _ _ hL1)⟩) ?_ ?_
  ·rintro i ys H' x hx ⟨rfl,sm,hHD,hi⟩;rw[Aq] at hx;obtain⟨n,hn,rfl⟩:=Eo.mp hx;have hi':i<(sp (tl t)).length:=(Bb.mp hn).1;have hnl:=x2z _ _ (As hn);refine⟨_,rfl,mk n,rfl,by rw[q0r];lia,fun H2 sm2=>⟨sm2 _ _ hHD,small' (by rw[Ac,Bf];lia),?_,(sm.trans sm2).put hD,q0b,hi'⟩⟩;rw[q6f hn,An,q1h];rfl
  ·rintro ys H' ⟨rfl,sm,hHD,_⟩;rw[Ac,Bi] at hHD;refine⟨D,(sp (tl t)).map isName,rfl,SqL.of (by rw[Ba];exact hHD),_,rfl,?_⟩;have ea:(((sp (tl t)).map isName).all id)=(sp (tl t)).all isName:=by rw[List.all_map];rfl
   rw[ea];have sm2:Same H H':=sm1.trans sm;cases hb:(sp (tl t)).all isName with
   |false =>
    refine iteT (k1 ?_ _ sm2);unfold rp;rw[if_neg];rintro⟨_,z⟩;rw[hb] at z;cases z
   |true =>
    refine iteF ⟨_,rfl,L,_,rfl,.inl ⟨SqL.of (sm _ _ hL1),fun T' hT'=>?_⟩⟩;refine k2 _ (by unfold rp;rw[if_pos ⟨h6,hb⟩]) T' _ (sm2.free hT') (sm2.new hT') q0b
def spPathText:Sp:=fun vs H Q _=>∃p q,vs=[.ref p]/\H p=some (.tup (vP q))/\okP q/\∀H',Same H H'->Q (.str (mk (jn q))) H'
theorem sls:Ad "/" = mk [47]:=by decide +kernel
abbrev q3s:Stmt:=top 65
theorem sc_path_text:FnScope ["_law_path", "_law_found", "_law_name_here"] ["_law_path"] (defScope q3s):=by trivial
theorem z1z(D:Df K mg "_law_path_text" q3s ["_law_path"])(T:Txt mg):Cal P w K mg base "_law_path_text" 1 ["_law_path"] spPathText:=by
 refine D.cal sc_path_text (fun vs H Q E h=>?_) (fun f cdv A outer s H vs Q E hr h=>?_)
 ·obtain⟨p,q,rfl,_⟩:=h;rfl
 ·obtain⟨p,q,rfl,hp,ok,k⟩:=h;refine⟨_,(q0d (q0m (i:=1) sc_path_text.nd rfl (by trivial) (q1a (ix_k K rfl) (pv 0) q0g (fun _ _=>rfl))) (q0d (q3b Cr rfl (@q6j _ _ _ _ K rfl (q0s (sl_k K rfl) (pv 0) (q0u q0g) q0x)) (q0i (i:=2) sc_path_text.nd rfl (by trivial)) (q0f (q0m (i:=1) sc_path_text.nd rfl (by trivial) (q0p q0q (q0p q0q (pv 1) q0t) (pv 2))))) (q0f (q0j (pv 1))))),?_⟩;obtain⟨n,r,rfl⟩:∃n r,q=n::r:=by
   cases q with
   |nil=>exact absurd rfl ok.ne
   |cons n r=>exact⟨n,r,rfl⟩
  have hw:¬(HT.sIx (vP (n::r)).length 0 (some ((1:Nat):Int))=0/\HT.sIx (vP (n::r)).length (vP (n::r)).length none=(vP (n::r)).length):=fun z=>by
   have e:=z.1;have e0:HT.sIx (vP (n::r)).length 0 (some ((1:Nat):Int))=min 1 (n::r).length:=by
    show(if ((1:Nat):Int)<0 then(((1:Nat):Int)+((vP (n::r)).length:Int)).toNat else min (((1:Nat):Int)).toNat (vP (n::r)).length)=_;rw[if_neg (by lia),q1f,Cp]
   rw[e0,Bm] at e;lia
  have ec:cutV (vP (n::r)) (some ((1:Nat):Int)) none=vP r:=by
   unfold cutV;have e0:HT.sIx (vP (n::r)).length 0 (some ((1:Nat):Int))=1:=by
    show(if ((1:Nat):Int)<0 then(((1:Nat):Int)+((vP (n::r)).length:Int)).toNat else min (((1:Nat):Int)).toNat (vP (n::r)).length)=_;rw[if_neg (by lia),q1f,Cp,Bm];lia
   have e1:HT.sIx (vP (n::r)).length (vP (n::r)).length none=(vP (n::r)).length:=rfl;rw[e0,e1,q1f,Bm];show((vP (n::r)).drop 1).take (r.length+1-1)=_;show(vP r).take r.length=_;rw[<- q1f r,Bi]
  have hat0:atI (vP (n::r)) 0=some (V.str (mk n)):=z2i (show(vP (n::r))[0]?=some (V.str (mk n)) from rfl);refine⟨_,rfl,.inr (.inl ⟨p,_,0,.str (mk n),rfl,rfl,SqT.of hp,hat0,?_⟩)⟩;refine⟨_,rfl,_,rfl,.inr (.inr ⟨p,_,rfl,SqT.of hp,hw,fun p1 hp1=>?_⟩)⟩;rw[show cutV (vP (n::r)) (some (1:Int)) none=vP r from ec];have s1:=(Same.refl H).new (o:=.tup (vP r)) hp1;have h1:upd H p1 (.tup (vP r)) p1=some (.tup (vP r)):=q0b;generalize upd H p1 (.tup (vP r))=H1 at s1 h1;refine .inr (.inl ⟨p1,rfl,⟨_,SqT.of h1⟩,?_⟩);have hsz:∀i,(jn ((n::r).take (i+1))).length<=100:=fun i=>by
   have h2:=z8q (xs:=(n::r).take (i+1)) (m:=12) fun x hx=>z4q ok x (Cj hx);have h3:((n::r).take (i+1)).length<=6:=by have:=ok.few;rw[Bf];lia
   have h4:((n::r).take (i+1)).length*(12+1)<=6*13:=Qv _ h3;lia
  refine x3e (xs:=vP r) (fun i σ' H'=>(∃x,σ'=[some (.ref p),some (.str (mk (jn ((n::r).take (i+1))))),x])/\H'=H1) ⟨⟨none,rfl⟩,rfl⟩ (fun i σ' H' _ x=>by rw[x.2];exact SqT.of h1) ?_ ?_
  ·rintro i x σ' H' hx ⟨⟨y,rfl⟩,rfl⟩;obtain⟨l,hl,rfl⟩:∃l,r[i]?=some l/\x=.str (mk l):=by
    rw[Aq] at hx;cases e:r[i]? with
    |none=>rw[e] at hx;cases hx
    |some z=>rw[e] at hx;cases hx;exact⟨z,rfl,rfl⟩
   have hlz:=z4q ok l (Ak _ (As hl));have h3:=hsz i;have e5:jn ((n::r).take (i+1+1))=jn ((n::r).take (i+1))++47::l:=by
    have:(n::r).take (i+1+1)=(n::r).take (i+1)++[l]:=by rw[Bs];show _++(r[i]?).toList=_;rw[hl];rfl
    rw[this];exact z8p (by simp) l
   refine⟨_,rfl,.inr (.inl ⟨_,_,rfl,rfl,by rw[q0r,sls,q0r];exact small (by show _+1<=_;lia),?_⟩)⟩;refine⟨_,rfl,.inr (.inl ⟨_,_,rfl,rfl,?_,?_⟩)⟩
   ·rw[sls,q2d,q0r,q0r,Ai];exact small (by show _+1+_<=_;lia)
   ·refine⟨⟨some (.str (mk l)),?_⟩,rfl⟩;rw[sls,q2d,q2d,e5,Cg];rfl
  ·rintro σ' H' ⟨⟨y,rfl⟩,rfl⟩;refine⟨_,rfl,?_⟩;have:=k _ s1;rw[q1f];rw[Dw (by rw[Bm];exact Aj _)];exact this
structure CallsLo (P:Program) (w:World) (K:Ah) (mg:Str->Option Value) (base:Heap):Prop where
 show_path:Cal P w K mg base "show_path" 1 ["path"] (spShow K)
def spLines:Sp:=fun vs H Q _=>∃L zs,vs=[.ref L]/\ML H L zs/\(∀m∈zs.map (·.2),okMv m)/\zs.length<=400/\∀D H',H D=none->Same H H'->H' D=some (.lst (vL (lnsB (zs.map (·.2)))))->Q (.ref D) H'
abbrev q4x:Stmt:=top 44
theorem sc_lines_of:FnScope ["row", "lines"] ["row"] (defScope q4x):=by trivial
theorem z3h(D:Df K mg "lines_of" q4x ["row"])(T:Txt mg)(C:CallsLo P w K mg base):Cal P w K mg base "lines_of" 2 ["row"] spLines:=by
 refine D.cal sc_lines_of (fun vs H Q E h=>?_) (fun f cdv A outer s H vs Q E hr h=>?_)
 ·obtain⟨L,zs,rfl,_⟩:=h;rfl
 ·obtain⟨L,zs,rfl,ml,okm,few,k⟩:=h;refine⟨_,(q0d (q9l (i:=1) ["path", "place"] [] sc_lines_of.nd rfl (by trivial) rfl (@q6j _ _ _ _ K rfl (pv 0)) (fun _ _ _ _ _=>(@q1w _ _ _ _ (2) _ K rfl rfl (q0l (q0i (i:=0) (show(["path", "place"]:List Str).Nodup by decide +kernel) rfl (by trivial)) (q0l (q0i (i:=1) (show(["path", "place"]:List Str).Nodup by decide +kernel) rfl (by trivial)) q1j)) (by rfl) (by rfl))) (fun _ _ _ _ _=>q1r) (fun _ _ _ _ _=>(z8g z8k (z8j (pe_c C.show_path hr (q0a (pv 0) q0c))) (z4e z8k (z4e (z8j (pe_c C.show_path hr (q0a (pv 1) q0c))) z8h))))) (q0d (q1c (@bm_k _ _ _ _ _ _ _ _ _ _ _ _ K rfl Ci Cs Ct q1q (pv 1) (q0a q0t q0c) (by rfl) (by rfl) (by rfl) (by rfl) (by rfl))) (q0d (q1c (@bm_k _ _ _ _ _ _ _ _ _ _ _ _ K rfl Ci PySem.F.slot_list_extend PySem.F.type_list_extend z6u (pv 1) (q0a (q1s ["at"] [] rfl (q1p rfl T.b_range (q0a (q0h (q1k K rfl) (by rfl) T.b_len Ax (q0a (pv 0) q0c)) q0c)) (fun _ _ _ _ _=>(q0i (i:=0) (show(["at"]:List Str).Nodup by decide +kernel) rfl (by trivial))) (fun _ _ _ _ _=>q1r) (fun _ _ _ _ _=>(z8g z8k (z8j (pv 0)) z8h))) q0c) (by rfl) (by rfl) (by rfl) (by rfl) (by rfl))) (q0f (q0j (pv 1)))))),?_⟩;refine⟨_,rfl,.inl ⟨L,rfl,⟨_,SqL.of ml.at_⟩,fun D hD=>?_⟩⟩;refine z4r ml hD (by lia) okm (fun A1 B1 m H2 Q' om hA hB q=>?_) fun H2 s2 h2=>?_
  ·have j1:=q3o om.1;have j2:=q3o om.2;have f1:=om.1.few;have f2:=om.2.few;have sz:∀{q:Pth},okP q->∀x∈q,x.length<=20:=fun{q} o x hx=>by have:=z4q o x hx;lia
   have e1:Hd++Ad "move " ++ mk (jn m.1)=mk (MVT++jn m.1):=by rw[z9c,mvw,q2d]
   have e2:Hd++Ad "move " ++ mk (jn m.1)++Ad " " = mk (MVT++(jn m.1++[32])):=by rw[e1,spc,q2d,Cg]
   have e3:Hd++Ad "move " ++ mk (jn m.1)++Ad " " ++ mk (jn m.2)=mk (mvT m):=by
    rw[e2,q2d,Cg,Cg];rfl
   have l3:=z3e om;refine⟨by decide +kernel,_,rfl,A1,m.1,rfl,SqT.of hA,by lia,sz om.1,.inl ⟨_,rfl,small (by rw[q0r];lia),?_,?_⟩⟩
   ·rw[e1,q0r,Ai,q5y];exact small (by lia)
   refine⟨?_,_,rfl,B1,m.2,rfl,SqT.of hB,by lia,sz om.2,.inl ⟨_,rfl,small (by rw[q0r];lia),?_,?_,?_⟩⟩
   ·rw[e2,q0r,Ai,Ai,q5y];exact small (by show 5+(_+1)<=_;lia)
   ·rw[e3,q0r];exact small (by lia)
   ·rw[e3,q0r];exact small (by lia)
   ·show Q' (.str (Hd++Ad "move " ++ mk (jn m.1)++Ad " " ++ mk (jn m.2))) H2;rw[e3];exact q _ (Same.refl _)
  have lm:((zs.map (·.2)).map mvT).length=zs.length:=by rw[Ac,Ac]
  refine⟨_,rfl,.inl ⟨rfl,_,SqL.of h2⟩,D,_,_,rfl,rfl,h2,small' (by rw[Ac,lm];lia),?_⟩;have e1:vL ((zs.map (·.2)).map mvT)++[V.str (Ad "begin")]=vL ((zs.map (·.2)).map mvT++[BGN]):=by rw[bgw,z9e]
  rw[e1];have s3:Same H (upd H2 D (.lst (vL ((zs.map (·.2)).map mvT++[BGN])))):=s2.put hD;have h3:upd H2 D (.lst (vL ((zs.map (·.2)).map mvT++[BGN]))) D=some (.lst (vL ((zs.map (·.2)).map mvT++[BGN]))):=q0b;generalize upd H2 D (.lst (vL ((zs.map (·.2)).map mvT++[BGN])))=H3 at s3 h3;have ml3:=ml.same s3;refine⟨_,rfl,.inl ⟨rfl,_,SqL.of h3⟩,_,rfl,_,_,rfl,.inl ⟨_,SqL.of ml3.at_,rfl⟩,_,rfl,by lia,by rw[Ac];lia,fun D2 hD2=>?_⟩;have e2:((zs.map fun z=>V.ref z.1).length:Int).toNat=(zs.map (·.2)).length:=by rw[Cp,Ac,Ac]
  rw[e2];refine z4s hD2 (by rw[Ac];lia) (fun i H4 Q' hi q=>?_) fun H4 s4 h4=>?_
  ·have e3:Hd++Ad "done " ++ Ad (toString ((i:Nat):Int))=mk (dnT i):=by rw[z9c,dnw,x3s,q2d];rfl
   have l3:=z3f hi;refine⟨by decide +kernel,_,rfl,.inr ⟨i,rfl,by lia,?_,?_,?_⟩⟩
   ·rw[e3,q0r];exact small (by lia)
   ·rw[e3,q0r];exact small (by lia)
   ·show Q' (.str (Hd++Ad "done " ++ Ad (toString ((i:Nat):Int)))) H4;rw[e3];exact q
  refine⟨D,D2,_,_,rfl,rfl,s4 _ _ h3,h4,small (by rw[Ac,Ai,lm,Ac,Ac,Ky,Ac];show _+1+_<=_;lia),?_⟩;have e3:vL ((zs.map (·.2)).map mvT++[BGN])++vL ((List.range (zs.map (·.2)).length).map dnT)=vL (lnsB (zs.map (·.2))):=by
   unfold lnsB;rw[show(zs.map (·.2)).map mvT++BGN::(List.range (zs.map (·.2)).length).map dnT=((zs.map (·.2)).map mvT++[BGN])++(List.range (zs.map (·.2)).length).map dnT from by rw[Cg];rfl];exact An.symm
  rw[e3];exact⟨_,rfl,k D _ hD ((s3.trans s4).put hD) q0b⟩
structure CallsSt (P:Program) (w:World) (K:Ah) (mg:Str->Option Value) (base:Heap):Prop where
 path_text:Cal P w K mg base "_law_path_text" 1 ["_law_path"] spPathText
def bkN(ms:List Mv)(n:Nat):List Nat:=bkT ((lnsB ms).take (wr ms.length n))
def spStop:Sp:=fun vs H Q _=>∃L zs,∃n:Nat,vs=[.ref L,.int (n:Int)]/\ML H L zs/\(∀m∈zs.map (·.2),okMv m)/\zs.length<=400/\n<=3*zs.length+2/\∀T H',H T=none->Same H H'->H' T=some (.tup [.str (mk (bkN (zs.map (·.2)) n)),.int (md zs.length n:Int)])->Q (.ref T) H'
abbrev z3i:Stmt:=top 66
theorem sc_stop:FnScope ["_law_row_here", "_law_steps", "_law_lines", "_law_more"] ["_law_row_here", "_law_steps"] (defScope z3i):=by trivial
theorem x4s(D:Df K mg "_law_stop" z3i ["_law_row_here", "_law_steps"])(T:Txt mg)(C:CallsSt P w K mg base):Cal P w K mg base "_law_stop" 2 ["_law_row_here", "_law_steps"] spStop:=by
 refine D.cal sc_stop (fun vs H Q E h=>?_) (fun f cdv A outer s H vs Q E hr h=>?_)
 ·obtain⟨L,zs,n,rfl,_⟩:=h;rfl
 ·obtain⟨L,zs,n,rfl,ml,okm,few,hn,k⟩:=h;refine⟨_,(q0d (q9l (i:=2) ["_law_path", "_law_place"] [] sc_stop.nd rfl (by trivial) rfl (@q6j _ _ _ _ K rfl (q0s (sl_k K rfl) (pv 0) q0x (q0u (pv 1)))) (fun _ _ _ _ _=>(@q1w _ _ _ _ (2) _ K rfl rfl (q0l (q0i (i:=0) (show(["_law_path", "_law_place"]:List Str).Nodup by decide +kernel) rfl (by trivial)) (q0l (q0i (i:=1) (show(["_law_path", "_law_place"]:List Str).Nodup by decide +kernel) rfl (by trivial)) q1j)) (by rfl) (by rfl))) (fun _ _ _ _ _=>q1r) (fun _ _ _ _ _=>(q0p q0q (q0p q0q (q0p q0q q0t (pe_c C.path_text hr (q0a (pv 0) q0c))) q0t) (pe_c C.path_text hr (q0a (pv 1) q0c))))) (q5d (q0v (q0o x0c (pv 1) (q0h (q1k K rfl) (by rfl) T.b_len Ax (q0a (pv 0) q0c)) (nomark _)) (q0f (q1c (@bm_k _ _ _ _ _ _ _ _ _ _ _ _ K rfl Ci Cs Ct q1q (pv 2) (q0a q0t q0c) (by rfl) (by rfl) (by rfl) (by rfl) (by rfl)))) q0k) (q0d (q0m (i:=3) sc_stop.nd rfl (by trivial) (q0h (q6w rfl) (by rfl) T.b_max (by decide +kernel) (q0a q0g (q0a (q0p q5c (q0p q5c (pv 1) (q0h (q1k K rfl) (by rfl) T.b_len Ax (q0a (pv 0) q0c))) q0g) q0c)))) (q0d (q0m (i:=2) sc_stop.nd rfl (by trivial) (q0p q0q (pv 2) (q1s ["_law_k"] [] rfl (q1p rfl T.b_range (q0a (q0p q5p (pv 3) q0g) q0c)) (fun _ _ _ _ _=>(q0i (i:=0) (show(["_law_k"]:List Str).Nodup by decide +kernel) rfl (by trivial))) (fun _ _ _ _ _=>q1r) (fun _ _ _ _ _=>(q0p q0q q0t (q2r z7h (by rfl) T.b_str (by decide +kernel) (q0a (pv 0) q0c))))))) (q0f (q0j (q0z (q0a (@bm_k _ _ _ _ _ _ _ _ _ _ _ _ K rfl By Gm Gn (z0w K rfl) q0t (q0a (q1s ["_law_line"] [] rfl (@q6j _ _ _ _ K rfl (pv 2)) (fun _ _ _ _ _=>(q0i (i:=0) (show(["_law_line"]:List Str).Nodup by decide +kernel) rfl (by trivial))) (fun _ _ _ _ _=>q1r) (fun _ _ _ _ _=>(q0p q0q (pv 0) q0t))) q0c) (by rfl) (by rfl) (by rfl) (by rfl) (by rfl)) (q0a (q0p q5p (q0p q0q (pv 3) q0g) q0g) q0c))))))))),?_⟩;refine⟨_,rfl,_,rfl,_,rfl,.inr (.inl ⟨L,_,rfl,SqL.of ml.at_,fun L1 hL1=>?_⟩)⟩;rw[q3p];have ml1:=ml.pre hL1 n;have s1:=(Same.refl H).new (o:=.lst ((zs.map fun z=>V.ref z.1).take n)) hL1;generalize upd H L1 (.lst ((zs.map fun z=>V.ref z.1).take n))=H1 at ml1 s1;refine .inl ⟨L1,rfl,⟨_,SqL.of ml1.at_⟩,fun D hD=>?_⟩;have hDH:H D=none:=s1.free hD;refine z4r ml1 hD (by rw[Bf];lia) (fun m hm=>okm m (by rw[Dv] at hm;exact Cj hm)) (fun A1 B1 m H2 Q' om hA hB q=>?_) fun H2 s2 h2=>?_
  ·have j1:=q3o om.1;have j2:=q3o om.2;refine⟨_,rfl,A1,m.1,rfl,hA,om.1,fun H3 s3=>.inr (.inl ⟨_,_,rfl,rfl,?_,.inr (.inl ⟨_,_,rfl,rfl,?_,?_⟩)⟩)⟩
   ·rw[mvw,q0r,q0r,q5y];exact small (by lia)
   ·rw[mvw,spc,q2d,q0r,q0r,Ai,q5y];exact small (by show 5+_+1<=_;lia)
   refine⟨_,rfl,B1,m.2,rfl,s3 _ _ hB,om.2,fun H4 s4=>.inr (.inl ⟨_,_,rfl,rfl,?_,?_⟩)⟩
   ·rw[mvw,spc,q2d,q2d,q0r,q0r,Ai,Ai,q5y];exact small (by show 5+_+1+_<=_;lia)
   ·have e3:Ad "move " ++ mk (jn m.1)++Ad " " ++ mk (jn m.2)=mk (mvT m):=by rw[mvw,spc,q2d,q2d,q2d,Cg,Cg];rfl
    rw[e3];exact q _ (s3.trans s4)
  have s12:=s1.trans s2;have lt:(zs.take n).length<=400:=by rw[Bf];lia
  have ml2:=ml.same s12;refine⟨fun σ' H'=>σ'=[some (.ref L),some (.int (n:Int)),some (.ref D),none]/\Same H H'/\H' D=some (.lst (vL (((zs.map (·.2)).take n).map mvT++(if zs.length<n then[BGN] else[])))),?_,?_⟩;rotate_left
  ·refine⟨_,rfl,_,rfl,_,_,rfl,.inl ⟨_,SqL.of ml2.at_,rfl⟩,_,_,rfl,rfl,_,rfl,?_⟩;rw[Ac,<- Dv];refine iteB (fun hb=>?_) (fun hb=>?_)
   ·have hb:(zs.length:Int)<(n:Int):=of_decide_eq_true hb;refine⟨_,rfl,.inl ⟨rfl,_,SqL.of h2⟩,D,_,_,rfl,rfl,h2,small' (by rw[Ac,Ac,Ac];lia),rfl,s12.put hDH,?_⟩;rw[q0b,if_pos (by lia),bgw];exact congrArg some (congrArg HO.lst (z9e _ _))
   ·have hb:¬(zs.length:Int)<(n:Int):=of_decide_eq_false hb;refine⟨rfl,s12,?_⟩;rw[if_neg (by lia),Bt];exact h2
  rintro σ' H3 ⟨rfl,s3,h3⟩;have ml3:=ml.same s3;refine⟨_,rfl,_,rfl,_,_,rfl,.inl ⟨_,SqL.of ml3.at_,rfl⟩,_,_,rfl,rfl,_,_,rfl,rfl,_,_,rfl,?_⟩;have em:(if (n:Int)-((zs.map fun z=>V.ref z.1).length:Int)-1>0 then(n:Int)-((zs.map fun z=>V.ref z.1).length:Int)-1 else 0)=((n-(zs.length+1):Nat):Int):=by
   rw[Ac];split<;>lia
  rw[em];have hq:((n-(zs.length+1):Nat):Int) / 2=(((n-(zs.length+1)) / 2:Nat):Int):=rfl;have hqb:(n-(zs.length+1)) / 2<=zs.length:=by lia
  refine⟨_,rfl,_,rfl,_,_,rfl,rfl,⟨by decide,by decide⟩,_,rfl,by lia,by lia,fun D2 hD2=>?_⟩;rw[hq,Cp];refine z4s hD2 (by lia) (fun i H4 Q' hi q=>?_) fun H4 s4 h4=>?_
  ·have l3:=z3f hi;have dl:=dg_le hi;refine⟨_,rfl,i,rfl,by lia,.inr (.inl ⟨_,_,rfl,rfl,?_,?_⟩)⟩
   ·rw[dnw,x3s,q0r,q0r,z9d];exact small (by lia)
   ·have e3:Ad "done " ++ Ad (toString ((i:Nat):Int))=mk (dnT i):=by rw[dnw,x3s,q2d];rfl
    rw[e3];exact q
  have ll:(vL (((zs.map (·.2)).take n).map mvT++(if zs.length<n then[BGN] else[]))).length<=401:=by
   rw[Ac,Ai,Ac,Bf,Ac];split
   ·show _+1<=_;lia
   ·show _+0<=_;lia
  have l4:(vL ((List.range ((n-(zs.length+1)) / 2)).map dnT)).length=(n-(zs.length+1)) / 2:=by rw[Ac,Ac,Ky]
  refine .inr (.inr ⟨D,D2,_,_,rfl,rfl,s4 _ _ h3,h4,small (by lia),fun D3 hD3=>?_⟩);have e5:vL (((zs.map (·.2)).take n).map mvT++(if zs.length<n then[BGN] else[]))++vL ((List.range ((n-(zs.length+1)) / 2)).map dnT)=vL (stL (zs.map (·.2)) n):=by
   unfold stL;rw[Ac];exact An.symm
  rw[e5,stL_eq (by rw[Ac];exact hn)];have s5:=(s3.trans s4).new (o:=.lst (vL ((lnsB (zs.map (·.2))).take (wr (zs.map (·.2)).length n)))) hD3;have h5:upd H4 D3 (.lst (vL ((lnsB (zs.map (·.2))).take (wr (zs.map (·.2)).length n)))) D3=some (.lst (vL ((lnsB (zs.map (·.2))).take (wr (zs.map (·.2)).length n)))):=q0b;generalize upd H4 D3 (.lst (vL ((lnsB (zs.map (·.2))).take (wr (zs.map (·.2)).length n))))=H5 at s5 h5;refine⟨rfl,_,rfl,.inl ⟨D3,rfl,⟨_,SqL.of h5⟩,fun D4 hD4=>?_⟩⟩;refine z9h h5 hD4 (by rw[Bf,q6t,Ac];lia) (fun x hx=>q5n okm (by rw[Ac];lia) x (Cj hx)) (fun l H6 Q' hl q=>?_) fun H6 s6 h6 hz=>?_
  ·refine⟨_,rfl,.inr (.inl ⟨_,_,rfl,rfl,?_,?_⟩)⟩
   ·rw[nlw,q0r,q0r];exact small (by show _+1<=_;lia)
   ·rw[nlw,q2d];exact q
  refine⟨_,D4,_,rfl,rfl,.inl (SqL.of h6),hz,?_⟩;rw[z9g];refine⟨_,rfl,.inl ⟨_,_,rfl,rfl,_,_,rfl,rfl,⟨by decide,by decide⟩,by show 2<=sizeLine;decide,fun T1 hT1=>?_⟩⟩;have s7:=(s5.trans s6)
  exact k T1 _ (s7.free hT1) (s7.new hT1) q0b
def okMs(ms:List Mv):Prop:=∀m∈ms,okP m.1/\okP m.2
theorem ne_dt{H:Hp}{x y:V}{d:PyData}{Q:VK}(hx:Dt K H x d)(hy:Dt K H y d)(l:d.canLay0=true)(dp:d.depth<=100)(k:Q (.bl false) H):rNeU K x y H Q:=by
 refine .inr ⟨_,_,hx,hy,l,l,by rw[Nat.min_self];exact dp,?_⟩;rw[SeqAt.eqv_refl _ l];exact k
theorem q8c{bl:Bool}:∀{ms:List Mv} {rows:List Rw},WkOk bl rows ms->okMs ms
 |[],_,_=>fun _ h=>nomatch h
 |m::ms,rows,h=>fun x hx=>by
  rcases Bd.mp hx with rfl|hx
  ·exact⟨h.1.okp,h.1.fr.ok⟩
  ·exact q8c h.2 x hx
structure Dk (K:Ah) (c:Addr):Prop where
 cl:Cls K c
 h:NoAttr K c "held"
 m:NoAttr K c "moves"
 s:NoAttr K c "steps"
abbrev dF(h L:Addr)(n:Nat):List (Str×V):=[("held",.ref h),("moves",.ref L),("steps",.int (n:Int))]
structure DoAt (c cD:Addr) (H:Hp) (x h d L:Addr) (bl:Bool) (R0:List Rw) (zs:List Zm) (n:Nat):Prop where
 i:∃dx,H x=some (.ins cD dx (dF h L n))
 ha:∃rows,HallAt c H h d bl rows/\rows.Perm (wk R0 ((zs.map (·.2)).take (md zs.length n)))
 ml:ML H L zs
 ok:WkOk bl R0 (zs.map (·.2))
 l60:R0.length<=60
 few:zs.length<=100
 le:n<=3*zs.length+1
theorem DoAt.same{c cD:Addr}{H H':Hp}{x h d L:Addr}{bl:Bool}{R0:List Rw}{zs:List Zm}{n:Nat}(D:DoAt c cD H x h d L bl R0 zs n)(s:Same H H'):DoAt c cD H' x h d L bl R0 zs n :=
 ⟨D.i.imp fun dx e=>s _ _ e,D.ha.imp fun r e=>⟨e.1.same s,e.2⟩,D.ml.same s,D.ok,D.l60,D.few,D.le⟩
theorem DoAt.fd{c cD a b:Addr}{H H':Hp}{x h d L:Addr}{bl:Bool}{R0:List Rw}{zs:List Zm}{n:Nat}(D:DoAt c cD H x h d L bl R0 zs n)(F:FeedAt H a b)(fd:Fd a b H H')(hL:L≠a):DoAt c cD H' x h d L bl R0 zs n:=by
 obtain⟨i,j,q⟩:=F.fa;exact⟨D.i.imp fun dx e=>fd.at e fun z=>by(rw[z,q] at e;cases e),D.ha.imp fun r e=>⟨z0d e.1 F fd,e.2⟩,D.ml.fd F fd hL,D.ok,D.l60,D.few,D.le⟩
def Kp(x h:Addr)(H H':Hp):Prop:=∀y u,y≠x->y≠h->H y=some u->H' y=some u
theorem Kp.refl{x h:Addr}{H:Hp}:Kp x h H H:=fun _ _ _ _ e=>e
theorem Kp.trans{x h:Addr}{H H' H2:Hp}(a:Kp x h H H')(b:Kp x h H' H2):Kp x h H H2:=fun y u n m e=>b y u n m (a y u n m e)
theorem Kp.ml{x h L:Addr}{zs:List Zm}{H H':Hp}(k:Kp x h H H'){C1 C2 d1 d2:Addr}{f1 f2:List (Str×V)}(hx:H x=some (.ins C1 d1 f1))(hh:H h=some (.ins C2 d2 f2))(m:ML H L zs):ML H' L zs :=
 ⟨k _ _ (fun z=>by have:=m.at_;rw[z,hx] at this;cases this) (fun z=>by have:=m.at_;rw[z,hh] at this;cases this) m.at_,fun z hz=>(m.pr z hz).keep fun T xs e=>k _ _ (fun z=>by rw[z,hx] at e;cases e) (fun z=>by rw[z,hh] at e;cases e) e⟩
def spLeft(cD:Addr):Sp:=fun vs H Q _=>∃x dx h L n zs,vs=[.ref x]/\H x=some (.ins cD dx (dF h L n))/\ML H L zs/\Q (.int (3*(zs.length:Int)+1-(n:Int))) H
abbrev q3t:Stmt:=inClass (top 45) 3
theorem z2a:FnScope ["self"] ["self"] (defScope q3t):=by trivial
theorem x4t{cD:Addr}(D:Mf K cD "left" "Doer.left" q3t ["self"])(dk:Dk K cD)(T:Txt mg):MCal P w K mg base cD "left" 1 ["self"] (spLeft cD):=by
 refine D.cal dk.cl z2a (fun vs H Q E h=>?_) (fun f cdv A outer s H vs Q E hr h=>?_)
 ·obtain⟨x,dx,h,L,n,zs,rfl,_⟩:=h;rfl
 ·obtain⟨x,dx,h,L,n,zs,rfl,hx,ml,k⟩:=h;refine⟨_,(q0f (q0j (q0p q5c (q0p q0q (q0p q2n q0g (q0h (q1k K rfl) (by rfl) T.b_len Ax (q0a (@q2s _ _ _ _ _ K rfl (pv 0) (by rfl)) q0c))) q0g) (@q2s _ _ _ _ _ K rfl (pv 0) (by rfl))))),?_⟩;refine⟨_,rfl,x,cD,dx,_,_,rfl,hx,dk.cl,dk.m,rfl,_,_,rfl,.inl ⟨_,SqL.of ml.at_,rfl⟩,.inl ⟨_,_,rfl,rfl,.inl ⟨by decide,by decide⟩,.inl ⟨_,_,rfl,rfl,_,rfl,x,cD,dx,_,_,rfl,hx,dk.cl,dk.s,rfl,_,_,rfl,rfl,?_⟩⟩⟩;rw[Ac];exact k
structure CallsD1 (P:Program) (w:World) (K:Ah) (mg:Str->Option Value) (base:Heap) (c:Addr):Prop where
 m_move:MCal P w K mg base c "move" 4 ["self", "path", "place"] (spMove c)
def spDoOne(c cD:Addr):Sp:=fun vs H Q _=>∃x h d L bl R0 zs n,vs=[.ref x]/\DoAt c cD H x h d L bl R0 zs n/\n<3*zs.length+1/\∀d' H',Kp x h H H'->DoAt c cD H' x h d' L bl R0 zs (n+1)->Q .non H'
abbrev q2p:Stmt:=inClass (top 45) 2
theorem sc_Doer_do_one:FnScope ["self", "behind_begin", "path", "place"] ["self"] (defScope q2p):=by trivial
theorem z9l{c cD:Addr}(D:Mf K cD "do_one" "Doer.do_one" q2p ["self"])(dk:Dk K cD)(T:Txt mg)(C:CallsD1 P w K mg base c):MCal P w K mg base cD "do_one" 5 ["self"] (spDoOne c cD):=by
 refine D.cal dk.cl sc_Doer_do_one (fun vs H Q E h=>?_) (fun f cdv A outer s H vs Q E hr h=>?_)
 ·obtain⟨x,h,d,L,bl,R0,zs,n,rfl,_⟩:=h;rfl
 ·obtain⟨x,h,d,L,bl,R0,zs,n,rfl,da,hn,k⟩:=h;refine⟨_,(q0d (q0m (i:=1) sc_Doer_do_one.nd rfl (by trivial) (q0p q5c (q0p q5c (@q2s _ _ _ _ _ K rfl (pv 0) (by rfl)) (q0h (q1k K rfl) (by rfl) T.b_len Ax (q0a (@q2s _ _ _ _ _ K rfl (pv 0) (by rfl)) q0c))) q0g)) (q5d (q0v (pt_j (@PW.pt _ _ _ (q5a (q0o op_ge (pv 1) q0g (nomark _)) (q2u (q0o (eq_k K rfl hr) (q0p q6v (pv 1) q0g) q0g (nomark _)))))) (q0d (q3g (q1a (ix_k K rfl) (@q2s _ _ _ _ _ K rfl (pv 0) (by rfl)) (q0p q5p (pv 1) q0g) (fun _ _=>rfl)) (@q1w _ _ _ _ (2) _ K rfl rfl (q0l (q0i (i:=2) sc_Doer_do_one.nd rfl (by trivial)) (q0l (q0i (i:=3) sc_Doer_do_one.nd rfl (by trivial)) q1j)) (by rfl) (by rfl))) (q0f (q1c (pe_m C.m_move hr (@q2s _ _ _ _ _ K rfl (pv 0) (by rfl)) (q0a (pv 2) (q0a (pv 3) q0c)))))) q0k) (q0f (x1i K rfl (pv 0) q0g in_add)))),?_⟩;obtain⟨dx,hx⟩:=da.i;obtain⟨rows,hh,pm⟩:=da.ha;obtain⟨dh,hi⟩:=hh.i;have ml:=da.ml;have hxh:x≠h:=fun z=>by rw[z,hi] at hx;cases hx
  have hLh:L≠h:=fun z=>by have:=ml.at_;rw[z,hi] at this;cases this
  refine⟨_,rfl,x,cD,dx,_,_,rfl,hx,dk.cl,dk.s,rfl,_,rfl,x,cD,dx,_,_,rfl,hx,dk.cl,dk.m,rfl,_,_,rfl,.inl ⟨_,SqL.of ml.at_,rfl⟩,_,_,rfl,rfl,_,_,rfl,rfl,?_⟩;rw[Ac];refine⟨fun σ' H'=>(∃x1 x2 x3,σ'=[some (.ref x),x1,x2,x3])/\(∀y u,y≠h->H y=some u->H' y=some u)/\∃d' rows',HallAt c H' h d' bl rows'/\rows'.Perm (wk R0 ((zs.map (·.2)).take (md zs.length (n+1)))),?_,?_⟩
  ·rintro σ' H' ⟨⟨x1,x2,x3,rfl⟩,kp,d',rows',hh',pm'⟩;have hx':=kp _ _ hxh hx;refine⟨_,rfl,x,cD,dx,_,_,rfl,hx',dk.cl,dk.s,rfl,_,_,rfl,rfl,dx,_,hx',by show 3<1000;decide,?_⟩;obtain⟨dh',hi'⟩:=hh'.i;have hdx:d'≠x:=fun z=>by have:=hh'.d;rw[z,hx'] at this;cases this
   refine k d' _ (fun y u n1 n2 e=>by rw[q0e n1];exact kp y u n2 e) ⟨⟨dx,q0b⟩,⟨rows',⟨⟨dh',by rw[q0e hxh.symm];exact hi'⟩,by rw[q0e hdx];exact hh'.d⟩,pm'⟩,?_,da.ok,da.l60,da.few,by have:=da.le;lia⟩;refine⟨by rw[q0e (fun z=>by have:=ml.at_;rw[z,hx] at this;cases this)];exact kp _ _ hLh ml.at_,fun z hz=>(ml.pr z hz).keep fun T' xs e=>?_⟩;rw[q0e (fun z=>by rw[z,hx] at e;cases e)];exact kp _ _ (fun z=>by rw[z,hi] at e;cases e) e
  have stay:¬(zs.length+1<=n/\(n-(zs.length+1))%2=0)->md zs.length (n+1)=md zs.length n:=fun z=>by unfold md;lia
  refine⟨fun bb H2=>bb=decide (zs.length+1<=n/\(n-(zs.length+1))%2=0)/\H2=H,?_,?_⟩;rotate_left
  ·refine⟨_,rfl,_,_,rfl,rfl,_,rfl,iteB (fun hb=>?_) (fun hb=>?_)⟩
   ·have hb:(0:Int)<=(n:Int)-(zs.length:Int)-1:=of_decide_eq_true hb;have e0:(n:Int)-(zs.length:Int)-1=((n-(zs.length+1):Nat):Int):=by lia
    refine⟨_,rfl,_,_,rfl,rfl,by show(0:Int)<2;decide,.inl ⟨rfl,_,rfl,?_,rfl⟩⟩;rw[e0];refine decide_eq_decide.mpr ⟨fun z=>⟨by lia,?_⟩,fun z=>?_⟩
    ·have:((n-(zs.length+1):Nat):Int)%2=0:=by injection z
     lia
    ·have e1:((n-(zs.length+1):Nat):Int)%2=0:=by have:=z.2;lia
     show V.int (((n-(zs.length+1):Nat):Int)%2)=V.int 0;rw[e1]
   ·have hb:¬(0:Int)<=(n:Int)-(zs.length:Int)-1:=of_decide_eq_false hb;exact⟨(decide_eq_false fun z=>hb (by lia)).symm,rfl⟩
  rintro bb H2 ⟨rfl,rfl⟩;refine iteB (fun hb=>?_) (fun hb=>?_)
  ·obtain⟨hb1,hb2⟩:=of_decide_eq_true hb;have e0:((n:Int)-(zs.length:Int)-1) / 2=(((n-(zs.length+1)) / 2:Nat):Int):=by lia
   have m0:md zs.length n=(n-(zs.length+1)) / 2:=by unfold md;lia
   have m1:md zs.length (n+1)=(n-(zs.length+1)) / 2+1:=by unfold md;lia
   have hj:(n-(zs.length+1)) / 2<zs.length:=by lia
   generalize (n-(zs.length+1)) / 2=j at e0 m0 m1 hj;obtain⟨z,hz⟩:∃z,zs[j]?=some z:=⟨zs[j],Cu hj⟩
   obtain⟨A1,B1,g1,g2,g3⟩:=ml.pr z (As hz);have hat:atI (zs.map fun z=>V.ref z.1) (j:Int)=some (.ref z.1):=z2i (by rw[Aq,hz];rfl);refine⟨_,rfl,x,cD,dx,_,_,rfl,hx,dk.cl,dk.m,rfl,_,rfl,_,_,rfl,rfl,⟨by decide,by decide⟩,.inl ⟨L,_,_,_,rfl,rfl,SqL.of ml.at_,by rw[e0];exact hat,?_⟩⟩;refine⟨z.1,_,rfl,SqT.of g1,rfl,_,_,rfl,_,_,rfl,rfl,?_⟩;have hzr:(zs.map (·.2))[j]?=some z.2:=by rw[Aq,hz];rfl
   have e1:(zs.map (·.2)).take (j+1)=(zs.map (·.2)).take j++[z.2]:=by rw[Bs,hzr];rfl
   have mv0:Mvd bl (wk R0 ((zs.map (·.2)).take j)) z.2.1 z.2.2:=by
    have:=(da.ok.take (j+1)).1;rw[e1] at this;exact(WkOk.app.mp this).2.1
   rw[m0] at pm;have mv:=mv0.perm pm;obtain⟨mk0,hp,par⟩:=mv.m;refine⟨_,rfl,x,cD,dx,_,_,rfl,hx,dk.cl,dk.h,rfl,h,dh,_,rfl,hi,rfl,_,rfl,_,rfl,h,d,A1,B1,bl,rows,z.2.1,z.2.2,mk0,rfl,hh,mv.hl,by rw[pm.length_eq,q5k];exact da.l60,g2,g3,hp,par,mv.ne,mv.fr,mv.moved.paths,fun D1 H4 hD1 kp hall4=>?_⟩;refine⟨⟨_,_,_,rfl⟩,kp,D1,_,hall4,?_⟩;rw[m1,e1,q9v];exact pm.map _
  ·have hb:=of_decide_eq_false hb;exact⟨⟨_,_,_,rfl⟩,fun _ _ _ e=>e,d,rows,hh,by rw[stay hb];exact pm⟩
structure CallsDo (P:Program) (w:World) (K:Ah) (mg:Str->Option Value) (base:Heap) (c cD:Addr):Prop where
 m_left:MCal P w K mg base cD "left" 1 ["self"] (spLeft cD)
 m_do_one:MCal P w K mg base cD "do_one" 5 ["self"] (spDoOne c cD)
def spDo(c cD:Addr):Sp:=fun vs H Q _=>∃x h d L bl R0 zs n,∃many:Nat,vs=[.ref x,.int (many:Int)]/\DoAt c cD H x h d L bl R0 zs n/\∀d' H',Kp x h H H'->DoAt c cD H' x h d' L bl R0 zs (min (3*zs.length+1) (n+many))->Q .non H'
abbrev q6a:Stmt:=inClass (top 45) 1
theorem sc_Doer_do:FnScope ["self", "many", "step"] ["self", "many"] (defScope q6a):=by trivial
theorem ok_do{c cD:Addr}(D:Mf K cD "do" "Doer.do" q6a ["self", "many"])(dk:Dk K cD)(T:Txt mg)(C:CallsDo P w K mg base c cD):MCal P w K mg base cD "do" 6 ["self", "many"] (spDo c cD):=by
 refine D.cal dk.cl sc_Doer_do (fun vs H Q E h=>?_) (fun f cdv A outer s H vs Q E hr h=>?_)
 ·obtain⟨x,h,d,L,bl,R0,zs,n,many,rfl,_⟩:=h;rfl
 ·obtain⟨x,h,d,L,bl,R0,zs,n,many,rfl,da,k⟩:=h;refine⟨_,(q0f (q3b Cr rfl (q1p rfl T.b_range (q0a (q0h (q6x rfl) (by rfl) T.b_min (by decide +kernel) (q0a (pv 1) (q0a (q4s C.m_left hr (pv 0)) q0c))) q0c)) (q0i (i:=2) sc_Doer_do.nd rfl (by trivial)) (q0f (q1c (q4s C.m_do_one hr (pv 0)))))),?_⟩;obtain⟨dx,hx⟩:=da.i;have le:=da.le;have few:=da.few;refine⟨_,rfl,_,rfl,x,dx,_,rfl,hx,rfl,x,dx,h,L,n,zs,rfl,hx,da.ml,_,_,rfl,?_⟩;have em:(if 3*(zs.length:Int)+1-(n:Int)<(many:Int) then 3*(zs.length:Int)+1-(n:Int) else(many:Int))=((min (3*zs.length+1-n) many:Nat):Int):=by split<;>lia
  rw[em];refine⟨_,rfl,by lia,by lia,q3h (n:=min (3*zs.length+1-n) many) (fun i σ' H'=>∃x2 d',σ'=[some (.ref x),some (.int (many:Int)),x2]/\Kp x h H H'/\DoAt c cD H' x h d' L bl R0 zs (n+i)) ⟨none,d,rfl,Kp.refl,da⟩ ?_ ?_⟩
  ·rintro i σ' H' hi ⟨x2,d',rfl,kp,da'⟩;obtain⟨dx',hx'⟩:=da'.i;exact⟨_,rfl,x,dx',_,rfl,hx',rfl,x,h,d',L,bl,R0,zs,n+i,rfl,da',by lia,fun d2 H2 kp2 da2=>⟨_,d2,rfl,kp.trans kp2,da2⟩⟩
  ·rintro σ' H' ⟨x2,d',rfl,kp,da'⟩;refine k d' H' kp ?_;rw[show min (3*zs.length+1) (n+many)=n+min (3*zs.length+1-n) many from by lia];exact da'
structure CallsBk (P:Program) (w:World) (K:Ah) (mg:Str->Option Value) (base:Heap):Prop where
 lines_of:Cal P w K mg base "lines_of" 2 ["row"] spLines
def spBook(c cD:Addr):Sp:=fun vs H Q _=>∃x h d L bl R0 zs n,vs=[.ref x]/\DoAt c cD H x h d L bl R0 zs n/\∀H',Same H H'->Q (.str (mk (bkN (zs.map (·.2)) n))) H'
abbrev q3u:Stmt:=inClass (top 45) 4
theorem sc_Doer_book:FnScope ["self", "to_begin", "written"] ["self"] (defScope q3u):=by trivial
theorem x4u{c cD:Addr}(D:Mf K cD "book" "Doer.book" q3u ["self"])(dk:Dk K cD)(T:Txt mg)(C:CallsBk P w K mg base):MCal P w K mg base cD "book" 3 ["self"] (spBook c cD):=by
 refine D.cal dk.cl sc_Doer_book (fun vs H Q E h=>?_) (fun f cdv A outer s H vs Q E hr h=>?_)
 ·obtain⟨x,h,d,L,bl,R0,zs,n,rfl,_⟩:=h;rfl
 ·obtain⟨x,h,d,L,bl,R0,zs,n,rfl,da,k⟩:=h;refine⟨_,(q0d (q0m (i:=1) sc_Doer_book.nd rfl (by trivial) (q0p q0q (q0h (q1k K rfl) (by rfl) T.b_len Ax (q0a (@q2s _ _ _ _ _ K rfl (pv 0) (by rfl)) q0c)) q0g)) (q0d (q0m (i:=2) sc_Doer_book.nd rfl (by trivial) (q0p q0q (q0h (q6x rfl) (by rfl) T.b_min (by decide +kernel) (q0a (@q2s _ _ _ _ _ K rfl (pv 0) (by rfl)) (q0a (pv 1) q0c))) (q0p q5p (q0h (q6w rfl) (by rfl) T.b_max (by decide +kernel) (q0a (q0p q5c (@q2s _ _ _ _ _ K rfl (pv 0) (by rfl)) (pv 1)) (q0a q0g q0c))) q0g))) (q0f (q0j (@bm_k _ _ _ _ _ _ _ _ _ _ _ _ K rfl By Gm Gn (z0w K rfl) q0t (q0a (q1s ["line"] [] rfl (@q6j _ _ _ _ K rfl (q0s (sl_k K rfl) (pe_c C.lines_of hr (q0a (@q2s _ _ _ _ _ K rfl (pv 0) (by rfl)) q0c)) q0x (q0u (pv 2)))) (fun _ _ _ _ _=>(q0i (i:=0) (show(["line"]:List Str).Nodup by decide +kernel) rfl (by trivial))) (fun _ _ _ _ _=>q1r) (fun _ _ _ _ _=>(q0p q0q (pv 0) q0t))) q0c) (by rfl) (by rfl) (by rfl) (by rfl) (by rfl)))))),?_⟩;obtain⟨dx,hx⟩:=da.i;have ml:=da.ml;have few:=da.few;have okm:okMs (zs.map (·.2)):=q8c da.ok;refine⟨_,rfl,x,cD,dx,_,_,rfl,hx,dk.cl,dk.m,rfl,_,_,rfl,.inl ⟨_,SqL.of ml.at_,rfl⟩,.inl ⟨_,_,rfl,rfl,?_⟩⟩;rw[Ac];refine⟨_,rfl,x,cD,dx,_,_,rfl,hx,dk.cl,dk.s,rfl,_,rfl,_,_,rfl,_,rfl,x,cD,dx,_,_,rfl,hx,dk.cl,dk.s,rfl,_,rfl,_,_,rfl,rfl,_,_,rfl,_,_,rfl,rfl,⟨by decide,by decide⟩,.inl ⟨_,_,rfl,rfl,?_⟩⟩;have ew:(if (zs.length:Int)+1<(n:Int) then(zs.length:Int)+1 else(n:Int))+(if (0:Int)>(n:Int)-((zs.length:Int)+1) then 0 else(n:Int)-((zs.length:Int)+1)) / 2=((wr zs.length n:Nat):Int):=by
   unfold wr;split<;>split<;>lia
  rw[ew];refine⟨rfl,_,rfl,x,cD,dx,_,_,rfl,hx,dk.cl,dk.m,rfl,L,zs,rfl,ml,okm,by lia,fun D1 H1 hD1 s1 h1=>?_⟩;refine⟨_,rfl,_,rfl,.inr (.inl ⟨D1,_,rfl,SqL.of h1,fun D2 hD2=>?_⟩)⟩;rw[q3p,<- Dv];have s2:=s1.new (o:=.lst (vL ((lnsB (zs.map (·.2))).take (wr zs.length n)))) hD2;have h2:upd H1 D2 (.lst (vL ((lnsB (zs.map (·.2))).take (wr zs.length n)))) D2=some (.lst (vL ((lnsB (zs.map (·.2))).take (wr zs.length n)))):=q0b;generalize upd H1 D2 (.lst (vL ((lnsB (zs.map (·.2))).take (wr zs.length n))))=H2 at s2 h2;refine .inl ⟨D2,rfl,⟨_,SqL.of h2⟩,fun D4 hD4=>?_⟩;refine z9h h2 hD4 (by rw[Bf,q6t,Ac];lia) (fun y hy=>q5n okm (by rw[Ac];lia) y (Cj hy)) (fun l H6 Q' hl q=>?_) fun H6 s6 h6 hz=>?_
  ·refine⟨_,rfl,.inr (.inl ⟨_,_,rfl,rfl,?_,?_⟩)⟩
   ·rw[nlw,q0r,q0r];exact small (by show _+1<=_;lia)
   ·rw[nlw,q2d];exact q
  refine⟨_,D4,_,rfl,rfl,.inl (SqL.of h6),hz,?_⟩;rw[z9g];have e:bkT ((lnsB (zs.map (·.2))).take (wr zs.length n))=bkN (zs.map (·.2)) n:=by unfold bkN;rw[Ac]
  rw[e];exact k H6 (s2.trans s6)
structure CallsDh (P:Program) (w:World) (K:Ah) (mg:Str->Option Value) (base:Heap) (c:Addr):Prop where
 copied:Cal P w K mg base "copied" 6 ["hall"] (spCopied c)
def spDHall(c cD:Addr):Sp:=fun vs H Q _=>∃x h d L bl R0 zs n,vs=[.ref x]/\DoAt c cD H x h d L bl R0 zs n/\∀h' d' rows' H',Same H H'->H h'=none->HallAt c H' h' d' bl rows'->rows'.Perm (wk R0 ((zs.map (·.2)).take (md zs.length n)))->Q (.ref h') H'
abbrev q3v:Stmt:=inClass (top 45) 5
theorem z2b:FnScope ["self"] ["self"] (defScope q3v):=by trivial
theorem x1t{c cD:Addr}(D:Mf K cD "hall" "Doer.hall" q3v ["self"])(dk:Dk K cD)(T:Txt mg)(C:CallsDh P w K mg base c):MCal P w K mg base cD "hall" 7 ["self"] (spDHall c cD):=by
 refine D.cal dk.cl z2b (fun vs H Q E h=>?_) (fun f cdv A outer s H vs Q E hr h=>?_)
 ·obtain⟨x,h,d,L,bl,R0,zs,n,rfl,_⟩:=h;rfl
 ·obtain⟨x,h,d,L,bl,R0,zs,n,rfl,da,k⟩:=h;refine⟨_,(q0f (q0j (pe_c C.copied hr (q0a (@q2s _ _ _ _ _ K rfl (pv 0) (by rfl)) q0c)))),?_⟩;obtain⟨dx,hx⟩:=da.i;obtain⟨rows,hh,pm⟩:=da.ha;exact⟨_,rfl,x,cD,dx,_,_,rfl,hx,dk.cl,dk.h,rfl,h,d,bl,rows,rfl,hh,(da.ok.take _).1.fin.perm pm,by rw[pm.length_eq,q5k];exact da.l60,fun h' d' rows' H' s1 hn hh' pm'=>k h' d' rows' H' s1 hn hh' (pm'.trans pm)⟩
structure CallsDi (P:Program) (w:World) (K:Ah) (mg:Str->Option Value) (base:Heap) (c:Addr):Prop where
 copied:Cal P w K mg base "copied" 6 ["hall"] (spCopied c)
 walk:Cal P w K mg base "walk" 7 ["hall", "row"] (spWalk c)
def spDInit(c cD:Addr):Sp:=fun vs H Q _=>∃x dx h d L bl rows zs,vs=[.ref x,.ref h,.ref L]/\H x=some (.ins cD dx [])/\HallAt c H h d bl rows/\rows.length<=60/\ML H L zs/\WkOk bl rows (zs.map (·.2))/\zs.length<=100 /\
 ∀h' d' L' H',H h'=none->H L'=none->(∀y u,y≠x->H y=some u->H' y=some u)->DoAt c cD H' x h' d' L' bl rows zs 0->Q .non H'
abbrev q0y:Stmt:=inClass (top 45) 0
theorem q6m:FnScope ["self", "hall", "row"] ["self", "hall", "row"] (defScope q0y):=by trivial
theorem x1u{c cD:Addr}(D:Kf0 K mg cD "Doer" "Doer.__init__" q0y ["self", "hall", "row"])(dk:Dk K cD)(T:Txt mg)(C:CallsDi P w K mg base c):KCal0 P w K mg base cD "Doer" 8 ["self", "hall", "row"] (spDInit c cD):=by
 refine D.cal q6m (fun vs H Q E h=>?_) (fun f cdv A outer s H vs Q E hr h=>?_)
 ·obtain⟨x,dx,h,d,L,bl,rows,zs,rfl,_⟩:=h;rfl
 ·obtain⟨x,dx,h,d,L,bl,rows,zs,rfl,hx,hh,h60,ml,ok,few,k⟩:=h;refine⟨_,(q0d (q1c (pe_c C.walk hr (q0a (pv 1) (q0a (pv 2) q0c)))) (q0d (@q6h _ _ _ _ _ _ _ _ K rfl (pv 0) (pe_c C.copied hr (q0a (pv 1) q0c)) (by rfl)) (q0d (@q6h _ _ _ _ _ _ _ _ K rfl (pv 0) (q2r (z7b K rfl) (by rfl) T.b_list (by decide +kernel) (q0a (pv 2) q0c)) (by rfl)) (q0f (@q6h _ _ _ _ _ _ _ _ K rfl (pv 0) q0g (by rfl)))))),?_⟩;refine⟨_,rfl,_,rfl,h,d,L,bl,rows,zs,rfl,hh,h60,ml,ok,fun h1 d1 rows1 H1 s1 _ hall1 pm1=>?_⟩;refine⟨_,rfl,h,d,bl,rows,rfl,hh.same s1,ok.hd,h60,fun h2 d2 rows2 H2 s2 hn2 hall2 pm2=>?_⟩;have s12:=s1.trans s2;refine⟨_,rfl,x,cD,dx,_,rfl,s12 _ _ hx,dk.cl,dk.h,by decide,?_⟩;have hn2H:=s1.free hn2;have hLx:L≠x:=fun z=>by have:=ml.at_;rw[z,hx] at this;cases this
  have hxh2:x≠h2:=fun z=>by rw[<- z,hx] at hn2H;cases hn2H
  refine⟨_,rfl,L,_,rfl,.inl (SqL.of (by rw[q0e hLx];exact s12 _ _ ml.at_)),fun L3 hL3=>?_⟩;have hL3x:L3≠x:=fun z=>by rw[z,q0b] at hL3;cases hL3
  have hL3H:H2 L3=none:=by rw[q0e hL3x] at hL3;exact hL3
  refine⟨_,rfl,x,cD,dx,_,rfl,by rw[q0e hL3x.symm];exact q0b,dk.cl,dk.m,by show 1<1000;decide,?_⟩;refine⟨_,rfl,x,cD,dx,_,rfl,q0b,dk.cl,dk.s,by show 2<1000;decide,?_⟩;obtain⟨dh2,hi2⟩:=hall2.i;have hd2x:d2≠x:=fun z=>by have:=hall2.d;rw[z,s12 _ _ hx] at this;cases this
  have kp:∀y u,y≠x->H2 y=some u->upd (upd (upd (upd H2 x (.ins cD dx (putF ("held" : Str) (.ref h2) []))) L3 (.lst (zs.map fun z=>V.ref z.1))) x (.ins cD dx (putF ("moves" : Str) (.ref L3) (putF ("held" : Str) (.ref h2) [])))) x (.ins cD dx (putF ("steps" : Str) (.int 0) (putF ("moves" : Str) (.ref L3) (putF ("held" : Str) (.ref h2) [])))) y=some u:=fun y u n e=>by
   rw[q0e n,q0e n,q0e (fun z=>by rw[z,hL3H] at e;cases e),q0e n];exact e
  have tk:∀T' xs,H2 T'=some (.tup xs)->T'≠x:=fun T' xs e z=>by rw[z,s12 _ _ hx] at e;cases e
  refine k h2 d2 L3 _ hn2H (s12.free hL3H) (fun y u n e=>kp y u n (s12 _ _ e)) ⟨⟨dx,q0b⟩,⟨rows2,⟨⟨dh2,kp _ _ hxh2.symm hi2⟩,kp _ _ hd2x hall2.d⟩,?_⟩,⟨?_,fun z hz=>((ml.same s12).pr z hz).keep fun T' xs e=>kp _ _ (tk _ _ e) e⟩,ok,h60,few,Br _⟩
  ·have e0:md zs.length 0=0:=by unfold md;lia
   rw[e0,Ga];exact pm2
  ·rw[q0e hL3x,q0e hL3x];exact q0b
theorem no32:(32:Nat)∉HM.NS:=by decide +kernel
theorem no10:(10:Nat)∉HM.NS:=by decide +kernel
theorem q8d{q:Pth}(c:Nat)(hc:c∉HM.NS)(h47:c≠47)(h:∀n∈q,okN n):c∉jn q:=by
 induction q with
 |nil=>intro z;cases z
 |cons a r ih =>
  cases r with
  |nil=>exact fun z=>hc ((h a Ao).all c z)
  |cons b r =>
   rw[x4f a (by simp)];intro z;rcases Aw.mp z with z|z
   ·exact hc ((h a Ao).all c z)
   ·rcases Bd.mp z with z|z
    ·exact h47 z
    ·exact ih (fun n hn=>h n (Ak _ hn)) z
theorem x4v{c n:Nat}(hc:c∉tl (Ad "0123456789")):c∉dg n:=fun z=>hc (x2l n c z)
theorem pn_of{q:Pth}(h:okP q):PN q:=⟨Bo.mpr h.ne,h.few,fun n hn=>z9k (h.all n hn).one (h.all n hn).few (fun c hc=>(h.all n hn).all c hc)⟩
theorem x3a{q:Pth}(h:okP q):∀c∈jn q,c<128:=fun c hc=>by
 by_cases h47:c=47
 ·rw[h47];decide
 by_cases hn:c∈HM.NS
 ·exact x2q c hn
 ·exact absurd hc (q8d c hn h47 h.all)
theorem z2c{ms:List Mv}(h:okMs ms):∀x∈lnsB ms,(10:Nat)∉x:=fun x hx=>by
 unfold lnsB at hx;rcases Aw.mp hx with hx|hx
 ·obtain⟨m,hm,rfl⟩:=Al.mp hx;unfold mvT;intro z;rcases Aw.mp z with z|z
  ·revert z;decide +kernel
  rcases Aw.mp z with z|z
  ·exact q8d 10 no10 (by decide) (h m hm).1.all z
  rcases Bd.mp z with z|z
  ·revert z;decide
  ·exact q8d 10 no10 (by decide) (h m hm).2.all z
 ·rcases Bd.mp hx with rfl|hx
  ·decide +kernel
  ·obtain⟨k,_,rfl⟩:=Al.mp hx;unfold dnT;intro z;rcases Aw.mp z with z|z
   ·revert z;decide +kernel
   ·exact x4v (by decide +kernel) z
theorem fi_low:∀c∈tl (Ad "0123456789"),c<128:=by decide +kernel
theorem x1v{ms:List Mv}(h:okMs ms):Low (lnsB ms):=fun x hx c hc=>by
 unfold lnsB at hx;have h1:∀c∈MVT,c<128:=by decide +kernel
 have h2:∀c∈BGN,c<128:=by decide +kernel
 have h3:∀c∈DNT,c<128:=by decide +kernel
 rcases Aw.mp hx with hx|hx
 ·obtain⟨m,hm,rfl⟩:=Al.mp hx;unfold mvT at hc;rcases Aw.mp hc with hc|hc
  ·exact h1 c hc
  rcases Aw.mp hc with hc|hc
  ·exact x3a (h m hm).1 c hc
  rcases Bd.mp hc with hc|hc
  ·rw[hc];decide
  ·exact x3a (h m hm).2 c hc
 ·rcases Bd.mp hx with rfl|hx
  ·exact h2 c hc
  ·obtain⟨k,_,rfl⟩:=Al.mp hx;unfold dnT at hc;rcases Aw.mp hc with hc|hc
   ·exact h3 c hc
   ·exact fi_low c (x2l k c hc)
theorem jc_bk:∀(ls:List (List Nat)) (p:List Nat),PC.jc 10 (ls++[p])=bkT ls++p
 |[],p=>rfl
 |l::ls,p=>by
  have ih:=jc_bk ls p;rw[Oq,PC.jc_cons l (by simp),ih];show _=((l++[10])++(ls.map fun l=>l++[10]).flatten)++p;rw[Cg,Cg];rfl
theorem x1w{ls:List (List Nat)}{p:List Nat}(h:∀x∈ls,(10:Nat)∉x)(hp:(10:Nat)∉p):PC.sc 10 (bkT ls++p)=ls++[p]:=by
 rw[<- jc_bk];refine PC.sc_jc (by simp) fun x hx=>?_;rcases Aw.mp hx with hx|hx
 ·exact h x hx
 ·rw[Az.mp hx];exact hp
def MOV:List Nat:=tl (Ad "move")
theorem mov:Ad "move" = mk MOV:=(z0x _).symm
theorem x1x{m:Mv}(h:okMv m):PC.sc 32 (mvT m)=[MOV,jn m.1,jn m.2]:=by
 have e:mvT m=PC.jc 32 [MOV,jn m.1,jn m.2]:=by
  have e0:MVT=MOV++[32]:=by decide +kernel
  unfold mvT;rw[e0,Cg];rfl
 rw[e];refine PC.sc_jc (by simp) fun x hx=>?_;have h0:(32:Nat)∉MOV:=by decide +kernel
 rcases Bd.mp hx with rfl|hx
 ·exact h0
 rcases Bd.mp hx with rfl|hx
 ·exact q8d 32 no32 (by decide) h.1.all
 rcases Bd.mp hx with rfl|hx
 ·exact q8d 32 no32 (by decide) h.2.all
 ·cases hx
theorem spl1{s:Nat}{c t:Str}(hc:c=⟨#[s]⟩):(Pf t c).map V.str=vL (PC.sc s (tl t)):=by rw[hc];exact PC.split_mk s t
theorem z9m{s:Nat}{c t:Str}(hc:c=⟨#[s]⟩):(Pf t c).length<=t.length+1:=by
 have:=PC.sc_len (s:=s) (tl t);rw[hc,<- Ac (f:=V.str),PC.split_mk,Ac,len];exact this
theorem z9n{c t:Str}(h:t.length<=500000):(Om t (Cy t c 0 t.length (t.length+1)) c.length).length<=sizeLine:=by
 rw[Mp];have:=Qk t c 0 t.length (t.length+1);exact small (by lia)
theorem spS:Ad " " = ⟨#[32]⟩:=by decide +kernel
theorem spN:Ad "\n" = ⟨#[10]⟩:=by decide +kernel
structure CallsRm (P:Program) (w:World) (K:Ah) (mg:Str->Option Value) (base:Heap):Prop where
 read_path:Cal P w K mg base "read_path" 3 ["text"] spRead
def spRdMove:Sp:=fun vs H Q _=>∃m:Mv,vs=[.str (mk (mvT m))]/\okMv m/\∀T H',H T=none->Same H H'->MT H' T m->Q (.ref T) H'
abbrev q3w:Stmt:=top 46
theorem sc_read_move:FnScope ["line", "words", "path", "place"] ["line"] (defScope q3w):=by trivial
theorem z2d(D:Df K mg "read_move" q3w ["line"])(T:Txt mg)(C:CallsRm P w K mg base):Cal P w K mg base "read_move" 4 ["line"] spRdMove:=by
 refine D.cal sc_read_move (fun vs H Q E h=>?_) (fun f cdv A outer s H vs Q E hr h=>?_)
 ·obtain⟨m,rfl,_⟩:=h;rfl
 ·obtain⟨m,rfl,om,k⟩:=h;refine⟨_,(q0d (q0m (i:=1) sc_read_move.nd rfl (by trivial) (@bm_k _ _ _ _ _ _ _ _ _ _ _ _ K rfl By Lg Lh q9m (pv 0) (q0a q0t q0c) (by rfl) (by rfl) (by rfl) (by rfl) (by rfl))) (q0d (q0v (pt_j (@PW.pt _ _ _ (q5b (q0o (ne_k K rfl hr) (q0h (q1k K rfl) (by rfl) T.b_len Ax (q0a (pv 1) q0c)) q0g (nomark _)) (q3f (q0o (ne_k K rfl hr) (q1a (ix_k K rfl) (pv 1) q0g (fun _ _=>rfl)) q0t (nomark _)))))) (q0f q2a) q0k) (q0d (q0m (i:=2) sc_read_move.nd rfl (by trivial) (pe_c C.read_path hr (q0a (q1a (ix_k K rfl) (pv 1) q0g (fun _ _=>rfl)) q0c))) (q0d (q0m (i:=3) sc_read_move.nd rfl (by trivial) (pe_c C.read_path hr (q0a (q1a (ix_k K rfl) (pv 1) q0g (fun _ _=>rfl)) q0c))) (q0d (q0v (pt_j (@PW.pt _ _ _ (q5b (q2b (q4k (pv 2))) (q3f (q2b (q4k (pv 3))))))) (q0f q2a) q0k) (q0f (q0j (q0z (q0a (pv 2) (q0a (pv 3) q0c)))))))))),?_⟩;have lz:=z3e om;have e1:(Ad " ").length=1:=by decide +kernel
  have lt:(mk (mvT m)).length<=200:=by rw[q0r];exact lz
  refine⟨_,rfl,rfl,_,_,rfl,rfl,by rw[e1];rfl,small (by lia),?_,z9n (by lia),fun L hL=>?_⟩
  ·have:=z9m (t:=mk (mvT m)) spS;exact small (by lia)
  rw[spl1 spS,q1h,x1x om];have s1:=(Same.refl H).new (o:=.lst (vL [MOV,jn m.1,jn m.2])) hL;have h1:upd H L (.lst (vL [MOV,jn m.1,jn m.2])) L=some (.lst (vL [MOV,jn m.1,jn m.2])):=q0b;generalize upd H L (.lst (vL [MOV,jn m.1,jn m.2]))=H1 at s1 h1;refine⟨fun bb H2=>bb=false/\H2=H1,?_,?_⟩;rotate_left
  ·refine⟨_,rfl,_,_,rfl,.inl ⟨_,SqL.of h1,rfl⟩,.inl ⟨rfl,_,rfl,?_⟩⟩;rw[decide_eq_true (show V.int (((vL [MOV,jn m.1,jn m.2]).length:Nat):Int)=V.int 3 from rfl)];refine iteF ⟨_,rfl,.inl ⟨L,_,0,_,rfl,rfl,SqL.of h1,rfl,.inl ⟨rfl,_,rfl,?_,rfl⟩⟩⟩;rw[mov,decide_eq_true rfl];rfl
  rintro bb H2 ⟨rfl,rfl⟩;refine iteF ?_;have j1:=q3o om.1;have j2:=q3o om.2;have r1:rp (tl (mk (jn m.1)))=some m.1:=by rw[q1h];exact(pn_of om.1).rp
  have r2:rp (tl (mk (jn m.2)))=some m.2:=by rw[q1h];exact(pn_of om.2).rp
  refine⟨_,rfl,.inl ⟨L,_,1,_,rfl,rfl,SqL.of h1,rfl,_,rfl,by rw[q0r];lia,(fun z=>by rw[r1] at z;cases z),fun ns hns T1 H2 hT1 s2 h2=>?_⟩⟩;rw[r1] at hns;cases hns;refine⟨_,rfl,.inl ⟨L,_,2,_,rfl,rfl,SqL.of (s2 _ _ h1),rfl,_,rfl,by rw[q0r];lia,(fun z=>by rw[r2] at z;cases z),fun ns hns T2 H3 hT2 s3 h3=>?_⟩⟩;rw[r2] at hns;cases hns;refine⟨fun bb H4=>bb=false/\H4=H3,?_,?_⟩;rotate_left
  ·exact⟨_,rfl,_,rfl,iteF ⟨_,rfl,_,rfl,rfl,rfl⟩⟩
  rintro bb H4 ⟨rfl,rfl⟩;refine iteF ⟨_,rfl,_,rfl,by show 2<=sizeLine;decide,fun T3 hT3=>?_⟩;have s4:=(Same.refl H4).new (o:=.tup [.ref T1,.ref T2]) hT3;have s13:=(s1.trans s2).trans s3;exact k T3 _ (s13.free hT3) (s13.trans s4) ⟨T1,T2,q0b,s4 _ _ (s3 _ _ h2),s4 _ _ h3⟩
theorem cut_dl{xs:List V}(h:xs≠[]):cutV xs none (some (-1))=xs.dropLast:=by
 have hl:=Bo.mpr h;have e:HT.sIx xs.length xs.length (some (-1))=xs.length-1:=by
  show(if (-1:Int)<0 then((-1:Int)+(xs.length:Int)).toNat else min (-1:Int).toNat xs.length)=_;rw[if_pos (by decide)];lia
 have e0:HT.sIx xs.length 0 none=0:=rfl;unfold cutV;rw[e0,e,Kq,Kc,Gk]
theorem z9o(ls:List (List Nat)):(vL ls).all flatV=true:=by
 rw[Fx];intro x hx;obtain⟨l,_,rfl⟩:=Al.mp hx;rfl
theorem z4t(a b:List Nat):eqV (.str (mk a)) (.str (mk b))=decide (a=b):=by
 show(mk a==mk b)=_;by_cases h:a=b
 ·rw[h,beq_self_eq_true,decide_eq_true rfl]
 ·rw[decide_eq_false h,beq_eq_false_iff_ne];intro z;have:=congrArg tl z;rw[q1h,q1h] at this;exact h this
theorem x1y(m:Mv):mvT m≠BGN:=fun z=>by
 have e1:MVT=109::[111,118,101,32]:=by decide +kernel
 have e2:BGN=98::[101,103,105,110]:=by decide +kernel
 unfold mvT at z;rw[e1,e2,Oq] at z;injection z with z _;cases z
theorem x4w{K:Ah}{L D:Addr}{ms:List Mv}{H1:Hp}{te:TE}{Fin:List V->Hp->Prop}(hL:H1 L=some (.lst (vL (ms.map mvT))))(hD:H1 D=none)(few:ms.length<=1000)(ok:okMs ms)(he:∀(m:Mv) (H:Hp) (Q:VK),okMv m->(∀T H',H T=none->Same H H'->MT H' T m->Q (.ref T) H')->te [some (.str (mk (mvT m)))] H Q)(k:∀(zs:List Zm) H',Same H1 H'->ML H' D zs->zs.map (·.2)=ms->Fin (zs.map fun z=>V.ref z.1) H'):
  CompW (Itl K L) (gName 0) tIf0 te [none] D Fin H1:=by
 refine q4e (xs:=vL (ms.map mvT)) (fun i ys H'=>∃us:List Zm,ys=us.map (fun z=>V.ref z.1)/\us.map (·.2)=ms.take i/\Same H1 H'/\ML H' D us) ⟨[],rfl,rfl,(Same.refl H1).new hD,ML.nil q0b⟩ (fun i ys H' x=>by obtain⟨us,e,_,sm,ml⟩:=x;exact⟨by rw[e];exact ml.at_,SqL.of (sm _ _ hL)⟩) ?_ ?_
 ·rintro i ys H' v hv ⟨us,rfl,hu,sm,ml⟩;obtain⟨m,hm,rfl⟩:∃m,ms[i]?=some m/\v=.str (mk (mvT m)):=by
   rw[Aq,Aq] at hv;cases e:ms[i]? with
   |none=>rw[e] at hv;cases hv
   |some z=>rw[e] at hv;cases hv;exact⟨z,rfl,rfl⟩
  have hul:us.length<=ms.length:=by have:=congrArg List.length hu;rw[Ac,Bf] at this;lia
  refine he m H' _ (ok m (As hm)) fun T' H2 hT' s2 mt=>?_;have ml2:=ml.same s2;have kt:∀S xs,H2 S=some (.tup xs)->upd H2 D (.lst (us.map (fun z=>V.ref z.1)++[.ref T'])) S=some (.tup xs):=fun S xs e=>by rw[q0e (fun y=>by have:=ml2.at_;rw[<- y,e] at this;cases this)];exact e
  refine⟨ml2.at_,small' (by rw[Ac];lia),us++[(T',m)],by rw[An];rfl,?_,(sm.trans s2).put hD,⟨by rw[An];exact q0b,fun y hy=>?_⟩⟩
  ·rw[An,hu,Bs,hm];rfl
  ·rcases Aw.mp hy with hy|hy
   ·exact(ml2.pr y hy).keep kt
   ·rw[Az.mp hy];exact mt.keep kt
 ·rintro ys H' ⟨us,rfl,hu,sm,ml⟩;rw[Ac,Ac,Bi] at hu;exact k us H' sm ml hu
theorem x1z{H:Hp}{L M:Addr}{ls:List (List Nat)}{Q:VK}(h:H L=some (.lst (vL ls)))(g:H M=some (.lst (vL ls)))(lo:Low ls)(k:Q (.bl false) H):rNeU K (.ref L) (.ref M) H Q :=
 ne_dt (d:=.list (dP ls)) (.lst (SqL.of h) (q6q ls)) (.lst (SqL.of g) (q6q ls)) (by simp only[Hf,z1g lo]) (by have:=q6p ls;simp only[Mj];lia) k
theorem z9p{ms:List Mv}{k:Nat}(hk:ms.length+1<=k):((lnsB ms).take k).take ms.length=ms.map mvT:=by
 rw[Ko,Ib (by lia)];unfold lnsB;rw[Ij (by rw[Ac];exact Aj _),Dw (by rw[Ac];exact Aj _)]
theorem x4x{ms:List Mv}{k:Nat}(hk:ms.length+1<=k):((lnsB ms).take k)[ms.length]?=some BGN:=by
 rw[Jx (by lia)];unfold lnsB;rw[Gq (by rw[Ac];exact Aj _),Ac,Nat.sub_self];rfl
theorem z9q{ms:List Mv}{k i:Nat}{l:List Nat}(hi:i<ms.length)(h:((lnsB ms).take k)[i]?=some l):l≠BGN:=by
 have h1:=Bb.mp h;have h2:(lnsB ms)[i]?=some l:=by
  obtain⟨a,b⟩:=h1;rw[Bf] at a;rw[Jx (by lia)] at h;exact h
 unfold lnsB at h2;rw[Gx (by rw[Ac];exact hi),Aq] at h2;obtain⟨m,_,rfl⟩:=Eo.mp h2;exact x1y m
theorem z3j{M:Nat}:∀{ls:List (List Nat)},(∀x∈ls,x.length<=M)->(bkT ls).length<=ls.length*(M+1)
 |[],_=>Br _
 |l::ls,h=>by
  have ih:=z3j (ls:=ls) fun x hx=>h x (Ak _ hx);have h1:=h l Ao;show((l++[10])++bkT ls).length<=_;have e:(l::ls).length*(M+1)=ls.length*(M+1)+(M+1):=Ov _ _;rw[Ai,Ai,e];show l.length+1+_<=_;lia
structure CallsRb (P:Program) (w:World) (K:Ah) (mg:Str->Option Value) (base:Heap) (Cb Dn:Addr):Prop where
 lines_of:Cal P w K mg base "lines_of" 2 ["row"] spLines
 read_move:Cal P w K mg base "read_move" 4 ["line"] spRdMove
 f_NoBook:ELaw0 K Cb Dn
 g_NoBook:mg "NoBook" = some (.ref Cb)
def spRdBookX(Cb:Addr):Sp:=fun vs H Q E=>∃(ms:List Mv) (k:Nat) (p:List Nat),vs=[.str (mk (bkT ((lnsB ms).take k)++p))]/\okMs ms/\ms.length<=100/\k<=2*ms.length+1/\(10:Nat)∉p/\p.length<=1000 /\
 (ms.length+1<=k->∀T L zs H',H L=none->Same H H'->ML H' L zs->zs.map (·.2)=ms->H' T=some (.tup [.ref L,.int ((k-ms.length-1:Nat):Int)])->Q (.ref T) H') /\
 (k<=ms.length->∀ea H',Same H H'->H ea=none->H' ea=some (ExO (.ref Cb) none ea)->E (.ref ea) none H')
abbrev q3x:Stmt:=top 47
theorem sc_read_book:FnScope ["text", "lines", "row"] ["text"] (defScope q3x):=by trivial
theorem z0e{Cb Dn:Addr}(D:Df K mg "read_book" q3x ["text"])(T:Txt mg)(C:CallsRb P w K mg base Cb Dn):CalX P w K mg base "read_book" 5 ["text"] (spRdBookX Cb):=by
 refine D.calX sc_read_book (fun vs H Q E h=>?_) (fun f cdv A outer s H vs Q E hr h=>?_)
 ·obtain⟨ms,kk,p,rfl,_⟩:=h;rfl
 ·obtain⟨ms,kk,p,rfl,okm,few,hk2,hp,hpl,k0,kE⟩:=h;refine⟨_,(q0d (q0m (i:=1) sc_read_book.nd rfl (by trivial) (q0s (sl_k K rfl) (@bm_k _ _ _ _ _ _ _ _ _ _ _ _ K rfl By Lg Lh q9m (pv 0) (q0a q0t q0c) (by rfl) (by rfl) (by rfl) (by rfl) (by rfl)) q0x (q0u (q2c q1e q0g)))) (q0d (q0v (q0o (nin_k K rfl) q0t (pv 1) (by with_unfolding_all rfl)) (q0f (z1q C.f_NoBook accX rfl C.g_NoBook (q0a q0t q0c))) q0k) (q0d (q9l (i:=2) ["line"] [] sc_read_book.nd rfl (by trivial) rfl (@q6j _ _ _ _ K rfl (q0s (sl_k K rfl) (pv 1) q0x (q0u (@bm_k _ _ _ _ _ _ _ _ _ _ _ _ K rfl Ci PySem.F.slot_list_index PySem.F.type_list_index z8o (pv 1) (q0a q0t q0c) (by rfl) (by rfl) (by rfl) (by rfl) (by rfl))))) (fun _ _ _ _ _=>(q0i (i:=0) (show(["line"]:List Str).Nodup by decide +kernel) rfl (by trivial))) (fun _ _ _ _ _=>q1r) (fun _ _ _ _ _=>(pe_c C.read_move hr (q0a (pv 0) q0c)))) (q0d (q0v (q0o (ne_k K rfl hr) (pv 1) (q0s (sl_k K rfl) (pe_c C.lines_of hr (q0a (pv 2) q0c)) q0x (q0u (q0h (q1k K rfl) (by rfl) T.b_len Ax (q0a (pv 1) q0c)))) (nomark _)) (q0f (z1q C.f_NoBook accX rfl C.g_NoBook (q0a q0t q0c))) q0k) (q0f (q0j (q0z (q0a (pv 2) (q0a (q0p q5c (q0p q5c (q0h (q1k K rfl) (by rfl) T.b_len Ax (q0a (pv 1) q0c)) (q0h (q1k K rfl) (by rfl) T.b_len Ax (q0a (pv 2) q0c))) q0g) q0c))))))))),?_⟩;have e1:(Ad "\n").length=1:=by decide +kernel
  have ll:((lnsB ms).take kk).length=kk:=by rw[Bf,q6t];lia
  have all:∀x∈(lnsB ms).take kk,x.length<=200:=fun x hx=>q5n okm (by lia) x (Cj hx);have fr:∀x∈(lnsB ms).take kk,(10:Nat)∉x:=fun x hx=>z2c okm x (Cj hx);have lo:Low ((lnsB ms).take kk):=fun x hx=>x1v okm x (Cj hx);have eL:(lnsB ms).take ((lnsB ms).take kk).length=(lnsB ms).take kk:=by rw[ll]
  have bad:kk<=ms.length->∀l∈(lnsB ms).take kk,l≠BGN:=fun hk l hl=>by
   obtain⟨i,hi,e⟩:=List.mem_iff_getElem.mp hl;exact z9q (ms:=ms) (k:=kk) (i:=i) (by rw[ll] at hi;lia) (by rw[Cu hi,e])
  have good:ms.length+1<=kk->((lnsB ms).take kk).take ms.length=ms.map mvT/\((lnsB ms).take kk)[ms.length]?=some BGN/\∀(i:Nat) (l:List Nat),i<ms.length->((lnsB ms).take kk)[i]?=some l->l≠BGN:=fun hk1=>⟨z9p hk1,x4x hk1,fun i l hi h=>z9q hi h⟩
  have lt:(mk (bkT ((lnsB ms).take kk)++p)).length<=100000:=by
   have:=z3j all;rw[ll] at this;rw[q0r,Ai];lia
  have esp:PC.sc 10 (tl (mk (bkT ((lnsB ms).take kk)++p)))=(lnsB ms).take kk++[p]:=by rw[q1h];exact x1w fr hp
  generalize mk (bkT ((lnsB ms).take kk)++p)=t at lt esp;generalize hls:(lnsB ms).take kk=ls at ll all fr lo eL esp bad good;refine⟨_,rfl,rfl,_,_,rfl,rfl,by rw[e1];rfl,small (by lia),?_,z9n (by lia),fun L0 hL0=>?_⟩
  ·have:=z9m (t:=t) spN;exact small (by lia)
  rw[spl1 spN,esp];refine⟨_,rfl,_,rfl,.inr (.inl ⟨L0,_,rfl,SqL.of q0b,fun L1 hL1=>?_⟩)⟩;have ed:(vL (ls++[p])).dropLast=vL ls:=by rw[<- List.map_dropLast,Ml]
  rw[cut_dl (by simp),ed];have s1:=((Same.refl H).new (o:=.lst (vL (ls++[p]))) hL0).new (o:=.lst (vL ls)) hL1;have h1:upd (upd H L0 (.lst (vL (ls++[p])))) L1 (.lst (vL ls)) L1=some (.lst (vL ls)):=q0b;generalize upd (upd H L0 (.lst (vL (ls++[p])))) L1 (.lst (vL ls))=H1 at s1 h1;refine⟨_,rfl,.inr ⟨L1,_,rfl,.inl (SqL.of h1),rfl,z9o ls,_,rfl,?_⟩⟩;rw[bgw];by_cases hk1:ms.length+1<=kk;rotate_left
  ·have hk0:kk<=ms.length:=by lia
   have hin:inV (.str (mk BGN)) (vL ls)=false:=by
    unfold inV;rw[Sn];intro x hx;obtain⟨l,hl,rfl⟩:=Al.mp hx;rw[z4t,decide_eq_false (bad hk0 l hl)];decide
   rw[hin];refine iteT ⟨by show 1<=100;decide,fun ea hea=>?_⟩;have sm:Same H1 (upd (upd H1 ea (ExN (.ref Cb) none ea)) ea (ExO (.ref Cb) none ea)):=fun b o e=>by
    have n:b≠ea:=fun z=>by rw[z,hea] at e;cases e
    rw[q0e n,q0e n];exact e
   exact kE hk0 ea _ (s1.trans sm) (s1.free hea) q0b
  obtain⟨eT,eA,eN⟩:=good hk1;have k:=k0 hk1;have hin:inV (.str (mk BGN)) (vL ls)=true:=by
   unfold inV;rw[List.any_eq_true];exact⟨.str (mk BGN),Al.mpr ⟨BGN,As eA,rfl⟩,by rw[z4t,decide_eq_true rfl]⟩
  rw[hin];refine iteF ?_;refine⟨_,rfl,_,rfl,.inl ⟨rfl,_,SqL.of h1⟩,L1,_,_,ms.length,rfl,rfl,h1,rfl,z9o ls,⟨_,by rw[Aq,eA];rfl,by rw[z4t,decide_eq_true rfl]⟩,fun i z hi hz=>?_,_,rfl,.inr (.inl ⟨L1,_,rfl,SqL.of h1,fun L2 hL2=>?_⟩)⟩
  ·rw[Aq] at hz;obtain⟨l,hl,rfl⟩:=Eo.mp hz;rw[z4t];exact decide_eq_false (eN i l hi hl)
  rw[q3p,<- Dv,eT];have s2:=s1.new (o:=.lst (vL (ms.map mvT))) hL2;have h12:=(Same.refl H1).new (o:=.lst (vL (ms.map mvT))) hL2 _ _ h1;have h2:upd H1 L2 (.lst (vL (ms.map mvT))) L2=some (.lst (vL (ms.map mvT))):=q0b;generalize upd H1 L2 (.lst (vL (ms.map mvT)))=H2 at s2 h2 h12;refine .inl ⟨L2,rfl,⟨_,SqL.of h2⟩,fun D1 hD1=>?_⟩;refine x4w h2 hD1 (by lia) okm (fun m H3 Q' om q=>⟨_,rfl,m,rfl,om,q⟩) fun zs H3 s3 ml ez=>?_;have h13:=s3 _ _ h12;have hzl:zs.length=ms.length:=by have:=congrArg List.length ez;rw[Ac] at this;exact this
  refine⟨_,rfl,_,rfl,D1,zs,rfl,ml,by rw[ez];exact okm,by lia,fun D2 H4 hD2 s4 h4=>?_⟩;rw[ez] at h4;refine⟨_,rfl,_,_,rfl,.inl ⟨_,SqL.of (s4 _ _ h13),rfl⟩,_,rfl,.inr (.inl ⟨D2,_,rfl,SqL.of h4,fun D3 hD3=>?_⟩)⟩;rw[Ac,q3p,<- Dv,eL];have s5:=(Same.refl H4).new (o:=.lst (vL ls)) hD3;have h5:upd H4 D3 (.lst (vL ls)) D3=some (.lst (vL ls)):=q0b;generalize upd H4 D3 (.lst (vL ls))=H5 at s5 h5;have h15:=s5 _ _ (s4 _ _ h13);refine x1z h15 h5 lo ⟨false,rfl,iteF ?_⟩;have ml5:=(ml.same s4).same s5;refine⟨_,rfl,_,rfl,_,_,rfl,.inl ⟨_,SqL.of h15,rfl⟩,_,rfl,_,_,rfl,.inl ⟨_,SqL.of ml5.at_,rfl⟩,_,_,rfl,rfl,_,_,rfl,rfl,by show 2<=sizeLine;decide,fun T1 hT1=>?_⟩;have ei:(((vL ls).length:Nat):Int)-(((zs.map fun z=>V.ref z.1).length:Nat):Int)-1=((kk-ms.length-1:Nat):Int):=by
   rw[Ac,Ac,ll,hzl];lia
  have s6:=(Same.refl H5).new (o:=.tup [.ref D1,.int ((((vL ls).length:Nat):Int)-(((zs.map fun z=>V.ref z.1).length:Nat):Int)-1)]) hT1;refine k T1 D1 zs _ (s2.free hD1) ((s2.trans ((s3.trans s4).trans s5)).trans s6) (ml5.same s6) ez ?_;rw[q0b];show some (HO.tup [V.ref D1,V.int ((((vL ls).length:Nat):Int)-(((zs.map fun z=>V.ref z.1).length:Nat):Int)-1)])=_;rw[ei]
theorem x3b{bl:Bool}{rows:List Rw}{p:Pth}{m:Option Int}(hl:Hl bl rows)(hp:(p,m)∈rows):∀r∈rows,fold bl r.1=fold bl p->r.1=p:=fun r hr e=>by
 have:=hl.eq hr hp e;rw[this]
theorem x4y{H:Hp}{b:Addr}{p:Pth}{Q:VK}(hb:H b=some (.tup (vP p)))(lp:Low p)(k:Q (.bl false) H):rEqU K .non (.ref b) H Q:=by
 refine .inr ⟨_,_,.non,q4t hb,rfl,q4u lp,by have:=q5i p;lia,?_⟩;exact k
structure CallsMw (P:Program) (w:World) (K:Ah) (mg:Str->Option Value) (base:Heap) (c:Addr):Prop where
 m_there:MCal P w K mg base c "there" 3 ["self", "place"] (spThere1 c)
structure StopAt (c:Addr) (H:Hp) (h d:Addr) (bl:Bool) (R0 rows:List Rw) (ms:List Mv) (k j:Nat):Prop where
 ha:HallAt c H h d bl rows
 pm:rows.Perm (wk R0 (ms.take j))
 ok:WkOk bl R0 ms
 l60:R0.length<=60
 kj:j=k\/j=k+1
 le:j<=ms.length
theorem StopAt.same{c:Addr}{H H':Hp}{h d:Addr}{bl:Bool}{R0 rows:List Rw}{ms:List Mv}{k j:Nat}(x:StopAt c H h d bl R0 rows ms k j)(s:Same H H'):StopAt c H' h d bl R0 rows ms k j:=⟨x.ha.same s,x.pm,x.ok,x.l60,x.kj,x.le⟩
def spMwl(c:Addr):Sp:=fun vs H Q _=>∃h d L bl R0 rows zs k j,vs=[.ref h,.ref L,.int ((k:Nat):Int)]/\StopAt c H h d bl R0 rows (zs.map (·.2)) k j/\ML H L zs/\∀H',Same H H'->Q (.bl (decide (j=k+1))) H'
abbrev q1i:Stmt:=top 48
theorem sc_is_made_without_line:FnScope ["hall", "row", "done", "path", "place"] ["hall", "row", "done"] (defScope q1i):=by trivial
theorem ok_mwl{c:Addr}(D:Df K mg "is_made_without_line" q1i ["hall", "row", "done"])(T:Txt mg)(C:CallsMw P w K mg base c):Cal P w K mg base "is_made_without_line" 4 ["hall", "row", "done"] (spMwl c):=by
 refine D.cal sc_is_made_without_line (fun vs H Q E h=>?_) (fun f cdv A outer s H vs Q E hr h=>?_)
 ·obtain⟨h,d,L,bl,R0,rows,zs,kk,j,rfl,_⟩:=h;rfl
 ·obtain⟨h,d,L,bl,R0,rows,zs,kk,j,rfl,st,ml,k⟩:=h;refine⟨_,(q0d (q0v (q0o (eq_k K rfl hr) (pv 2) (q0h (q1k K rfl) (by rfl) T.b_len Ax (q0a (pv 1) q0c)) (nomark _)) (q0f (q0j q3d)) q0k) (q0d (q3g (q1a (ix_k K rfl) (pv 1) (pv 2) (fun _ _=>rfl)) (@q1w _ _ _ _ (2) _ K rfl rfl (q0l (q0i (i:=3) sc_is_made_without_line.nd rfl (by trivial)) (q0l (q0i (i:=4) sc_is_made_without_line.nd rfl (by trivial)) q1j)) (by rfl) (by rfl))) (q0d (q0v (q0o (eq_k K rfl hr) (pe_m C.m_there hr (pv 0) (q0a (pv 3) q0c)) (pv 3) (nomark _)) (q0f (q0j q3d)) q0k) (q0d (q0v (q0o (eq_k K rfl hr) (pe_m C.m_there hr (pv 0) (q0a (pv 4) q0c)) (pv 4) (nomark _)) (q0f (q0j q3d)) q0k) (q0f q2a))))),?_⟩;have le:=st.le;have kj:=st.kj;rw[Ac] at le;obtain⟨dh,hi⟩:=st.ha.i;refine⟨_,rfl,_,rfl,_,_,rfl,.inl ⟨_,SqL.of ml.at_,rfl⟩,.inl ⟨rfl,_,rfl,?_⟩⟩;rw[Ac];refine iteB (fun hb=>?_) (fun hb=>?_)
  ·have hb:=of_decide_eq_true hb;have hb:(kk:Int)=(zs.length:Int):=by injection hb
   have e:decide (j=kk+1)=false:=decide_eq_false (by lia);have:=k H (Same.refl H);rw[e] at this;exact this
  have hb:=of_decide_eq_false hb;have hk:kk<zs.length:=by
   have:¬kk=zs.length:=fun z=>hb (by rw[z]);lia
  obtain⟨z,hz⟩:∃z,zs[kk]?=some z:=⟨zs[kk],Cu hk⟩
  obtain⟨A1,B1,g1,g2,g3⟩:=ml.pr z (As hz);have hat:atI (zs.map fun z=>V.ref z.1) (kk:Int)=some (.ref z.1):=z2i (by rw[Aq,hz];rfl);refine⟨_,rfl,_,rfl,.inl ⟨L,_,_,_,rfl,rfl,SqL.of ml.at_,hat,?_⟩⟩;refine⟨z.1,_,rfl,SqT.of g1,rfl,_,_,rfl,_,_,rfl,rfl,?_⟩;have hzr:(zs.map (·.2))[kk]?=some z.2:=by rw[Aq,hz];rfl
  have e1:(zs.map (·.2)).take (kk+1)=(zs.map (·.2)).take kk++[z.2]:=by rw[Bs,hzr];rfl
  have mv0:Mvd bl (wk R0 ((zs.map (·.2)).take kk)) z.2.1 z.2.2:=by
   have:=(st.ok.take (kk+1)).1;rw[e1] at this;exact(WkOk.app.mp this).2.1
  have hl:=(st.ok.take j).1.fin.perm st.pm;have okp:=mv0.okp;have okq:=mv0.fr.ok;refine⟨_,rfl,h,dh,_,rfl,hi,rfl,_,rfl,h,d,A1,bl,rows,z.2.1,rfl,st.ha,g2,okp,hl.ok,fun H1 v1 s1 hv1=>?_⟩;rcases kj with rfl|rfl
  ·
   have mv:=mv0.perm st.pm;obtain⟨mk0,hp,_⟩:=mv.m;rcases hv1 with⟨rfl,no⟩|⟨b,r,rfl,hr,hf,hb1⟩
   ·exact absurd rfl (no _ hp)
   rw[x3b hl hp r hr hf] at hb1;refine⟨_,rfl,q1t hb1 (s1 _ _ g2) okp.low okp.low ⟨_,rfl,?_⟩⟩;rw[decide_eq_true rfl];have:=k H1 s1;rw[decide_eq_false (by lia)] at this;exact iteT this
  ·
   have pm:=st.pm;rw[e1,q9v] at pm;have rv:=mv0.rev.perm pm;obtain⟨mk0,hq,_⟩:=rv.m;have e2:∀{Q':VK},Q' (.bl false) H1->rEqU K v1 (.ref A1) H1 Q':=fun{Q'} q=>by
    rcases hv1 with⟨rfl,no⟩|⟨b,r,rfl,hr,hf,hb1⟩
    ·exact x4y (s1 _ _ g2) okp.low q
    ·rw[rv.fr.un r hr hf] at hb1;refine q1t hb1 (s1 _ _ g2) okq.low okp.low ?_;rw[decide_eq_false mv0.ne];exact q
   refine⟨_,rfl,e2 ⟨false,rfl,iteF ?_⟩⟩;refine⟨_,rfl,h,dh,_,rfl,s1 _ _ hi,rfl,_,rfl,h,d,B1,bl,rows,z.2.2,rfl,st.ha.same s1,s1 _ _ g3,okq,hl.ok,fun H2 v2 s2 hv2=>?_⟩;rcases hv2 with⟨rfl,no⟩|⟨b,r,rfl,hr,hf,hb1⟩
   ·exact absurd rfl (no _ hq)
   rw[x3b hl hq r hr hf] at hb1;refine⟨_,rfl,q1t hb1 (s2 _ _ (s1 _ _ g3)) okq.low okq.low ⟨_,rfl,?_⟩⟩;rw[decide_eq_true rfl];have:=k H2 (s1.trans s2);rw[decide_eq_true rfl] at this;exact iteT this
def dnN(l n:Nat):Nat:=(n-(l+1)) / 2
structure HB (c:Addr) (H:Hp) (h d:Addr) (bl:Bool) (R0 rows:List Rw) (ms:List Mv) (n:Nat) (p:List Nat):Prop where
 ha:HallAt c H h d bl rows
 pm:rows.Perm (wk R0 (ms.take (md ms.length n)))
 ok:WkOk bl R0 ms
 l60:R0.length<=60
 few:ms.length<=100
 ge:ms.length+1<=n
 le:n<=3*ms.length+1
 nl:(10:Nat)∉p
 pl:p.length<=1000
theorem HB.same{c:Addr}{H H':Hp}{h d:Addr}{bl:Bool}{R0 rows:List Rw}{ms:List Mv}{n:Nat}{p:List Nat}(x:HB c H h d bl R0 rows ms n p)(s:Same H H'):HB c H' h d bl R0 rows ms n p:=⟨x.ha.same s,x.pm,x.ok,x.l60,x.few,x.ge,x.le,x.nl,x.pl⟩
structure CallsAr (P:Program) (w:World) (K:Ah) (mg:Str->Option Value) (base:Heap) (c:Addr):Prop where
 walk:Cal P w K mg base "walk" 7 ["hall", "row"] (spWalk c)
def spAskRest(c:Addr):Sp:=fun vs H Q _=>∃h d L bl rows zs j,vs=[.ref h,.ref L,.int ((j:Nat):Int)]/\HallAt c H h d bl rows/\rows.length<=60/\ML H L zs/\j<=zs.length/\WkOk bl rows ((zs.map (·.2)).drop j)/\∀H',Same H H'->Q .non H'
theorem z9r(xs:List V)(n:Nat)(h:n<=xs.length):cutV xs (some (n:Int)) none=xs.drop n:=by
 have e1:HT.sIx xs.length 0 (some (n:Int))=n:=by
  show(if (n:Int)<0 then((n:Int)+(xs.length:Int)).toNat else min ((n:Int)).toNat xs.length)=_;rw[if_neg (by lia)];lia
 have e2:HT.sIx xs.length xs.length none=xs.length:=rfl;unfold cutV;rw[e1,e2];exact Dw (by rw[Fw];exact Aj _)
abbrev q4y:Stmt:=top 50
theorem z3k:FnScope ["hall", "row", "made", "refusal"] ["hall", "row", "made"] (defScope q4y):=by trivial
theorem z3l{c:Addr}(D:Df K mg "ask_rest" q4y ["hall", "row", "made"])(T:Txt mg)(C:CallsAr P w K mg base c):Cal P w K mg base "ask_rest" 8 ["hall", "row", "made"] (spAskRest c):=by
 refine D.cal z3k (fun vs H Q E h=>?_) (fun f cdv A outer s H vs Q E hr h=>?_)
 ·obtain⟨h,d,L,bl,rows,zs,j,rfl,_⟩:=h;rfl
 ·obtain⟨h,d,L,bl,rows,zs,j,rfl,hh,h60,ml,jl,ok,k⟩:=h;refine⟨_,(q0f (z8c rfl (q0f (q1c (pe_c C.walk hr (q0a (pv 0) (q0a (q0s (sl_k K rfl) (pv 1) (q0u (pv 2)) q0x) q0c))))))),?_⟩;refine⟨_,rfl,_,rfl,_,rfl,_,rfl,.inr (.inl ⟨L,_,rfl,SqL.of ml.at_,fun L3 hL3=>?_⟩)⟩;rw[z9r _ _ (by rw[Ac];exact jl)];have ml3:=ml.cut hL3 j;have s3:=(Same.refl H).new (o:=.lst ((zs.map fun z=>V.ref z.1).drop j)) hL3;generalize upd H L3 (.lst ((zs.map fun z=>V.ref z.1).drop j))=H3 at ml3 s3;exact⟨h,d,L3,bl,rows,zs.drop j,rfl,hh.same s3,h60,ml3,by rw[Rg];exact ok,fun h1 d1 rows1 H4 s4 _ hall1 pm1=>k H4 (s3.trans s4)⟩
structure Bk (ms:List Mv) (n:Nat) (p:List Nat):Prop where
 ok:okMs ms
 few:ms.length<=100
 le:n<=3*ms.length+1
 nl:(10:Nat)∉p
 pl:p.length<=1000
structure CallsRs (P:Program) (w:World) (K:Ah) (mg:Str->Option Value) (base:Heap) (c Cb:Addr):Prop where
 read_book:CalX P w K mg base "read_book" 5 ["text"] (spRdBookX Cb)
 is_made_without_line:Cal P w K mg base "is_made_without_line" 4 ["hall", "row", "done"] (spMwl c)
def spRdStopX(c Cb:Addr):Sp:=fun vs H Q E=>∃h ms n p,vs=[.ref h,.str (mk (bkN ms n++p))]/\Bk ms n p /\
 (ms.length+1<=n->∃bl R0 d rows,HB c H h d bl R0 rows ms n p/\∀T L zs H',H L=none->Same H H'->ML H' L zs->zs.map (·.2)=ms->H' T=some (.tup [.ref L,.int ((dnN ms.length n:Nat):Int),.int ((md ms.length n:Nat):Int)])->Q (.ref T) H') /\
 (n<=ms.length->∀ea H',Same H H'->H ea=none->H' ea=some (ExO (.ref Cb) none ea)->E (.ref ea) none H')
abbrev q3y:Stmt:=top 49
theorem sc_read_stop:FnScope ["hall", "text", "row", "done"] ["hall", "text"] (defScope q3y):=by trivial
theorem z0f{c Cb:Addr}(D:Df K mg "read_stop" q3y ["hall", "text"])(T:Txt mg)(C:CallsRs P w K mg base c Cb):CalX P w K mg base "read_stop" 6 ["hall", "text"] (spRdStopX c Cb):=by
 refine D.calX sc_read_stop (fun vs H Q E h=>?_) (fun f cdv A outer s H vs Q E hr h=>?_)
 ·obtain⟨h,ms,n,p,rfl,_⟩:=h;rfl
 ·obtain⟨h,ms,n,p,rfl,bk,k0,kE⟩:=h;refine⟨_,(q0d (q3g (z2v C.read_book hr accX (q0a (pv 1) q0c)) (@q1w _ _ _ _ (2) _ K rfl rfl (q0l (q0i (i:=2) sc_read_stop.nd rfl (by trivial)) (q0l (q0i (i:=3) sc_read_stop.nd rfl (by trivial)) q1j)) (by rfl) (by rfl))) (q0d (q0v (@q2k _ _ _ K rfl (pe_c C.is_made_without_line hr (q0a (pv 0) (q0a (pv 2) (q0a (pv 3) q0c)))) (fun _=>rfl)) (q0f (q0j (q0z (q0a (pv 2) (q0a (pv 3) (q0a (q0p q0q (pv 3) q0g) q0c)))))) q0k) (q0f (q0j (q0z (q0a (pv 2) (q0a (pv 3) (q0a (pv 3) q0c)))))))),?_⟩;have few:=bk.few;have le:=bk.le;have wl:wr ms.length n<=2*ms.length+1:=by unfold wr;lia
  refine⟨_,rfl,ms,wr ms.length n,p,rfl,bk.ok,few,wl,bk.nl,bk.pl,fun hk T1 L zs H1 hL s1 ml ez hT1=>?_,fun hk ea H1 s1 hea he ea' ez=>by cases ez;exact kE (by unfold wr at hk;lia) ea H1 s1 hea he⟩;have ge:ms.length+1<=n:=by unfold wr at hk;lia
  obtain⟨bl,R0,d,rows,hb,k⟩:=k0 ge;have w2:wr ms.length n-ms.length-1=dnN ms.length n:=by unfold wr dnN;lia
  have kj:md ms.length n=dnN ms.length n\/md ms.length n=dnN ms.length n+1:=by unfold md dnN;lia
  have jl:md ms.length n<=ms.length:=by unfold md;lia
  have dl:dnN ms.length n<=ms.length:=by unfold dnN;lia
  rw[w2] at hT1;refine⟨T1,_,rfl,SqT.of hT1,rfl,_,_,rfl,_,_,rfl,rfl,?_⟩;have st1:StopAt c H1 h d bl R0 rows (zs.map (·.2)) (dnN ms.length n) (md ms.length n):=⟨hb.ha.same s1,by rw[ez];exact hb.pm,by rw[ez];exact hb.ok,hb.l60,kj,by rw[ez];exact jl⟩
  refine⟨_,rfl,_,rfl,_,rfl,h,d,L,bl,R0,rows,zs,dnN ms.length n,md ms.length n,rfl,st1,ml,fun H2 s2=>⟨_,rfl,?_⟩⟩;refine iteB (fun hd=>?_) (fun hd=>?_)
  ·have hd:=of_decide_eq_true hd;refine⟨_,rfl,_,rfl,_,rfl,.inl ⟨_,_,rfl,rfl,by show 3<=sizeLine;decide,fun T2 hT2=>?_⟩⟩;have s3:=(Same.refl H2).new (o:=.tup [.ref L,.int ((dnN ms.length n:Nat):Int),.int (((dnN ms.length n:Nat):Int)+1)]) hT2;refine k T2 L zs _ hL ((s1.trans s2).trans s3) ((ml.same s2).same s3) ez ?_;rw[q0b,hd];rfl
  ·have hd:=of_decide_eq_false hd;refine⟨_,rfl,_,rfl,_,rfl,by show 3<=sizeLine;decide,fun T2 hT2=>?_⟩;have s3:=(Same.refl H2).new (o:=.tup [.ref L,.int ((dnN ms.length n:Nat):Int),.int ((dnN ms.length n:Nat):Int)]) hT2;refine k T2 L zs _ hL ((s1.trans s2).trans s3) ((ml.same s2).same s3) ez ?_;rw[q0b,show md ms.length n=dnN ms.length n from by lia]
structure CallsAg (P:Program) (w:World) (K:Ah) (mg:Str->Option Value) (base:Heap) (c cD Cb:Addr):Prop where
 read_stop:CalX P w K mg base "read_stop" 6 ["hall", "text"] (spRdStopX c Cb)
 ask_rest:Cal P w K mg base "ask_rest" 8 ["hall", "row", "made"] (spAskRest c)
 k_Doer:KCal0 P w K mg base cD "Doer" 8 ["self", "hall", "row"] (spDInit c cD)
def spAgainX(c cD Cb:Addr):Sp:=fun vs H Q E=>∃h ms n p,vs=[.ref h,.str (mk (bkN ms n++p))]/\Bk ms n p /\
 (ms.length+1<=n->∃bl R0 d rows,HB c H h d bl R0 rows ms n p/\∀x h' d' L zs H',H x=none->H h'=none->H L=none->Same H H'->DoAt c cD H' x h' d' L bl R0 zs n->zs.map (·.2)=ms->Q (.ref x) H') /\
 (n<=ms.length->∀ea H',Same H H'->H ea=none->H' ea=some (ExO (.ref Cb) none ea)->E (.ref ea) none H')
abbrev q2q:Stmt:=top 51
theorem sc_begun_again:FnScope ["hall", "text", "row", "done", "made", "doer"] ["hall", "text"] (defScope q2q):=by trivial
theorem z9s{c cD Cb:Addr}(D:Df K mg "begun_again" q2q ["hall", "text"])(dk:Dk K cD)(T:Txt mg)(C:CallsAg P w K mg base c cD Cb):CalX P w K mg base "begun_again" 10 ["hall", "text"] (spAgainX c cD Cb):=by
 refine D.calX sc_begun_again (fun vs H Q E h=>?_) (fun f cdv A outer s H vs Q E hr h=>?_)
 ·obtain⟨h,ms,n,p,rfl,_⟩:=h;rfl
 ·obtain⟨h,ms,n,p,rfl,bk,k0,kE⟩:=h;refine⟨_,(q0d (q3g (z2v C.read_stop hr accX (q0a (pv 0) (q0a (pv 1) q0c))) (@q1w _ _ _ _ (3) _ K rfl rfl (q0l (q0i (i:=2) sc_begun_again.nd rfl (by trivial)) (q0l (q0i (i:=3) sc_begun_again.nd rfl (by trivial)) (q0l (q0i (i:=4) sc_begun_again.nd rfl (by trivial)) q1j))) (by rfl) (by rfl))) (q0d (q1c (pe_c C.ask_rest hr (q0a (pv 0) (q0a (pv 2) (q0a (pv 4) q0c))))) (q0d (q0m (i:=5) sc_begun_again.nd rfl (by trivial) (x4e C.k_Doer hr (q0a (pv 0) (q0a (q2l q0c) q0c)))) (q0d (@q6h _ _ _ _ _ _ _ _ K rfl (pv 5) (pv 2) (by rfl)) (q0d (@q6h _ _ _ _ _ _ _ _ K rfl (pv 5) (q0p q0q (q0p q0q (q0p q0q (q0h (q1k K rfl) (by rfl) T.b_len Ax (q0a (pv 2) q0c)) q0g) (pv 4)) (pv 3)) (by rfl)) (q0f (q0j (pv 5)))))))),?_⟩;refine⟨_,rfl,_,rfl,h,ms,n,p,rfl,bk,fun ge=>?_,fun hk ea H1 s1 hea he ea' ez=>by cases ez;exact kE hk ea H1 s1 hea he⟩;obtain⟨bl,R0,d,rows,hb,k⟩:=k0 ge;have few:=hb.few;have le:=hb.le;have jl:md ms.length n<=ms.length:=by unfold md;lia
  have rl:rows.length<=60:=by rw[hb.pm.length_eq,q5k];exact hb.l60
  refine⟨bl,R0,d,rows,hb,fun T1 L zs H1 hL s1 ml ez hT1=>?_⟩;have hzl:zs.length=ms.length:=by have:=congrArg List.length ez;rw[Ac] at this;exact this
  refine⟨T1,_,rfl,SqT.of hT1,rfl,_,_,rfl,_,_,rfl,_,_,rfl,rfl,?_⟩;have hb1:=hb.same s1;refine⟨_,rfl,_,rfl,_,rfl,h,d,L,bl,rows,zs,md ms.length n,rfl,hb1.ha,rl,ml,by lia,by rw[ez];exact(hb.ok.take _).2.perm hb.pm,fun H2 s2=>?_⟩;have hb2:=hb1.same s2;have ml2:=ml.same s2;refine⟨_,rfl,by show 0<=sizeLine;decide,fun E0 hE0=>?_⟩;have s3:=(Same.refl H2).new (o:=.lst []) hE0;have h3:ML (upd H2 E0 (.lst [])) E0 []:=ML.nil q0b;generalize upd H2 E0 (.lst [])=H3 at s3 h3;intro x dx hx hdx nx;have sx:Same H3 (upd (upd H3 dx (.own x)) x (.ins cD dx [])):=fun y u e=>by
   rw[q0e (fun z=>by rw[z,hx] at e;cases e),q0e (fun z=>by rw[z,hdx] at e;cases e)];exact e
  have s23:=s2.trans s3;have s123:=s1.trans s23;refine⟨x,dx,h,d,E0,bl,rows,[],rfl,q0b,((hb1.same s23).same sx).ha,rl,h3.same sx,(hb.ok.take (md ms.length n)).1.fin.perm hb.pm,by show 0<=100;decide,fun h' d' L' H4 hh' hL' kp da=>⟨rfl,?_⟩⟩;have s4:Same H3 H4:=fun y u e=>kp y u (fun z=>by rw[z,hx] at e;cases e) (sx _ _ e);obtain⟨dx4,hx4⟩:=da.i;obtain⟨rows4,hh4,pm4⟩:=da.ha;obtain⟨dh4,hi4⟩:=hh4.i;have ml4:=(ml2.same s3).same s4;refine⟨_,rfl,_,rfl,x,cD,dx4,_,rfl,hx4,dk.cl,dk.m,by show 3<1000;decide,?_⟩;have hLx:L≠x:=fun z=>by have:=ml4.at_;rw[z,hx4] at this;cases this
  have hhx:h'≠x:=fun z=>by rw[z,hx4] at hi4;cases hi4
  have hdx4:d'≠x:=fun z=>by have:=hh4.d;rw[z,hx4] at this;cases this
  refine⟨_,rfl,_,_,rfl,.inl ⟨_,SqL.of (by rw[q0e hLx];exact ml4.at_),rfl⟩,.inl ⟨_,_,rfl,rfl,_,rfl,.inl ⟨_,_,rfl,rfl,_,rfl,.inl ⟨_,_,rfl,rfl,?_⟩⟩⟩⟩;refine⟨_,rfl,x,cD,dx4,_,rfl,q0b,dk.cl,dk.s,by show 3<1000;decide,_,rfl,?_⟩;have es:(((zs.map fun z=>V.ref z.1).length:Nat):Int)+1+((md ms.length n:Nat):Int)+((dnN ms.length n:Nat):Int)=(n:Int):=by
   rw[Ac,hzl];have:ms.length+1+md ms.length n+dnN ms.length n=n:=by unfold md dnN;lia
   lia
  have kx:∀{y:Addr} {u:HO},y≠x->H4 y=some u->upd (upd H4 x (.ins cD dx4 (putF ("moves" : Str) (.ref L) (dF h' L' 0)))) x (.ins cD dx4 (putF ("steps" : Str) (.int ((((zs.map fun z=>V.ref z.1).length:Nat):Int)+1+((md ms.length n:Nat):Int)+((dnN ms.length n:Nat):Int))) (putF ("moves" : Str) (.ref L) (dF h' L' 0)))) y=some u:=fun{y u} n e=>by rw[q0e n,q0e n];exact e
  have nf:∀{y:Addr},H3 y=none->H y=none:=fun{y} e=>s123.free e;refine k x h' d' L zs _ (nf hx) (nf (sx.free hh')) hL (fun y u e=>kx (fun z=>by rw[z,nf hx] at e;cases e) (s4 _ _ (s123 _ _ e))) ⟨⟨dx4,?_⟩,⟨rows4,⟨⟨dh4,kx hhx hi4⟩,kx hdx4 hh4.d⟩,?_⟩,⟨kx hLx ml4.at_,fun z hz=>(ml4.pr z hz).keep fun T' xs e=>kx (fun y=>by rw[y,hx4] at e;cases e) e⟩,by rw[ez];exact hb.ok,hb.l60,by lia,by lia⟩ ez
  ·rw[q0b,es];rfl
  ·rw[ez,hzl];exact pm4.trans hb.pm
structure CallsWb (P:Program) (w:World) (K:Ah) (mg:Str->Option Value) (base:Heap) (c cD Cb:Addr):Prop where
 read_stop:CalX P w K mg base "read_stop" 6 ["hall", "text"] (spRdStopX c Cb)
 turned_back:Cal P w K mg base "turned_back" 1 ["row"] spTurned
 k_Doer:KCal0 P w K mg base cD "Doer" 8 ["self", "hall", "row"] (spDInit c cD)
def spWayBackX(c cD Cb:Addr):Sp:=fun vs H Q E=>∃h ms n p,vs=[.ref h,.str (mk (bkN ms n++p))]/\Bk ms n p /\
 (ms.length+1<=n->∃bl R0 d rows,HB c H h d bl R0 rows ms n p/\∀x h' d' L zs H',H x=none->H h'=none->H L=none->Same H H'->DoAt c cD H' x h' d' L bl rows zs 0->zs.map (·.2)=tb (ms.take (md ms.length n))->Q (.ref x) H') /\
 (n<=ms.length->∀ea H',Same H H'->H ea=none->H' ea=some (ExO (.ref Cb) none ea)->E (.ref ea) none H')
abbrev q4z:Stmt:=top 52
theorem sc_way_back:FnScope ["hall", "text", "row", "done", "made"] ["hall", "text"] (defScope q4z):=by trivial
theorem z2e{c cD Cb:Addr}(D:Df K mg "way_back" q4z ["hall", "text"])(T:Txt mg)(C:CallsWb P w K mg base c cD Cb):CalX P w K mg base "way_back" 10 ["hall", "text"] (spWayBackX c cD Cb):=by
 refine D.calX sc_way_back (fun vs H Q E h=>?_) (fun f cdv A outer s H vs Q E hr h=>?_)
 ·obtain⟨h,ms,n,p,rfl,_⟩:=h;rfl
 ·obtain⟨h,ms,n,p,rfl,bk,k0,kE⟩:=h;refine⟨_,(q0d (q3g (z2v C.read_stop hr accX (q0a (pv 0) (q0a (pv 1) q0c))) (@q1w _ _ _ _ (3) _ K rfl rfl (q0l (q0i (i:=2) sc_way_back.nd rfl (by trivial)) (q0l (q0i (i:=3) sc_way_back.nd rfl (by trivial)) (q0l (q0i (i:=4) sc_way_back.nd rfl (by trivial)) q1j))) (by rfl) (by rfl))) (q0f (q0j (x4e C.k_Doer hr (q0a (pv 0) (q0a (pe_c C.turned_back hr (q0a (q0s (sl_k K rfl) (pv 2) q0x (q0u (pv 4))) q0c)) q0c)))))),?_⟩;refine⟨_,rfl,_,rfl,h,ms,n,p,rfl,bk,fun ge=>?_,fun hk ea H1 s1 hea he ea' ez=>by cases ez;exact kE hk ea H1 s1 hea he⟩;obtain⟨bl,R0,d,rows,hb,k⟩:=k0 ge;have few:=hb.few;have rl:rows.length<=60:=by rw[hb.pm.length_eq,q5k];exact hb.l60
  refine⟨bl,R0,d,rows,hb,fun T1 L zs H1 hL s1 ml ez hT1=>?_⟩;have hzl:zs.length=ms.length:=by have:=congrArg List.length ez;rw[Ac] at this;exact this
  refine⟨T1,_,rfl,SqT.of hT1,rfl,_,_,rfl,_,_,rfl,_,_,rfl,rfl,?_⟩;refine⟨_,rfl,_,rfl,_,rfl,_,rfl,.inr (.inl ⟨L,_,rfl,SqL.of ml.at_,fun L3 hL3=>?_⟩)⟩;rw[q3p];have ml3:=ml.pre hL3 (md ms.length n);have s3:=(Same.refl H1).new (o:=.lst ((zs.map fun z=>V.ref z.1).take (md ms.length n))) hL3;generalize upd H1 L3 (.lst ((zs.map fun z=>V.ref z.1).take (md ms.length n)))=H3 at ml3 s3;refine⟨L3,zs.take (md ms.length n),rfl,ml3,by rw[Bf];lia,fun L4 zs4 H4 hL4 s4 ml4 e4=>?_⟩;rw[Dv,ez] at e4;intro x dx hx hdx nx;have sx:Same H4 (upd (upd H4 dx (.own x)) x (.ins cD dx [])):=fun y u e=>by
   rw[q0e (fun z=>by rw[z,hx] at e;cases e),q0e (fun z=>by rw[z,hdx] at e;cases e)];exact e
  have s14:=s1.trans (s3.trans s4);have l4:zs4.length<=100:=by
   have:=congrArg List.length e4;rw[Ac] at this;unfold tb at this;rw[Ac,Rl,Bf] at this;lia
  have okb:WkOk bl rows (zs4.map (·.2)):=by rw[e4];exact(hb.ok.take _).1.back.perm hb.pm
  refine⟨x,dx,h,d,L4,bl,rows,zs4,rfl,q0b,((hb.same s14).same sx).ha,rl,ml4.same sx,okb,l4,fun h' d' L' H5 hh' hL' kp da=>⟨rfl,?_⟩⟩;have s5:Same H4 H5:=fun y u e=>kp y u (fun z=>by rw[z,hx] at e;cases e) (sx _ _ e);exact k x h' d' L' zs4 H5 (s14.free hx) (s14.free (sx.free hh')) (s14.free (sx.free hL')) (s14.trans s5) da e4
structure CallsSs (P:Program) (w:World) (K:Ah) (mg:Str->Option Value) (base:Heap) (c cD:Addr):Prop where
 stop:Cal P w K mg base "_law_stop" 2 ["_law_row_here", "_law_steps"] spStop
 rows_right:Cal P w K mg base "_law_rows_right" 3 ["_law_hall", "_law_marks"] (spRight c)
 m_left:MCal P w K mg base cD "left" 1 ["self"] (spLeft cD)
 m_hall:MCal P w K mg base cD "hall" 7 ["self"] (spDHall c cD)
 m_book:MCal P w K mg base cD "book" 3 ["self"] (spBook c cD)
 m_is_blind:MCal P w K mg base c "is_blind" 1 ["self"] (spBlind c)
def spStands(c cD:Addr):Sp:=fun vs H Q _=>∃x h d L R S bl R0 W zs zs2 ds n,vs=[.ref x,.ref R,.ref S,.bl bl,.int ((n:Nat):Int)]/\DoAt c cD H x h d L bl R0 zs n/\ML H R zs2/\zs2.map (·.2)=zs.map (·.2)/\StAt H S ds W (zs.map (·.2))/\W.Perm R0/\∀H',Same H H'->Q (.bl true) H'
abbrev q3z:Stmt:=top 69
theorem sc_stands_so:FnScope ["_law_doer", "_law_row_here", "_law_stands", "_law_blind", "_law_steps", "_law_book", "_law_made"] ["_law_doer", "_law_row_here", "_law_stands", "_law_blind", "_law_steps"] (defScope q3z):=by trivial
theorem z9t{c cD:Addr}(D:Df K mg "_law_stands_so" q3z ["_law_doer", "_law_row_here", "_law_stands", "_law_blind", "_law_steps"])(T:Txt mg)(C:CallsSs P w K mg base c cD):Cal P w K mg base "_law_stands_so" 8 ["_law_doer", "_law_row_here", "_law_stands", "_law_blind", "_law_steps"] (spStands c cD):=by
 refine D.cal sc_stands_so (fun vs H Q E h=>?_) (fun f cdv A outer s H vs Q E hr h=>?_)
 ·obtain⟨x,h,d,L,R,S,bl,R0,W,zs,zs2,ds,n,rfl,_⟩:=h;rfl
 ·obtain⟨x,h,d,L,R,S,bl,R0,W,zs,zs2,ds,n,rfl,da,mr,ez,st,pw,k⟩:=h;refine⟨_,(q0d (q3g (pe_c C.stop hr (q0a (pv 1) (q0a (pv 4) q0c))) (@q1w _ _ _ _ (2) _ K rfl rfl (q0l (q0i (i:=5) sc_stands_so.nd rfl (by trivial)) (q0l (q0i (i:=6) sc_stands_so.nd rfl (by trivial)) q1j)) (by rfl) (by rfl))) (q0d (q0v (pt_j (@PW.pt _ _ _ (q5b (q0o (ne_k K rfl hr) (q4s C.m_left hr (pv 0)) (q0p q5c (q0p q0q (q0p q2n q0g (q0h (q1k K rfl) (by rfl) T.b_len Ax (q0a (pv 1) q0c))) q0g) (pv 4)) (nomark _)) (q3f (q0o (ne_k K rfl hr) (q4s C.m_book hr (pv 0)) (pv 5) (nomark _)))))) (q0f (q0j q3d)) q0k) (q0f (q0j (pe_j (q8k (pe_c C.rows_right hr (q0a (q4s C.m_hall hr (pv 0)) (q0a (q1a (ix_k K rfl) (pv 2) (pv 6) (fun _ _=>rfl)) q0c))) (q6c (q2m (eq_k K rfl hr) (q4s C.m_is_blind hr (q4s C.m_hall hr (pv 0))) (pv 3) (nomark _))))))))),?_⟩;have lz:zs2.length=zs.length:=by have:=congrArg List.length ez;rw[Ac,Ac] at this;exact this
  have few:=da.few;have le:=da.le;have okm:okMs (zs.map (·.2)):=q8c da.ok;refine⟨_,rfl,_,rfl,R,zs2,n,rfl,mr,by rw[ez];exact okm,by lia,by lia,fun T1 H1 _ s1 hT1=>⟨T1,_,rfl,SqT.of hT1,rfl,_,_,rfl,_,_,rfl,rfl,?_⟩⟩;rw[ez,lz];have da1:=da.same s1;obtain⟨dx,hx⟩:=da1.i;refine⟨fun bb H2=>bb=false/\Same H1 H2,?_,?_⟩;rotate_left
  ·refine⟨_,rfl,x,dx,_,rfl,hx,rfl,x,dx,h,L,n,zs,rfl,hx,da1.ml,?_⟩;refine⟨_,rfl,_,_,rfl,.inl ⟨_,SqL.of (mr.same s1).at_,rfl⟩,.inl ⟨_,_,rfl,rfl,.inl ⟨by decide,by decide⟩,.inl ⟨_,_,rfl,rfl,_,rfl,_,_,rfl,rfl,.inl ⟨rfl,_,rfl,?_⟩⟩⟩⟩;rw[Ac,lz,decide_eq_true rfl];refine iteF ⟨_,rfl,x,dx,_,rfl,hx,rfl,x,h,d,L,bl,R0,zs,n,rfl,da1,fun H2 s2=>⟨_,rfl,.inl ⟨rfl,_,rfl,?_,s2⟩⟩⟩;rw[decide_eq_true rfl];rfl
  rintro bb H2 ⟨rfl,s2⟩;refine iteF ?_;have s12:=s1.trans s2;have da2:=da1.same s2;have hx2:=s2 _ _ hx;refine⟨fun v H4=>v=.bl true/\Same H H4,?_,?_⟩
  ·rintro v H4 ⟨rfl,s4⟩;exact k H4 s4
  refine⟨_,rfl,x,dx,_,rfl,hx2,rfl,x,h,d,L,bl,R0,zs,n,rfl,da2,fun h' d' rows' H3 s3 _ hh' pm'=>?_⟩;have sA:=s12.trans s3;have stA:=st.same sA;have hm:md zs.length n<=zs.length:=by unfold md;lia
  obtain⟨dn,hdn⟩:∃dn,ds[md zs.length n]?=some dn:=⟨ds[md zs.length n]'(by rw[stA.len,Ac];lia),Cu _⟩
  have okW:=(da.ok.perm pw).take (md zs.length n);have pE:rows'.Perm (wk W ((zs.map (·.2)).take (md zs.length n))):=pm'.trans (q9u _ pw.symm);have hlE:=okW.1.fin.perm pE;refine⟨_,rfl,_,rfl,.inl ⟨S,_,_,_,rfl,rfl,SqL.of stA.at_,z3d hdn,?_⟩⟩;refine⟨h',dn,d',bl,rows',_,rfl,hh',stA.pr _ dn hdn,pE.symm,hlE.paths,hlE.ok,by rw[pm'.length_eq,q5k];have:=da.l60;lia,fun H4 s4=>⟨_,rfl,iteT ?_⟩⟩;have s34:=s3.trans s4;refine⟨_,rfl,x,dx,_,rfl,s34 _ _ hx2,rfl,x,h,d,L,bl,R0,zs,n,rfl,da2.same s34,fun h2 d2 rows2 H5 s5 _ hh2 pm2=>?_⟩;obtain⟨dh,hi⟩:=hh2.i;refine⟨h2,dh,_,rfl,hi,rfl,h2,d2,bl,rows2,rfl,hh2,_,rfl,.inl ⟨by cases bl<;>rfl,?_,(sA.trans s4).trans s5⟩⟩;rw[decide_eq_true rfl]
structure CallsBg (P:Program) (w:World) (K:Ah) (mg:Str->Option Value) (base:Heap) (c:Addr):Prop where
 draw:Cal P w K mg base "_law_draw" 1 ["_law_feed", "_law_many"] spDraw
 rows:Cal P w K mg base "_law_rows" 3 ["_law_feed", "_law_blind", "_law_most"] spRows
 mixed:Cal P w K mg base "_law_mixed" 2 ["_law_feed", "_law_rows_here"] spMixed
 row:Cal P w K mg base "_law_row" 4 ["_law_feed", "_law_marks", "_law_blind", "_law_most"] spRow
 k_Hall:KCal P w K mg base c "Hall" 4 ["self", "rows", "blind"] (spInit c)
structure Bg (c:Addr) (H:Hp) (a b:Addr) (H':Hp) (h d:Addr) (bl:Bool) (R S:Addr) (Rh W:List Rw) (zs:List Zm) (ds:List Addr):Prop where
 fd:Fd a b H H'
 ha:HallAt c H' h d bl Rh
 s:StAt H' S ds W (zs.map (·.2))
 r:ML H' R zs
 ok:WkOk bl W (zs.map (·.2))
 pm:Rh.Perm W
 l60:W.length<=60
 few:zs.length<=20
 hn:H h=none
 sn:H S=none
 rn:H R=none
def spBegin(c:Addr):Sp:=fun vs H Q _=>∃a b,∃m0 n0:Int,vs=[.ref a,.int m0,.int n0]/\FeedAt H a b/\0<=m0/\m0<=60/\0<=n0/\n0<=20/\∀T h d bl R S Rh W zs ds H',Bg c H a b H' h d bl R S Rh W zs ds->H' T=some (.tup [.ref h,.bl bl,.ref R,.ref S])->Q (.ref T) H'
abbrev z0g:Stmt:=top 67
theorem sc_begin:FnScope ["_law_feed", "_law_most", "_law_moves", "_law_blind", "_law_rows_here", "_law_hall", "_law_row_here", "_law_stands"] ["_law_feed", "_law_most", "_law_moves"] (defScope z0g):=by trivial
theorem x2a{c:Addr}(D:Df K mg "_law_begin" z0g ["_law_feed", "_law_most", "_law_moves"])(T:Txt mg)(C:CallsBg P w K mg base c):Cal P w K mg base "_law_begin" 6 ["_law_feed", "_law_most", "_law_moves"] (spBegin c):=by
 refine D.cal sc_begin (fun vs H Q E h=>?_) (fun f cdv A outer s H vs Q E hr h=>?_)
 ·obtain⟨a,b,m0,n0,rfl,_⟩:=h;rfl
 ·obtain⟨a,b,m0,n0,rfl,F,m00,m01,n00,n01,k⟩:=h;refine⟨_,(q0d (q0m (i:=3) sc_begin.nd rfl (by trivial) (q2m (eq_k K rfl hr) (pe_c C.draw hr (q0a (pv 0) (q0a q0g q0c))) q0g (nomark _))) (q0d (q0m (i:=4) sc_begin.nd rfl (by trivial) (pe_c C.rows hr (q0a (pv 0) (q0a (pv 3) (q0a (pv 1) q0c))))) (q0d (q0m (i:=5) sc_begin.nd rfl (by trivial) (pe_k C.k_Hall hr (q0a (pe_c C.mixed hr (q0a (pv 0) (q0a (pv 4) q0c))) (q0a (pv 3) q0c)))) (q0d (q3g (pe_c C.row hr (q0a (pv 0) (q0a (q2r (z5m hr) (by rfl) T.b_dict (by decide +kernel) (q0a (pv 4) q0c)) (q0a (pv 3) (q0a (pv 2) q0c))))) (@q1w _ _ _ _ (2) _ K rfl rfl (q0l (q0i (i:=6) sc_begin.nd rfl (by trivial)) (q0l (q0i (i:=7) sc_begin.nd rfl (by trivial)) q1j)) (by rfl) (by rfl))) (q0f (q0j (q0z (q0a (pv 5) (q0a (pv 3) (q0a (pv 6) (q0a (pv 7) q0c))))))))))),?_⟩;refine⟨_,rfl,a,b,_,rfl,F,by decide,by decide,fun r0 H1 r00 r01 fd1=>.inl ⟨rfl,?_⟩⟩;generalize decide (V.int r0=V.int 0)=bl;refine⟨_,rfl,_,rfl,_,rfl,a,b,bl,m0,rfl,fd1.feed,m00,m01,fun L0 zs0 H3 fd3 hL0 rl0 hl0 len0=>?_⟩;have len60:zs0.length<=60:=by lia
  have fd3':=fd1.trans fd3;have hL0H:H L0=none:=fd1.free hL0;have hL0a:L0≠a:=(F.na hL0H).symm;refine⟨_,rfl,_,rfl,a,b,L0,zs0,rfl,fd3'.feed,rl0,len60,fun r hr=>(hl0.ok r hr).low,fun L zs H5 fd5 hL rl5 perm=>?_⟩;have hl5:Hl bl (zs.map (·.2)):=hl0.perm (perm.map _);have hlen5:zs.length<=60:=by rw[perm.length_eq];exact len60
  have rl45:=rl0.fd fd3'.feed fd5 hL0a;have fd45:=fd3'.trans fd5;refine⟨_,rfl,fun h dx hh hdx n=>?_⟩;refine⟨h,dx,L,bl,zs,rfl,q0b,z8x rl5 hh hdx,hl5,hlen5,fun d H6 hd i1 i2 i3=>⟨rfl,?_⟩⟩;obtain⟨s6,_⟩:=z1v hh hdx hd i3;have ha6:HallAt c H6 h d bl (zs.map (·.2)):=⟨⟨dx,i1⟩,i2⟩
  have hhH:H h=none:=fd45.free hh;have fd6:=fd45.same s6;have rl6:=rl45.same s6;refine⟨_,rfl,_,rfl,L0,zs0.map (·.1),zs0.map (fun z=>rR z.2),rfl,by rw[Ba];exact rl6.at_,prs_zs rl6.pr,by rw[Ac];lia,fun m hm=>?_⟩;rw[z8w hl0];have s7:=(Same.refl H6).new (o:=dR ((zs0.map (·.2)).map rR)) hm;have hm7:upd H6 m (dR ((zs0.map (·.2)).map rR)) m=some (dR ((zs0.map (·.2)).map rR)):=q0b;have ha7:=ha6.same s7;have fd7:=fd6.same s7;generalize upd H6 m (dR ((zs0.map (·.2)).map rR))=H7 at s7 hm7 ha7 fd7;have wl:(zs0.map (·.2)).length<=60:=by rw[Ac];exact len60
  have pm:(zs.map (·.2)).Perm (zs0.map (·.2)):=perm.map _;generalize zs0.map (·.2)=W at hl0 hm7 wl pm;generalize zs.map (·.2)=R0 at ha7 pm;refine⟨_,rfl,_,rfl,a,b,m,bl,W,n0,rfl,fd7.feed,hm7,hl0,wl,n00,n01,fun T1 R S zs ds H8 I hT1 hT1n=>?_⟩;refine⟨T1,_,rfl,SqT.of hT1,rfl,_,_,rfl,_,_,rfl,rfl,?_⟩;refine⟨_,rfl,_,rfl,_,rfl,_,rfl,by show 4<=sizeLine;decide,fun T2 hT2=>?_⟩;have s9:=(Same.refl H8).new (o:=.tup [.ref h,.bl bl,.ref R,.ref S]) hT2;exact k T2 h d bl R S R0 W zs ds _ ⟨(fd7.trans I.fd).same s9,(z0d ha7 fd7.feed I.fd).same s9,I.s.same s9,I.r.same s9,I.ok,pm,wl,I.len,hhH,fd7.free I.sn,fd7.free I.rn⟩ q0b
structure CallsKd (K:Ah) (mg:Str->Option Value) (Cb:Addr) (ds es:List Addr):Prop where
 isi:EIsi K Cb
 g_NoBook:mg "NoBook" = some (.ref Cb)
 one:Ff K (.ref Cb) (.ref Cb)=some true
 val:Ff K (.ref Cb) (.type "ValueError")=some true
 any1:Qt K (.ref Cb) (ds.map Value.ref)=some false
 any2:Qt K (.ref Cb) (es.map Value.ref)=some false
 st:∃c_Strayed,mg "Strayed" = some (.ref c_Strayed)/\Ff K (.ref Cb) (.ref c_Strayed)=some false
 br:∃c_Broken,mg "Broken" = some (.ref c_Broken)/\Ff K (.ref Cb) (.ref c_Broken)=some false
 tm:∃c_TooMuch,mg "TooMuch" = some (.ref c_TooMuch)/\Ff K (.ref Cb) (.ref c_TooMuch)=some false
 ex:∃c_Busy c_Fixed c_Full c_Meets c_NoDoer c_NoDrawer c_NoHall c_NoLine c_NoPattern c_NoPlace c_NoRule c_NoRules c_NoSame c_NoTemplate c_NoText c_NoThing c_NoWish c_NotEmpty c_Taken,ds=[c_Busy,c_Fixed,c_Full,c_Meets,c_NoDoer,c_NoDrawer,c_NoHall,c_NoLine,c_NoPattern,c_NoPlace,c_NoRule]/\es=[c_NoRules,c_NoSame,c_NoTemplate,c_NoText,c_NoThing,c_NoWish,c_NotEmpty,c_Taken]/\mg "Busy" = some (.ref c_Busy)/\mg "Fixed" = some (.ref c_Fixed)/\mg "Full" = some (.ref c_Full)/\mg "Meets" = some (.ref c_Meets)/\mg "NoDoer" = some (.ref c_NoDoer)/\mg "NoDrawer" = some (.ref c_NoDrawer)/\mg "NoHall" = some (.ref c_NoHall)/\mg "NoLine" = some (.ref c_NoLine)/\mg "NoPattern" = some (.ref c_NoPattern)/\mg "NoPlace" = some (.ref c_NoPlace)/\mg "NoRule" = some (.ref c_NoRule)/\mg "NoRules" = some (.ref c_NoRules)/\mg "NoSame" = some (.ref c_NoSame)/\mg "NoTemplate" = some (.ref c_NoTemplate)/\mg "NoText" = some (.ref c_NoText)/\mg "NoThing" = some (.ref c_NoThing)/\mg "NoWish" = some (.ref c_NoWish)/\mg "NotEmpty" = some (.ref c_NotEmpty)/\mg "Taken" = some (.ref c_Taken)
def spKind(Cb:Addr):Sp:=fun vs H Q _=>∃ea,vs=[.ref ea]/\H ea=some (ExO (.ref Cb) none ea)/\∀T H',Same H H'->H' T=some (.tup [.str (Ad "book"),.non])->Q (.ref T) H'
abbrev z3m:Stmt:=top 68
theorem sc_kind:FnScope ["_law_error", "_law_some", "_law_words", "_law_others"] ["_law_error"] (defScope z3m):=by trivial
theorem x4z{c_NoBook:Addr}{ds es:List Addr}(D:Df K mg "_law_kind" z3m ["_law_error"])(T:Txt mg)(C:CallsKd K mg c_NoBook ds es):Cal P w K mg base "_law_kind" 1 ["_law_error"] (spKind c_NoBook):=by
 refine D.cal sc_kind (fun vs H Q E h=>?_) (fun f cdv A outer s H vs Q E hr h=>?_)
 ·obtain⟨ea,rfl,_⟩:=h;rfl
 ·obtain⟨ea,rfl,hE,k⟩:=h;have g_NoBook:=C.g_NoBook;obtain⟨c_Strayed,g_Strayed,kS⟩:=C.st;obtain⟨c_Broken,g_Broken,kB⟩:=C.br;obtain⟨c_TooMuch,g_TooMuch,kT⟩:=C.tm;obtain⟨c_Busy,c_Fixed,c_Full,c_Meets,c_NoDoer,c_NoDrawer,c_NoHall,c_NoLine,c_NoPattern,c_NoPlace,c_NoRule,c_NoRules,c_NoSame,c_NoTemplate,c_NoText,c_NoThing,c_NoWish,c_NotEmpty,c_Taken,rfl,rfl,g_Busy,g_Fixed,g_Full,g_Meets,g_NoDoer,g_NoDrawer,g_NoHall,g_NoLine,g_NoPattern,g_NoPlace,g_NoRule,g_NoRules,g_NoSame,g_NoTemplate,g_NoText,g_NoThing,g_NoWish,g_NotEmpty,g_Taken⟩:=C.ex;refine⟨_,(q0d (q0m (i:=1) sc_kind.nd rfl (by trivial) (q2l (q0a (q0z (q0a q0t (q0a (q0h (q7x K rfl) (by rfl) T.b_isinstance (by decide +kernel) (q0a (pv 0) (q0a (q0w (v:=.ref c_NoBook) (by rfl) g_NoBook rfl) q0c))) q0c))) (q0a (q0z (q0a q0t (q0a (q0h (q7x K rfl) (by rfl) T.b_isinstance (by decide +kernel) (q0a (pv 0) (q0a (q0w (v:=.ref c_Strayed) (by rfl) g_Strayed rfl) q0c))) q0c))) q0c)))) (q0d (q1c (@bm_k _ _ _ _ _ _ _ _ _ _ _ _ K rfl Ci Cs Ct q1q (pv 1) (q0a (q0z (q0a q0t (q0a (q0h (q7x K rfl) (by rfl) T.b_isinstance (by decide +kernel) (q0a (pv 0) (q0a (q0w (v:=.ref c_Broken) (by rfl) g_Broken rfl) q0c))) q0c))) q0c) (by rfl) (by rfl) (by rfl) (by rfl) (by rfl))) (q0d (q9l (i:=2) ["_law_word", "_law_isof"] [] sc_kind.nd rfl (by trivial) rfl (@q6j _ _ _ _ K rfl (pv 1)) (fun _ _ _ _ _=>(@q1w _ _ _ _ (2) _ K rfl rfl (q0l (q0i (i:=0) (show(["_law_word", "_law_isof"]:List Str).Nodup by decide +kernel) rfl (by trivial)) (q0l (q0i (i:=1) (show(["_law_word", "_law_isof"]:List Str).Nodup by decide +kernel) rfl (by trivial)) q1j)) (by rfl) (by rfl))) (fun _ _ _ _ _=>(z2j (@q2k _ _ _ K rfl (pv 1) (fun _=>rfl)))) (fun _ _ _ _ _=>(pv 0))) (q0d (q0m (i:=3) sc_kind.nd rfl (by trivial) (q0h (q7x K rfl) (by rfl) T.b_isinstance (by decide +kernel) (q0a (pv 0) (q0a (q0z (q0a (q0w (v:=.ref c_Busy) (by rfl) g_Busy rfl) (q0a (q0w (v:=.ref c_Fixed) (by rfl) g_Fixed rfl) (q0a (q0w (v:=.ref c_Full) (by rfl) g_Full rfl) (q0a (q0w (v:=.ref c_Meets) (by rfl) g_Meets rfl) (q0a (q0w (v:=.ref c_NoDoer) (by rfl) g_NoDoer rfl) (q0a (q0w (v:=.ref c_NoDrawer) (by rfl) g_NoDrawer rfl) (q0a (q0w (v:=.ref c_NoHall) (by rfl) g_NoHall rfl) (q0a (q0w (v:=.ref c_NoLine) (by rfl) g_NoLine rfl) (q0a (q0w (v:=.ref c_NoPattern) (by rfl) g_NoPattern rfl) (q0a (q0w (v:=.ref c_NoPlace) (by rfl) g_NoPlace rfl) (q0a (q0w (v:=.ref c_NoRule) (by rfl) g_NoRule rfl) q0c)))))))))))) q0c)))) (q0d (q0m (i:=3) sc_kind.nd rfl (by trivial) (pe_j (pe_or (pv 3) (q6c (q0h (q7x K rfl) (by rfl) T.b_isinstance (by decide +kernel) (q0a (pv 0) (q0a (q0z (q0a (q0w (v:=.ref c_NoRules) (by rfl) g_NoRules rfl) (q0a (q0w (v:=.ref c_NoSame) (by rfl) g_NoSame rfl) (q0a (q0w (v:=.ref c_NoTemplate) (by rfl) g_NoTemplate rfl) (q0a (q0w (v:=.ref c_NoText) (by rfl) g_NoText rfl) (q0a (q0w (v:=.ref c_NoThing) (by rfl) g_NoThing rfl) (q0a (q0w (v:=.ref c_NoWish) (by rfl) g_NoWish rfl) (q0a (q0w (v:=.ref c_NotEmpty) (by rfl) g_NotEmpty rfl) (q0a (q0w (v:=.ref c_Taken) (by rfl) g_Taken rfl) q0c))))))))) q0c))))))) (q0d (q0v (pt_j (@PW.pt _ _ _ (q5b (@q2k _ _ _ K rfl (pv 3) (fun _=>rfl)) (q5b (@q2k _ _ _ K rfl (q0h (q7x K rfl) (by rfl) T.b_isinstance (by decide +kernel) (q0a (pv 0) (q0a (q0w (v:=.ref c_TooMuch) (by rfl) g_TooMuch rfl) q0c))) (fun _=>rfl)) (q5b (q0o (ne_k K rfl hr) (q0h (q1k K rfl) (by rfl) T.b_len Ax (q0a (pv 2) q0c)) q0g (nomark _)) (q3f (q3a (@q2k _ _ _ K rfl (q0h (q7x K rfl) (by rfl) T.b_isinstance (by decide +kernel) (q0a (pv 0) (q0a (q4m (by rfl) T.b_ValueError (by decide +kernel) (show RelV (.ty "ValueError") _ from rfl)) q0c))) (fun _=>rfl))))))))) (q0f (q0j (q0z (q0a q0t (q0a q3e q0c))))) q0k) (q0d (q0v (q0o (eq_k K rfl hr) (q1a (ix_k K rfl) (pv 2) q0g (fun _ _=>rfl)) q0t (nomark _)) (q0f (q0j (q0z (q0a q0t (q0a q3e q0c))))) q0k) (q0d (q0v (pt_j (@PW.pt _ _ _ (q5b (@q2k _ _ _ K rfl (q0h (z5f K rfl) (by rfl) T.b_isinstance (by decide +kernel) (q0a (z8f K rfl (pv 0)) (q0a (q4m (by rfl) T.b_bool (by decide +kernel) (show RelV (.ty "bool") _ from rfl)) q0c))) (fun _=>rfl)) (q3f (q3a (@q2k _ _ _ K rfl (q0h (z5f K rfl) (by rfl) T.b_isinstance (by decide +kernel) (q0a (z8f K rfl (pv 0)) (q0a (q4m (by rfl) T.b_int (by decide +kernel) (show RelV (.ty "int") _ from rfl)) q0c))) (fun _=>rfl))))))) (q0f (q0j (q0z (q0a q0t (q0a q3e q0c))))) q0k) (q0f (q0j (q0z (q0a (q1a (ix_k K rfl) (pv 2) q0g (fun _ _=>rfl)) (q0a (z8f K rfl (pv 0)) q0c))))))))))))),?_⟩;have er:∀{H':Hp},Same H H'->Err H' ea c_NoBook:=fun{H'} s=>⟨none,.inl (s _ _ hE),.inl rfl⟩
  refine⟨_,rfl,ea,c_NoBook,true,⟨_,rfl,.inl ⟨_,rfl,C.one⟩⟩,er (Same.refl H),C.isi,by show 2<=sizeLine;decide,fun T1 hT1=>?_⟩;have s1:=(Same.refl H).new (o:=.tup [.str (Ad "book"),.bl true]) hT1;have h1:upd H T1 (.tup [.str (Ad "book"),.bl true]) T1=some (.tup [.str (Ad "book"),.bl true]):=q0b;generalize upd H T1 (.tup [.str (Ad "book"),.bl true])=H1 at s1 h1;refine⟨_,rfl,ea,c_NoBook,false,⟨_,rfl,.inl ⟨_,rfl,kS⟩⟩,er s1,C.isi,by show 2<=sizeLine;decide,fun T2 hT2=>?_⟩;have s2:=(Same.refl H1).new (o:=.tup [.str (Ad "strayed"),.bl false]) hT2;have h2:upd H1 T2 (.tup [.str (Ad "strayed"),.bl false]) T2=some (.tup [.str (Ad "strayed"),.bl false]):=q0b;generalize upd H1 T2 (.tup [.str (Ad "strayed"),.bl false])=H2 at s2 h2;refine⟨by show 2<=sizeLine;decide,fun L hL=>?_⟩;have s3:=(Same.refl H2).new (o:=.lst [.ref T1,.ref T2]) hL;have h3:upd H2 L (.lst [.ref T1,.ref T2]) L=some (.lst [.ref T1,.ref T2]):=q0b;generalize upd H2 L (.lst [.ref T1,.ref T2])=H3 at s3 h3;have s13:=(s1.trans s2).trans s3;have hLH:H L=none:=(s1.trans s2).free hL;refine⟨_,rfl,.inl ⟨rfl,_,SqL.of h3⟩,_,rfl,ea,c_NoBook,false,⟨_,rfl,.inl ⟨_,rfl,kB⟩⟩,er s13,C.isi,by show 2<=sizeLine;decide,fun T3 hT3=>?_⟩;have s4:=(Same.refl H3).new (o:=.tup [.str (Ad "broken"),.bl false]) hT3;have h4:upd H3 T3 (.tup [.str (Ad "broken"),.bl false]) T3=some (.tup [.str (Ad "broken"),.bl false]):=q0b;generalize upd H3 T3 (.tup [.str (Ad "broken"),.bl false])=H4 at s4 h4;refine⟨L,_,_,rfl,rfl,s4 _ _ h3,small' (by show 2<=1000000;decide),?_⟩;have s5:Same H (upd H4 L (.lst ([.ref T1,.ref T2]++[.ref T3]))):=(s13.trans s4).put hLH;have h5:upd H4 L (.lst ([.ref T1,.ref T2]++[.ref T3])) L=some (.lst [.ref T1,.ref T2,.ref T3]):=q0b;have tk:∀{y:Addr} {xs:List V},H4 y=some (.tup xs)->upd H4 L (.lst ([.ref T1,.ref T2]++[.ref T3])) y=some (.tup xs):=fun{y xs} e=>by rw[q0e (fun z=>by rw[z,s4 _ _ h3] at e;cases e)];exact e
  have q1:=tk (s4 _ _ (s3 _ _ (s2 _ _ h1)));have q2:=tk (s4 _ _ (s3 _ _ h2));have q3:=tk h4;generalize upd H4 L (.lst ([.ref T1,.ref T2]++[.ref T3]))=H5 at s5 h5 q1 q2 q3;clear tk;refine⟨_,rfl,.inl ⟨L,rfl,⟨_,SqL.of h5⟩,fun D1 hD1=>?_⟩⟩;refine q7g (xs:=[.ref T1,.ref T2,.ref T3]) (fun i ys H'=>ys=(if i=0 then[] else[V.str (Ad "book")])/\Same H5 H'/\H' D1=some (.lst ys)) ⟨rfl,(Same.refl H5).new hD1,q0b⟩ (fun i ys H' x=>⟨x.2.2,SqL.of (x.2.1 _ _ h5)⟩) ?_ ?_
  ·rintro i ys H' v hv ⟨rfl,sm,hHD⟩;match i,hv with
   |0,hv =>
    cases hv;refine⟨T1,_,rfl,SqT.of (sm _ _ q1),rfl,_,_,rfl,_,_,rfl,rfl,q1x,_,rfl,true,rfl,iteT ⟨_,rfl,hHD,small' (by show 0<=1000000;decide),rfl,sm.put hD1,q0b⟩⟩
   |1,hv =>
    cases hv;refine⟨T2,_,rfl,SqT.of (sm _ _ q2),rfl,_,_,rfl,_,_,rfl,rfl,q1x,_,rfl,false,rfl,iteF ⟨rfl,sm,hHD⟩⟩
   |2,hv =>
    cases hv;refine⟨T3,_,rfl,SqT.of (sm _ _ q3),rfl,_,_,rfl,_,_,rfl,rfl,q1x,_,rfl,false,rfl,iteF ⟨rfl,sm,hHD⟩⟩
   |(n+3),hv=>cases hv
  rintro ys H6 ⟨rfl,s6,h6⟩;have s06:=s5.trans s6;replace h6:H6 D1=some (.lst [V.str (Ad "book")]):=h6;refine⟨_,rfl,by show 11<=sizeLine;decide,fun U0 hU0=>?_⟩;have s0:=(Same.refl H6).new (o:=.tup [.ref c_Busy,.ref c_Fixed,.ref c_Full,.ref c_Meets,.ref c_NoDoer,.ref c_NoDrawer,.ref c_NoHall,.ref c_NoLine,.ref c_NoPattern,.ref c_NoPlace,.ref c_NoRule]) hU0;refine⟨ea,c_NoBook,false,⟨_,rfl,.inr (.inr ⟨U0,[c_Busy,c_Fixed,c_Full,c_Meets,c_NoDoer,c_NoDrawer,c_NoHall,c_NoLine,c_NoPattern,c_NoPlace,c_NoRule],rfl,SqT.of q0b,C.any1⟩)⟩,er (s06.trans s0),C.isi,?_⟩;generalize upd H6 U0 _=H7 at s0;refine⟨fun v' H1=>v'=.bl false/\Same H6 H1,?_,?_⟩;rotate_left
  ·refine⟨_,rfl,false,rfl,iteF ⟨_,rfl,by show 8<=sizeLine;decide,fun U1 hU1=>?_⟩⟩;have s1:=s0.new (o:=.tup [.ref c_NoRules,.ref c_NoSame,.ref c_NoTemplate,.ref c_NoText,.ref c_NoThing,.ref c_NoWish,.ref c_NotEmpty,.ref c_Taken]) hU1;exact⟨ea,c_NoBook,false,⟨_,rfl,.inr (.inr ⟨U1,[c_NoRules,c_NoSame,c_NoTemplate,c_NoText,c_NoThing,c_NoWish,c_NotEmpty,c_Taken],rfl,SqT.of q0b,C.any2⟩)⟩,er (s06.trans s1),C.isi,rfl,s1⟩
  rintro v' H8 ⟨rfl,s8⟩;have s08:=s06.trans s8;have h8:=s8 _ _ h6;refine⟨fun b H9=>b=false/\H9=H8,?_,?_⟩;rotate_left
  ·refine⟨_,rfl,false,rfl,iteF ⟨_,rfl,ea,c_NoBook,false,⟨_,rfl,.inl ⟨_,rfl,kT⟩⟩,er s08,C.isi,false,rfl,iteF ?_⟩⟩;refine⟨_,rfl,_,_,rfl,.inl ⟨_,SqL.of h8,rfl⟩,.inl ⟨rfl,_,rfl,?_⟩⟩;rw[decide_eq_true (show V.int ((([V.str (Ad "book")]:List V).length:Nat):Int)=V.int 1 from rfl)];exact iteF ⟨_,rfl,ea,c_NoBook,true,⟨_,rfl,.inr (.inl ⟨_,rfl,C.val⟩)⟩,er s08,C.isi,true,rfl,rfl,rfl⟩
  rintro b H9 ⟨rfl,rfl⟩;refine iteF ⟨_,rfl,.inl ⟨D1,_,0,_,rfl,rfl,SqL.of h8,rfl,.inl ⟨rfl,_,rfl,?_⟩⟩⟩;rw[decide_eq_true rfl];refine iteT ⟨by show 2<=sizeLine;decide,fun T9 hT9=>?_⟩;exact k T9 _ (s08.new hT9) q0b
structure CallsRf (P:Program) (w:World) (K:Ah) (mg:Str->Option Value) (base:Heap) (c cD Cb Dn:Addr):Prop where
 begun_again:CalX P w K mg base "begun_again" 10 ["hall", "text"] (spAgainX c cD Cb)
 way_back:CalX P w K mg base "way_back" 10 ["hall", "text"] (spWayBackX c cD Cb)
 kind:Cal P w K mg base "_law_kind" 1 ["_law_error"] (spKind Cb)
 g_HallError:mg "HallError" = some (.ref Dn)
 e_HallError:ECls K Dn bmV
 sub:SubX K (.ref Cb) Dn
def spRefused:Sp:=fun vs H Q _=>∃g ms n p,∃way:Int,vs=[.ref g,.str (mk (bkN ms n++p)),.int way]/\Bk ms n p/\n<=ms.length/\∀H',Same H H'->Q (.str (Ad "book")) H'
abbrev q6b:Stmt:=top 70
theorem sc_refused:FnScope ["_law_ground", "_law_text", "_law_way", "_law_told", "e"] ["_law_ground", "_law_text", "_law_way"] (defScope q6b):=by trivial
theorem z5y{c cD Cb Dn:Addr}(D:Df K mg "_law_refused" q6b ["_law_ground", "_law_text", "_law_way"])(T:Txt mg)(C:CallsRf P w K mg base c cD Cb Dn):Cal P w K mg base "_law_refused" 11 ["_law_ground", "_law_text", "_law_way"] spRefused:=by
 refine D.cal sc_refused (fun vs H Q E h=>?_) (fun f cdv A outer s H vs Q E hr h=>?_)
 ·obtain⟨g,ms,n,p,way,rfl,_⟩:=h;rfl
 ·obtain⟨g,ms,n,p,way,rfl,bk,hn,k⟩:=h;have g_HallError:=C.g_HallError;have e_HallError:=C.e_HallError;refine⟨_,(q0d (q0m (i:=3) sc_refused.nd rfl (by trivial) q3e) (q0d (ps_try (i:=4) K rfl rfl rfl sc_refused.nd rfl rfl rfl g_HallError e_HallError (fun _ _=>(q0f (q0v (q0o (eq_k K rfl hr) (pv 2) q0g (nomark _)) (q0f (q1c (z2v C.begun_again hr AccX.of (q0a (pv 0) (q0a (pv 1) q0c))))) (q0f (q1c (z2v C.way_back hr AccX.of (q0a (pv 0) (q0a (pv 1) q0c))))))))
    (fun _=>(q0f (q0m (i:=3) sc_refused.nd rfl (by trivial) (pv 4))))) (q0d (q0v (q2b (q4k (pv 3))) (q0f (q0j q3e)) q0k) (q0f (q0j (q1a (ix_k K rfl) (pe_c C.kind hr (q0a (pv 3) q0c)) q0g (fun _ _=>rfl))))))),?_⟩
  refine⟨fun ea σ' H'=>σ'=[some (.ref g),some (.str (mk (bkN ms n++p))),some (.int way),some .non,none]/\Same H H'/\H' ea=some (ExO (.ref Cb) none ea),?_,?_⟩
  ·rintro ea σ' H' ⟨rfl,sm,hE⟩;refine⟨⟨_,_,hE,C.sub⟩,_,rfl,_,rfl,_,rfl,iteF ?_⟩;refine⟨_,rfl,ea,rfl,hE,fun T1 H1 s1 hT1=>.inr (.inl ⟨T1,_,0,_,rfl,rfl,SqT.of hT1,rfl,k H1 (sm.trans s1)⟩)⟩
  ·refine⟨_,rfl,.inl ⟨rfl,_,rfl,iteB (fun hb=>?_) (fun hb=>?_)⟩⟩
   ·refine⟨_,rfl,_,rfl,g,ms,n,p,rfl,bk,fun ge=>by lia,fun _ ea H3 s3 hea hE ea' ez=>?_⟩;cases ez;exact⟨rfl,s3,hE⟩
   ·refine⟨_,rfl,_,rfl,g,ms,n,p,rfl,bk,fun ge=>by lia,fun _ ea H3 s3 hea hE ea' ez=>?_⟩;cases ez;exact⟨rfl,s3,hE⟩
theorem x2b{l:List Nat}{i:Nat}(h:i<=l.length):PySem.Txt.slice (mk l) (some (i:Int)) (some (-1))=mk ((l.drop i).dropLast):=by
 by_cases h0:l=[]
 ·subst h0;have:i=0:=by simpa using h
  subst this;decide +kernel
 have hl:=Bo.mpr h0;have ei:Ek (some (i:Int)) (some (-1)) 1 l.length=Ek (some (i:Int)) (some (((l.length-1:Nat)):Int)) 1 l.length:=by
  have a:¬(((l.length-1:Nat):Int)<0):=by lia
  have b:(-1:Int)+(l.length:Int)=((l.length-1:Nat):Int):=by lia
  simp only[Ek,if_neg a,if_pos (show(-1:Int)<0 from by decide),b]
 have e:Fl (mk l) (some (i:Int)) (some (-1))=Fl (mk l) (some (i:Int)) (some (((l.length-1:Nat)):Int)):=by
  unfold Fl;rw[q0r,ei]
 show Fl (mk l) (some (i:Int)) (some (-1))=_;rw[e];by_cases hi:i<=l.length-1
 ·have e2:Fl (mk l) (some (i:Int)) (some (((l.length-1:Nat)):Int))=mk ((l.drop i).take (l.length-1-i)):=by
   rw[StrLaws.sliceText_plain ⟨by lia,by lia,by rw[show((mk l).cps.toList).length=l.length from congrArg List.length (q1h l)];lia⟩];have e1:((i:Nat):Int).toNat=i:=by lia
   have e2:(((l.length-1:Nat):Int)-((i:Nat):Int)).toNat=l.length-1-i:=by lia
   show mk (((mk l).cps.toList.drop ((i:Nat):Int).toNat).take (((l.length-1:Nat):Int)-((i:Nat):Int)).toNat)=_;rw[show(mk l).cps.toList=l from q1h l,e1,e2]
  rw[e2,Gk,Fw,show l.length-1-i=l.length-i-1 from by lia]
 ·have hi:i=l.length:=by lia
  subst hi;have er:Ek (some (l.length:Int)) (some (((l.length-1:Nat)):Int)) 1 l.length=[]:=by
   have a:¬(((l.length-1:Nat):Int)<0):=by lia
   have b:¬((l.length:Int)<0):=by lia
   have c:max (0:Int) (min (l.length:Int) (l.length:Int))=(l.length:Int):=by lia
   have d:max (0:Int) (min ((l.length-1:Nat):Int) (l.length:Int))=((l.length-1:Nat):Int):=by lia
   have f:¬((l.length:Int)<((l.length-1:Nat):Int)):=by lia
   simp only[Ek,if_neg a,if_neg b,if_pos (show(1:Int)>0 from by decide),c,d,sliceRange,if_neg f];rfl
  unfold Fl;rw[q0r,er,Ts];rw[if_neg]
  ·rfl
  ·intro z;have z2:((([]:List Nat).length==l.length))=true:=by simpa using z
   have:=beq_iff_eq.mp z2;rw[Ej] at this;lia
theorem x5a(a b:List (List Nat)):bkT (a++b)=bkT a++bkT b:=by unfold bkT;rw[An,List.flatten_append]
theorem x5b(ms:List Mv)(n:Nat):∃e,bkN ms (n+1)=bkN ms n++e/\(e=[]\/∃l∈lnsB ms,e=l++[10]):=by
 have hw:wr ms.length (n+1)=wr ms.length n\/wr ms.length (n+1)=wr ms.length n+1:=by unfold wr;lia
 unfold bkN;rcases hw with e|e
 ·exact⟨[],by rw[e,Bt],.inl rfl⟩
 ·rw[e,Bs];cases hl:(lnsB ms)[wr ms.length n]? with
  |none=>exact⟨[],by show bkT (_++[])=_;rw[Bt,Bt],.inl rfl⟩
  |some l =>
   refine⟨l++[10],?_,.inr ⟨l,As hl,rfl⟩⟩;rw[x5a];show _++((l++[10])++[])=_;rw[Bt]
theorem z3n{ms:List Mv}(h:okMs ms)(hl:ms.length<=100)(n:Nat):(bkN ms n).length<=50000:=by
 have:=z3j (M:=200) (ls:=(lnsB ms).take (wr ms.length n)) fun x hx=>q5n h (by lia) x (Cj hx);have h2:((lnsB ms).take (wr ms.length n)).length<=201:=by rw[Bf,q6t];lia
 unfold bkN;lia
structure CallsPc (P:Program) (w:World) (K:Ah) (mg:Str->Option Value) (base:Heap):Prop where
 draw:Cal P w K mg base "_law_draw" 1 ["_law_feed", "_law_many"] spDraw
 stop:Cal P w K mg base "_law_stop" 2 ["_law_row_here", "_law_steps"] spStop
abbrev PSG:Str:=Ad "abdegino 0123/.-_xyz~!"
theorem x5c:PSG.length=22:=by decide +kernel
theorem psg_no:(10:Nat)∉tl PSG:=by decide +kernel
def spPiece:Sp:=fun vs H Q _=>∃a b R zs n,vs=[.ref a,.ref R,.int ((n:Nat):Int)]/\FeedAt H a b/\ML H R zs/\okMs (zs.map (·.2))/\zs.length<=100/\n<=3*zs.length+1/\R≠a/\∀p H',Fd a b H H'->(10:Nat)∉p->p.length<=1000->Q (.str (mk p)) H'
abbrev z0h:Stmt:=top 71
theorem sc_piece:FnScope ["_law_feed", "_law_row_here", "_law_steps", "_law_signs", "_law_after", "_law_here", "_law_line"] ["_law_feed", "_law_row_here", "_law_steps"] (defScope z0h):=by trivial
theorem x2c(D:Df K mg "_law_piece" z0h ["_law_feed", "_law_row_here", "_law_steps"])(T:Txt mg)(C:CallsPc P w K mg base):Cal P w K mg base "_law_piece" 3 ["_law_feed", "_law_row_here", "_law_steps"] spPiece:=by
 refine D.cal sc_piece (fun vs H Q E h=>?_) (fun f cdv A outer s H vs Q E hr h=>?_)
 ·obtain⟨a,b,R,zs,n,rfl,_⟩:=h;rfl
 ·obtain⟨a,b,R,zs,n,rfl,F,mr,okm,few,le,hRa,k⟩:=h;refine⟨_,(q0d (q0m (i:=3) sc_piece.nd rfl (by trivial) q0t) (q0d (q0v (q0o (eq_k K rfl hr) (pe_c C.draw hr (q0a (pv 0) (q0a q0g q0c))) q0g (nomark _)) (q0f (q0j (@bm_k _ _ _ _ _ _ _ _ _ _ _ _ K rfl By Gm Gn (z0w K rfl) q0t (q0a (q1s ["_law_k"] [("_law_signs",3),("_law_feed",0)] rfl (q1p rfl T.b_range (q0a (pe_c C.draw hr (q0a (pv 0) (q0a q0g q0c))) q0c)) (fun _ _ _ _ _=>(q0i (i:=0) (show(["_law_k", "_law_signs", "_law_feed"]:List Str).Nodup by decide +kernel) rfl (by trivial))) (fun _ _ _ _ _=>q1r) (fun _ _ _ _ _=>(q1a (ix_k K rfl) (pv 1) (pe_c C.draw hr (q0a (pv 2) (q0a (q0h (q1k K rfl) (by rfl) T.b_len Ax (q0a (pv 1) q0c)) q0c))) (fun _ _=>rfl)))) q0c) (by rfl) (by rfl) (by rfl) (by rfl) (by rfl)))) q0k) (q0d (q0m (i:=4) sc_piece.nd rfl (by trivial) (q1a (ix_k K rfl) (pe_c C.stop hr (q0a (pv 1) (q0a (q0p q0q (pv 2) q0g) q0c))) q0g (fun _ _=>rfl))) (q0d (q0m (i:=5) sc_piece.nd rfl (by trivial) (q1a (ix_k K rfl) (pe_c C.stop hr (q0a (pv 1) (q0a (pv 2) q0c))) q0g (fun _ _=>rfl))) (q0d (q0m (i:=6) sc_piece.nd rfl (by trivial) (q0s (sl_k K rfl) (pv 4) (q0u (q0h (q1k K rfl) (by rfl) T.b_len Ax (q0a (pv 5) q0c))) (q0u (q2c q1e q0g)))) (q0f (q0j (q0s (sl_k K rfl) (pv 6) q0x (q0u (pe_c C.draw hr (q0a (pv 0) (q0a (q0p q0q (q0h (q1k K rfl) (by rfl) T.b_len Ax (q0a (pv 6) q0c)) q0g) q0c)))))))))))),?_⟩;have pl:=x5c;refine⟨_,rfl,a,b,_,rfl,F,by decide,by decide,fun r0 H1 r00 r01 fd1=>.inl ⟨rfl,_,rfl,iteB (fun hb=>?_) (fun hb=>?_)⟩⟩
  ·refine⟨rfl,_,rfl,a,b,_,rfl,fd1.feed,by decide,by decide,fun r2 H2 r20 r21 fd2=>⟨r2,rfl,by lia,by lia,fun D hD=>?_⟩⟩;have F':=fd2.feed;have fd12:=fd1.trans fd2;refine q4o (n:=r2.toNat) (fun i ys H3=>∃cs:List Nat,ys=cs.map (fun c=>V.str ⟨#[c]⟩)/\cs.length=i/\i<=r2.toNat/\(∀c∈cs,c∈tl PSG)/\Fd a b H2 H3/\H3 D=some (.lst ys)) ⟨[],rfl,rfl,Br _,fun _ h=>(nomatch h),(Fd.refl F').new hD,q0b⟩ (fun i ys H' ⟨cs,_,_,_,_,_,h⟩=>h) ?_ ?_
   ·rintro i ys H3 hi ⟨cs,rfl,hl,_,hc,fd3,hHD⟩;refine⟨_,rfl,_,rfl,_,rfl,_,_,rfl,⟨small (by rw[pl];decide),rfl⟩,a,b,_,rfl,fd3.feed,by rw[pl];decide,by rw[pl];decide,fun r H4 r0 r1 fd4=>?_⟩;rw[pl] at r1;have hl2:(tl PSG).length=PSG.length:=(len PSG).symm;obtain⟨c,hc1,hc2⟩:=q7j (xs:=tl PSG) r0 (by lia);refine .inr (.inr ⟨PSG,r,c,rfl,rfl,small (by lia),hc2,?_⟩);have hDa:D≠a:=fun z=>by subst z;exact F'.na hD rfl
    refine⟨fd4.at hHD hDa,small' (by rw[Ac];lia),cs++[c],by rw[An];rfl,by rw[Ai,hl];rfl,by lia,fun d hd=>?_,(fd3.trans fd4).put F' hD,q0b⟩;rcases Aw.mp hd with z|z
    ·exact hc d z
    ·rw[Az.mp z];exact As hc1
   ·rintro ys H3 ⟨cs,rfl,hl,_,hc,fd3,hHD⟩;have e:cs.map (fun c=>V.str ⟨#[c]⟩)=(cs.map fun c=>(⟨#[c]⟩:Str)).map V.str:=by rw[Ba];rfl
    refine⟨_,D,cs.map fun c=>⟨#[c]⟩,rfl,rfl,.inl (SqL.of (by rw[<- e];exact hHD)),?_,?_⟩
    ·rw[z3s,Ac];have:(Ad "").length=0:=by decide +kernel
     rw[this,hl];exact small (by lia)
    ·have z:=z0y cs;rw[z];exact k cs H3 (fd12.trans fd3) (fun h=>psg_no (hc 10 h)) (by lia)
  ·have mr1:=mr.fd F fd1 hRa;have lm:(zs.map (·.2)).length<=100:=by rw[Ac];exact few
   have lb:=z3n okm lm n;have lb1:=z3n okm lm (n+1);obtain⟨e,ee,he⟩:=x5b (zs.map (·.2)) n;refine⟨_,rfl,_,rfl,.inl ⟨_,_,rfl,rfl,R,zs,n+1,rfl,mr1,okm,by lia,by lia,fun T1 H2 _ s2 hT1=>.inr (.inl ⟨T1,_,0,_,rfl,rfl,SqT.of hT1,rfl,?_⟩)⟩⟩;refine⟨_,rfl,_,rfl,R,zs,n,rfl,mr1.same s2,okm,by lia,by lia,fun T2 H3 _ s3 hT2=>.inr (.inl ⟨T2,_,0,_,rfl,rfl,SqT.of hT2,rfl,?_⟩)⟩;refine⟨_,rfl,_,rfl,_,_,rfl,⟨small (by rw[q0r];lia),rfl⟩,_,rfl,_,rfl,_,rfl,.inl ⟨_,rfl,small (by rw[q0r];lia),?_⟩⟩;rw[q0r,x2b (by rw[ee,Ai];lia)];have el:((bkN (zs.map (·.2)) (n+1)).drop (bkN (zs.map (·.2)) n).length).dropLast=e.dropLast:=by rw[ee,List.drop_left]
   rw[el];have h10:(10:Nat)∉e.dropLast/\e.dropLast.length<=200:=by
    rcases he with rfl|⟨l,hl,rfl⟩
    ·exact⟨by simp,by simp⟩
    ·rw[Ml];exact⟨z2c okm l hl,q5n okm (by lia) l hl⟩
   have f3:=fd1.same (s2.trans s3);generalize e.dropLast=q at h10;refine⟨_,rfl,_,rfl,_,rfl,_,_,rfl,⟨small (by rw[q0r];lia),rfl⟩,.inl ⟨_,_,rfl,rfl,a,b,_,rfl,f3.feed,by rw[q0r];lia,by rw[q0r];lia,fun r H4 r0 r1 fd4=>?_⟩⟩;rw[q0r] at r1;refine⟨_,rfl,.inl ⟨_,rfl,small (by rw[q0r];lia),?_⟩⟩;rw[x0q (x:=mk q) r0 (by rw[q1h];lia),q1h];exact k _ H4 (f3.trans fd4) (fun z=>h10.1 (Cj z)) (by rw[Bf];lia)
theorem z9u{H H2 H3:Hp}{x h:Addr}(s:Same H H2)(hx:H x=none)(hh:H h=none)(kp:Kp x h H2 H3):Same H H3:=fun y u e=>kp y u (fun z=>by rw[z,hx] at e;cases e) (fun z=>by rw[z,hh] at e;cases e) (s _ _ e)
structure CallsTr (P:Program) (w:World) (K:Ah) (mg:Str->Option Value) (base:Heap) (c cD Cb:Addr):Prop where
 refused:Cal P w K mg base "_law_refused" 11 ["_law_ground", "_law_text", "_law_way"] spRefused
 begun_again:CalX P w K mg base "begun_again" 10 ["hall", "text"] (spAgainX c cD Cb)
 way_back:CalX P w K mg base "way_back" 10 ["hall", "text"] (spWayBackX c cD Cb)
 stop:Cal P w K mg base "_law_stop" 2 ["_law_row_here", "_law_steps"] spStop
 rows_right:Cal P w K mg base "_law_rows_right" 3 ["_law_hall", "_law_marks"] (spRight c)
 stands_so:Cal P w K mg base "_law_stands_so" 8 ["_law_doer", "_law_row_here", "_law_stands", "_law_blind", "_law_steps"] (spStands c cD)
 m_left:MCal P w K mg base cD "left" 1 ["self"] (spLeft cD)
 m_hall:MCal P w K mg base cD "hall" 7 ["self"] (spDHall c cD)
 m_book:MCal P w K mg base cD "book" 3 ["self"] (spBook c cD)
 m_do:MCal P w K mg base cD "do" 6 ["self", "many"] (spDo c cD)
structure Gr (c:Addr) (H:Hp) (g dg R S:Addr) (bl:Bool) (R0 W rg:List Rw) (zs:List Zm) (ds:List Addr) (n:Nat):Prop where
 hg:HallAt c H g dg bl rg
 pg:rg.Perm (wk R0 ((zs.map (·.2)).take (md zs.length n)))
 ok:WkOk bl R0 (zs.map (·.2))
 l60:R0.length<=60
 few:zs.length<=100
 le:n<=3*zs.length+1
 mr:ML H R zs
 st:StAt H S ds W (zs.map (·.2))
 pw:W.Perm R0
theorem Gr.same{c:Addr}{H H':Hp}{g dg R S:Addr}{bl:Bool}{R0 W rg:List Rw}{zs:List Zm}{ds:List Addr}{n:Nat}(x:Gr c H g dg R S bl R0 W rg zs ds n)(s:Same H H'):Gr c H' g dg R S bl R0 W rg zs ds n:=⟨x.hg.same s,x.pg,x.ok,x.l60,x.few,x.le,x.mr.same s,x.st.same s,x.pw⟩
def spTxR(c:Addr):Sp:=fun vs H Q _=>∃g dg R S bl R0 W rg zs ds n p,vs=[.ref g,.str (mk (bkN (zs.map (·.2)) n++p)),.ref R,.ref S,.bl bl,.int ((n:Nat):Int)]/\Gr c H g dg R S bl R0 W rg zs ds n/\(10:Nat)∉p/\p.length<=1000/\∀H',Same H H'->Q (.bl true) H'
abbrev q2z:Stmt:=top 72
theorem sc_text_right:FnScope ["_law_ground", "_law_text", "_law_row_here", "_law_stands", "_law_blind", "_law_steps", "_law_doer", "_law_made", "_law_back"] ["_law_ground", "_law_text", "_law_row_here", "_law_stands", "_law_blind", "_law_steps"] (defScope q2z):=by trivial
theorem z0i{c cD Cb:Addr}(D:Df K mg "_law_text_right" q2z ["_law_ground", "_law_text", "_law_row_here", "_law_stands", "_law_blind", "_law_steps"])(T:Txt mg)(C:CallsTr P w K mg base c cD Cb):Cal P w K mg base "_law_text_right" 12 ["_law_ground", "_law_text", "_law_row_here", "_law_stands", "_law_blind", "_law_steps"] (spTxR c):=by
 refine D.cal sc_text_right (fun vs H Q E h=>?_) (fun f cdv A outer s H vs Q E hr h=>?_)
 ·obtain⟨g,dg,R,S,bl,R0,W,rg,zs,ds,n,p,rfl,_⟩:=h;rfl
 ·obtain⟨g,dg,R,S,bl,R0,W,rg,zs,ds,n,p,rfl,gr,hp,hpl,k⟩:=h;refine⟨_,(q0d (q0v (q0o op_le (pv 5) (q0h (q1k K rfl) (by rfl) T.b_len Ax (q0a (pv 2) q0c)) (nomark _)) (q0f (q0j (pe_j (q8k (q2m (eq_k K rfl hr) (pe_c C.refused hr (q0a (pv 0) (q0a (pv 1) (q0a q0g q0c)))) q0t (nomark _)) (q6c (q2m (eq_k K rfl hr) (pe_c C.refused hr (q0a (pv 0) (q0a (pv 1) (q0a q0g q0c)))) q0t (nomark _))))))) q0k) (q0d (q0m (i:=6) sc_text_right.nd rfl (by trivial) (z2v C.begun_again hr accN (q0a (pv 0) (q0a (pv 1) q0c)))) (q0d (q0v (q3a (@q2k _ _ _ K rfl (pe_c C.stands_so hr (q0a (pv 6) (q0a (pv 2) (q0a (pv 3) (q0a (pv 4) (q0a (pv 5) q0c)))))) (fun _=>rfl))) (q0f (q0j q3d)) q0k) (q0d (q1c (pe_m C.m_do hr (pv 6) (q0a (q0p q0q (q0p q2n q0g (q0h (q1k K rfl) (by rfl) T.b_len Ax (q0a (pv 2) q0c))) q0g) q0c))) (q0d (q0v (q3a (@q2k _ _ _ K rfl (pe_c C.stands_so hr (q0a (pv 6) (q0a (pv 2) (q0a (pv 3) (q0a (pv 4) (q0a (q0p q0q (q0p q2n q0g (q0h (q1k K rfl) (by rfl) T.b_len Ax (q0a (pv 2) q0c))) q0g) q0c)))))) (fun _=>rfl))) (q0f (q0j q3d)) q0k) (q0d (q0m (i:=7) sc_text_right.nd rfl (by trivial) (q1a (ix_k K rfl) (pe_c C.stop hr (q0a (pv 2) (q0a (pv 5) q0c))) q0g (fun _ _=>rfl))) (q0d (q0m (i:=8) sc_text_right.nd rfl (by trivial) (z2v C.way_back hr accN (q0a (pv 0) (q0a (pv 1) q0c)))) (q0d (q0v (pt_j (@PW.pt _ _ _ (q5b (q0o (ne_k K rfl hr) (q4s C.m_left hr (pv 8)) (q0p q0q (q0p q2n q0g (pv 7)) q0g) (nomark _)) (q3f (q0o (ne_k K rfl hr) (q4s C.m_book hr (pv 8)) q0t (nomark _)))))) (q0f (q0j q3d)) q0k) (q0d (q1c (pe_m C.m_do hr (pv 8) (q0a (q0p q0q (q0p q2n q0g (pv 7)) q0g) q0c))) (q0f (q0j (pe_c C.rows_right hr (q0a (q4s C.m_hall hr (pv 8)) (q0a (q1a (ix_k K rfl) (pv 3) q0g (fun _ _=>rfl)) q0c)))))))))))))),?_⟩;have few:=gr.few;have le:=gr.le;have l60:=gr.l60;have okm:okMs (zs.map (·.2)):=q8c gr.ok;have lm:(zs.map (·.2)).length=zs.length:=Ac _;have bk:Bk (zs.map (·.2)) n p:=⟨okm,by lia,by lia,hp,hpl⟩
  refine⟨_,rfl,_,rfl,_,_,rfl,.inl ⟨_,SqL.of gr.mr.at_,rfl⟩,_,_,rfl,rfl,_,rfl,?_⟩;rw[Ac];refine iteB (fun hb=>?_) (fun hb=>?_)
  ·have hb:(n:Int)<=(zs.length:Int):=of_decide_eq_true hb;refine⟨fun v H4=>v=.bl true/\Same H H4,?_,?_⟩
   ·rintro v H4 ⟨rfl,s4⟩;exact k H4 s4
   refine⟨_,rfl,_,rfl,g,_,n,p,_,rfl,bk,by lia,fun H1 s1=>.inl ⟨rfl,?_⟩⟩;rw[decide_eq_true rfl];refine⟨_,rfl,iteT ⟨_,rfl,_,rfl,g,_,n,p,_,rfl,bk,by lia,fun H2 s2=>.inl ⟨rfl,?_,s1.trans s2⟩⟩⟩;rw[decide_eq_true rfl]
  have hb:¬(n:Int)<=(zs.length:Int):=of_decide_eq_false hb;have ge:zs.length+1<=n:=by lia
  have hbk:∀{H':Hp},Same H H'->HB c H' g dg bl R0 rg (zs.map (·.2)) n p:=fun{H'} s=>⟨gr.hg.same s,by rw[lm];exact gr.pg,gr.ok,l60,by lia,by lia,by lia,hp,hpl⟩
  refine⟨_,rfl,_,rfl,g,zs.map (·.2),n,p,rfl,bk,fun _=>⟨bl,R0,dg,rg,hbk (Same.refl H),fun y g2 dg2 M zs3 H3 yn g2n Mn s3 da3 ez3=>?_⟩,fun hk=>by lia⟩;have lz3:zs3.length=zs.length:=by have:=congrArg List.length ez3;rw[Ac,Ac] at this;exact this
  have gr3:=gr.same s3;refine⟨_,rfl,_,rfl,_,rfl,_,rfl,_,rfl,y,g2,dg2,M,R,S,bl,R0,W,zs3,zs,ds,n,rfl,da3,gr3.mr,ez3.symm,by rw[ez3];exact gr3.st,gr.pw,fun H4 s4=>⟨true,rfl,iteF ?_⟩⟩;have s04:=s3.trans s4;have gr4:=gr.same s04;have da4:=da3.same s4;obtain⟨dy4,hy4⟩:=da4.i;have em:3*(zs.length:Int)+1=((3*zs.length+1:Nat):Int):=by lia
  refine⟨_,rfl,y,dy4,_,rfl,hy4,rfl,_,rfl,_,_,rfl,.inl ⟨_,SqL.of gr4.mr.at_,rfl⟩,.inl ⟨_,_,rfl,rfl,.inl ⟨by decide,by decide⟩,.inl ⟨_,_,rfl,rfl,?_⟩⟩⟩;refine⟨y,g2,dg2,M,bl,R0,zs3,n,3*zs.length+1,by show[V.ref y,V.int (3*(((zs.map fun z=>V.ref z.1).length:Nat):Int)+1)]=_;rw[Ac,em],da4,fun d5 H5 kp5 da5=>?_⟩;rw[lz3,show min (3*zs.length+1) (n+(3*zs.length+1))=3*zs.length+1 from by lia] at da5;have s05:Same H H5:=z9u s04 yn g2n kp5;have gr5:=gr.same s05;refine⟨_,rfl,_,rfl,_,rfl,_,rfl,_,rfl,_,_,rfl,.inl ⟨_,SqL.of gr5.mr.at_,rfl⟩,.inl ⟨_,_,rfl,rfl,.inl ⟨by decide,by decide⟩,.inl ⟨_,_,rfl,rfl,?_⟩⟩⟩;refine⟨y,g2,d5,M,R,S,bl,R0,W,zs3,zs,ds,3*zs.length+1,by show[V.ref y,V.ref R,V.ref S,V.bl bl,V.int (3*(((zs.map fun z=>V.ref z.1).length:Nat):Int)+1)]=_;rw[Ac,em],da5,gr5.mr,ez3.symm,by rw[ez3];exact gr5.st,gr.pw,fun H6 s6=>⟨true,rfl,iteF ?_⟩⟩;have s06:=s05.trans s6;have gr6:=gr.same s06;refine⟨_,rfl,_,rfl,R,zs,n,rfl,gr6.mr,okm,by lia,by lia,fun T1 H7 _ s7 hT1=>.inr (.inl ⟨T1,_,1,_,rfl,rfl,SqT.of hT1,rfl,?_⟩)⟩;have s07:=s06.trans s7;refine⟨_,rfl,_,rfl,g,zs.map (·.2),n,p,rfl,bk,fun _=>⟨bl,R0,dg,rg,hbk s07,fun z g3 dg3 M3 zs4 H8 zn g3n M3n s8 da8 ez4=>?_⟩,fun hk=>by lia⟩;rw[lm] at ez4;have mdl:md zs.length n<=zs.length:=by unfold md;lia
  have lz4:zs4.length=md zs.length n:=by
   have:=congrArg List.length ez4;rw[Ac] at this;unfold tb at this;rw[Ac,Rl,Bf,Ac] at this;lia
  have s08:=s07.trans s8;obtain⟨dz,hz⟩:=da8.i;have emd:3*((md zs.length n:Nat):Int)+1=((3*zs4.length+1:Nat):Int):=by rw[lz4];lia
  have b0:bkN (zs4.map (·.2)) 0=[]:=by
   have e:wr (zs4.map (·.2)).length 0=0:=by unfold wr;lia
   unfold bkN;rw[e,Ga];rfl
  refine⟨fun bb H9=>bb=false/\Same H8 H9,?_,?_⟩;rotate_left
  ·refine⟨_,rfl,z,dz,_,rfl,hz,rfl,z,dz,g3,M3,0,zs4,rfl,hz,da8.ml,_,rfl,.inl ⟨_,_,rfl,rfl,.inl ⟨by decide,by decide⟩,.inl ⟨_,_,rfl,rfl,.inl ⟨rfl,_,rfl,?_⟩⟩⟩⟩;rw[decide_eq_true (show V.int (3*(zs4.length:Int)+1-((0:Nat):Int))=V.int (3*((md zs.length n:Nat):Int)+1) from by rw[lz4];exact congrArg V.int (by lia))];refine iteF ⟨_,rfl,z,dz,_,rfl,hz,rfl,z,g3,dg3,M3,bl,rg,zs4,0,rfl,da8,fun H9 s9=>.inl ⟨rfl,_,rfl,?_,s9⟩⟩;rw[b0];show(!decide (V.str (mk [])=V.str (Ad "")))=false;rw[decide_eq_true (show V.str (mk [])=V.str (Ad "") from rfl)];rfl
  rintro bb H9 ⟨rfl,s9⟩;refine iteF ?_;have da9:=da8.same s9;obtain⟨dz9,hz9⟩:=da9.i;refine⟨_,rfl,z,dz9,_,rfl,hz9,rfl,_,rfl,.inl ⟨_,_,rfl,rfl,.inl ⟨by decide,by decide⟩,.inl ⟨_,_,rfl,rfl,?_⟩⟩⟩;refine⟨z,g3,dg3,M3,bl,rg,zs4,0,3*zs4.length+1,by show[V.ref z,V.int (3*((md zs.length n:Nat):Int)+1)]=_;rw[emd],da9,fun dA HA kpA daA=>?_⟩;rw[show min (3*zs4.length+1) (0+(3*zs4.length+1))=3*zs4.length+1 from by lia] at daA;have s0A:Same H HA:=z9u (s08.trans s9) (s07.free zn) (s07.free g3n) kpA;have grA:=gr.same s0A;obtain⟨dzA,hzA⟩:=daA.i;obtain⟨m,hm⟩:∃m,ds[0]?=some m:=⟨ds[0]'(by rw[gr.st.len];lia),Cu _⟩
  refine⟨_,rfl,z,dzA,_,rfl,hzA,rfl,z,g3,dA,M3,bl,rg,zs4,_,rfl,daA,fun g4 dg4 rg4 HB sB _ hg4 pg4=>?_⟩;have mfull:md zs4.length (3*zs4.length+1)=zs4.length:=by unfold md;lia
  rw[mfull,<- Ac (f:=fun z:Zm=>z.2),Bi,ez4] at pg4;have pback:(wk rg (tb ((zs.map (·.2)).take (md zs.length n)))).Perm W:=by
   have q:=q9u (tb ((zs.map (·.2)).take (md zs.length n))) gr.pg;rw[z2x (gr.ok.take _).1] at q;exact q.trans gr.pw.symm
  have p3:=pg4.trans pback;have hlW:Hl bl W:=gr.ok.hd.perm gr.pw;have q3:=hlW.perm p3;have stB:=grA.st.same sB;have hmW:HB m=some (dR (W.map rR)):=by have:=stB.pr 0 m hm;rw[Ga] at this;exact this
  exact⟨_,rfl,.inl ⟨S,_,0,_,rfl,rfl,SqL.of stB.at_,z3d hm,g4,m,dg4,bl,rg4,W,rfl,hg4,hmW,p3.symm,q3.paths,q3.ok,by rw[p3.length_eq,gr.pw.length_eq];lia,fun HC sC=>k HC ((s0A.trans sB).trans sC)⟩⟩
theorem fd_kp{a b x h:Addr}{H H' H2:Hp}(y:Fd a b H H')(F:FeedAt H a b)(hx:H x=none)(hh:H h=none)(kp:Kp x h H' H2):Fd a b H H2:=by
 refine⟨?_,fun c o e hc=>kp c o (fun z=>by rw[z,hx] at e;cases e) (fun z=>by rw[z,hh] at e;cases e) (y.keep c o e hc)⟩;obtain⟨⟨i,j,e1⟩,ns,e2⟩:=y.feed;exact⟨⟨i,j,kp _ _ (F.na hx) (F.na hh) e1⟩,ns,kp _ _ (F.nb hx) (F.nb hh) e2⟩
def Kn(H H':Hp):Prop:=∀y u,H y=some u->(∀C d fs,u≠.ins C d fs)->H' y=some u
theorem Kp.kn{x h:Addr}{H H':Hp}(k:Kp x h H H'){C1 C2 d1 d2:Addr}{f1 f2:List (Str×V)}(hx:H x=some (.ins C1 d1 f1))(hh:H h=some (.ins C2 d2 f2)):Kn H H':=fun y u e ni=>k y u (fun z=>by rw[z,hx] at e;cases e;exact ni _ _ _ rfl) (fun z=>by rw[z,hh] at e;cases e;exact ni _ _ _ rfl) e
theorem DoAt.ins{c cD:Addr}{H:Hp}{x h d L:Addr}{bl:Bool}{R0:List Rw}{zs:List Zm}{n:Nat}(D:DoAt c cD H x h d L bl R0 zs n):∃d1 f1 d2 f2,H x=some (.ins cD d1 f1)/\H h=some (.ins c d2 f2):=by
 obtain⟨dx,hx⟩:=D.i;obtain⟨rows,hh,_⟩:=D.ha;obtain⟨dh,hi⟩:=hh.i;exact⟨dx,_,dh,_,hx,hi⟩
theorem mlKn{H H':Hp}{L:Addr}{zs:List Zm}(m:ML H L zs)(k:Kn H H'):ML H' L zs:=⟨k _ _ m.at_ (by intro _ _ _ z;cases z),fun z hz=>(m.pr z hz).keep fun T xs e=>k _ _ e (by intro _ _ _ z;cases z)⟩
theorem StAt.kn{H H':Hp}{S:Addr}{ds:List Addr}{rows:List Rw}{ms:List Mv}(x:StAt H S ds rows ms)(k:Kn H H'):StAt H' S ds rows ms:=⟨k _ _ x.at_ (by intro _ _ _ z;cases z),x.len,fun i d e=>k _ _ (x.pr i d e) (by intro _ _ _ z;cases z)⟩
theorem HallAt.kn{c:Addr}{H H':Hp}{h d:Addr}{bl:Bool}{rows:List Rw}(x:HallAt c H h d bl rows)(k:Kn H H')(hi:∀u,H h=some u->H' h=some u):HallAt c H' h d bl rows:=⟨x.i.imp fun _ e=>hi _ e,k _ _ x.d (by intro _ _ _ z;cases z)⟩
theorem DoAt.kn{c cD:Addr}{H H':Hp}{x h d L:Addr}{bl:Bool}{R0:List Rw}{zs:List Zm}{n:Nat}(D:DoAt c cD H x h d L bl R0 zs n)(k:Kn H H')(hx:∀u,H x=some u->H' x=some u)(hh:∀u,H h=some u->H' h=some u):DoAt c cD H' x h d L bl R0 zs n :=
 ⟨D.i.imp fun _ e=>hx _ e,D.ha.imp fun r e=>⟨e.1.kn k hh,e.2⟩,mlKn D.ml k,D.ok,D.l60,D.few,D.le⟩
structure TE (c cD:Addr) (H:Hp) (a b h0:Addr) (bl:Bool) (d0 S R:Addr) (Rh R0 W:List Rw) (zs:List Zm) (ds:List Addr) (x h L:Addr) (n:Nat) (H':Hp):Prop where
 fd:Fd a b H H'
 ha:HallAt c H' h0 d0 bl Rh
 s:StAt H' S ds W (zs.map (·.2))
 r:ML H' R zs
 dd:∃d zs',DoAt c cD H' x h d L bl R0 zs' n/\zs'.map (·.2)=zs.map (·.2)
 xn:H x=none
 hn:H h=none
 Ln:H L=none
 sn:H S=none
 rn:H R=none
 n1:h0≠x
 n2:h0≠h
section
variable{c cD:Addr}{H:Hp}{a b h0:Addr}{bl:Bool}{d0 S R:Addr}{Rh R0 W:List Rw}{zs:List Zm}{ds:List Addr}{x h L:Addr}{n:Nat}{H' H2:Hp}
theorem TE.same(t:TE c cD H a b h0 bl d0 S R Rh R0 W zs ds x h L n H')(s:Same H' H2):TE c cD H a b h0 bl d0 S R Rh R0 W zs ds x h L n H2 :=
 ⟨t.fd.same s,t.ha.same s,t.s.same s,t.r.same s,t.dd.imp fun _ e=>e.imp fun _ e=>⟨e.1.same s,e.2⟩,t.xn,t.hn,t.Ln,t.sn,t.rn,t.n1,t.n2⟩
theorem TE.go(t:TE c cD H a b h0 bl d0 S R Rh R0 W zs ds x h L n H')(F:FeedAt H a b)(fd:Fd a b H' H2):TE c cD H a b h0 bl d0 S R Rh R0 W zs ds x h L n H2 :=
 ⟨t.fd.trans fd,z0d t.ha t.fd.feed fd,t.s.fd t.fd.feed fd (F.na t.sn).symm,t.r.fd t.fd.feed fd (F.na t.rn).symm,t.dd.imp fun _ e=>e.imp fun _ e=>⟨e.1.fd t.fd.feed fd (F.na t.Ln).symm,e.2⟩,t.xn,t.hn,t.Ln,t.sn,t.rn,t.n1,t.n2⟩
theorem TE.kp{n2:Nat}{d2:Addr}{zs':List Zm}(t:TE c cD H a b h0 bl d0 S R Rh R0 W zs ds x h L n H')(F:FeedAt H a b)(kp:Kp x h H' H2)(dn:DoAt c cD H2 x h d2 L bl R0 zs' n2)(ez:zs'.map (·.2)=zs.map (·.2)):TE c cD H a b h0 bl d0 S R Rh R0 W zs ds x h L n2 H2:=by
 obtain⟨d,zs1,da,_⟩:=t.dd;obtain⟨_,_,_,_,hx,hi⟩:=da.ins;have kn:=kp.kn hx hi;exact⟨fd_kp t.fd F t.xn t.hn kp,t.ha.kn kn fun u e=>kp _ _ t.n1 t.n2 e,t.s.kn kn,mlKn t.r kn,⟨d2,zs',dn,ez⟩,t.xn,t.hn,t.Ln,t.sn,t.rn,t.n1,t.n2⟩
theorem TE.other{y g:Addr}{C1 C2 d1 d2:Addr}{f1 f2:List (Str×V)}(t:TE c cD H a b h0 bl d0 S R Rh R0 W zs ds x h L n H')(F:FeedAt H a b)(kp:Kp y g H' H2)(hy:H' y=some (.ins C1 d1 f1))(hg:H' g=some (.ins C2 d2 f2))(yn:H y=none)(gn:H g=none)(a1:x≠y)(a2:x≠g)(a3:h≠y)(a4:h≠g)(a5:h0≠y)(a6:h0≠g):TE c cD H a b h0 bl d0 S R Rh R0 W zs ds x h L n H2:=by
 have kn:=kp.kn hy hg;exact⟨fd_kp t.fd F yn gn kp,t.ha.kn kn fun u e=>kp _ _ a5 a6 e,t.s.kn kn,mlKn t.r kn,t.dd.imp fun _ e=>e.imp fun _ e=>⟨e.1.kn kn (fun u e=>kp _ _ a1 a2 e) (fun u e=>kp _ _ a3 a4 e),e.2⟩,t.xn,t.hn,t.Ln,t.sn,t.rn,t.n1,t.n2⟩
theorem TE.new{y g M d2:Addr}{k:Nat}{zs':List Zm}(t:TE c cD H a b h0 bl d0 S R Rh R0 W zs ds x h L n H')(s:Same H' H2)(yn:H' y=none)(gn:H' g=none)(Mn:H' M=none)(dn:DoAt c cD H2 y g d2 M bl R0 zs' k)(ez:zs'.map (·.2)=zs.map (·.2)):TE c cD H a b h0 bl d0 S R Rh R0 W zs ds y g M k H2 :=
 ⟨t.fd.same s,t.ha.same s,t.s.same s,t.r.same s,⟨d2,zs',dn,ez⟩,t.fd.free yn,t.fd.free gn,t.fd.free Mn,t.sn,t.rn,(fun z=>by obtain⟨_,e⟩:=t.ha.i;rw[z,yn] at e;cases e),(fun z=>by obtain⟨_,e⟩:=t.ha.i;rw[z,gn] at e;cases e)⟩
end
structure CallsO (P:Program) (w:World) (K:Ah) (mg:Str->Option Value) (base:Heap) (c cD:Addr):Prop where
 draw:Cal P w K mg base "_law_draw" 1 ["_law_feed", "_law_many"] spDraw
 begin:Cal P w K mg base "_law_begin" 6 ["_law_feed", "_law_most", "_law_moves"] (spBegin c)
 piece:Cal P w K mg base "_law_piece" 3 ["_law_feed", "_law_row_here", "_law_steps"] spPiece
 rows_right:Cal P w K mg base "_law_rows_right" 3 ["_law_hall", "_law_marks"] (spRight c)
 stop:Cal P w K mg base "_law_stop" 2 ["_law_row_here", "_law_steps"] spStop
 stands_so:Cal P w K mg base "_law_stands_so" 8 ["_law_doer", "_law_row_here", "_law_stands", "_law_blind", "_law_steps"] (spStands c cD)
 text_right:Cal P w K mg base "_law_text_right" 12 ["_law_ground", "_law_text", "_law_row_here", "_law_stands", "_law_blind", "_law_steps"] (spTxR c)
 m_hall:MCal P w K mg base cD "hall" 7 ["self"] (spDHall c cD)
 m_book:MCal P w K mg base cD "book" 3 ["self"] (spBook c cD)
 m_do:MCal P w K mg base cD "do" 6 ["self", "many"] (spDo c cD)
 k_Doer:KCal0 P w K mg base cD "Doer" 8 ["self", "hall", "row"] (spDInit c cD)
def spOne:Sp:=fun vs H Q _=>∃a b,vs=[.ref a]/\FeedAt H a b/\∀H',Fd a b H H'->Q (.bl true) H'
abbrev z9v:Stmt:=top 73
theorem sc_one:FnScope ["_law_feed", "_law_hall", "_law_blind", "_law_row_here", "_law_stands", "_law_doer", "_law_steps", "_law_ground"] ["_law_feed"] (defScope z9v):=by trivial
theorem ok_one{c cD:Addr}(D:Df K mg "_law_one" z9v ["_law_feed"])(T:Txt mg)(C:CallsO P w K mg base c cD):Cal P w K mg base "_law_one" 13 ["_law_feed"] spOne:=by
 refine D.cal sc_one (fun vs H Q E h=>?_) (fun f cdv A outer s H vs Q E hr h=>?_)
 ·obtain⟨a,b,rfl,_⟩:=h;rfl
 ·obtain⟨a,b,rfl,F,k⟩:=h;refine⟨_,(q0d (q3g (pe_c C.begin hr (q0a (pv 0) (q0a (q1a (ix_k K rfl) (q2l (q0a q0g (q0a q0g q0c))) (pe_c C.draw hr (q0a (pv 0) (q0a q0g q0c))) (fun _ _=>rfl)) (q0a q0g q0c)))) (@q1w _ _ _ _ (4) _ K rfl rfl (q0l (q0i (i:=1) sc_one.nd rfl (by trivial)) (q0l (q0i (i:=2) sc_one.nd rfl (by trivial)) (q0l (q0i (i:=3) sc_one.nd rfl (by trivial)) (q0l (q0i (i:=4) sc_one.nd rfl (by trivial)) q1j)))) (by rfl) (by rfl))) (q0d (q0m (i:=5) sc_one.nd rfl (by trivial) (x4e C.k_Doer hr (q0a (pv 1) (q0a (pv 3) q0c)))) (q0d (q0m (i:=6) sc_one.nd rfl (by trivial) (pe_c C.draw hr (q0a (pv 0) (q0a (q0p q0q (q0p q2n q0g (q0h (q1k K rfl) (by rfl) T.b_len Ax (q0a (pv 3) q0c))) q0g) q0c)))) (q0d (q1c (pe_m C.m_do hr (pv 5) (q0a (pv 6) q0c))) (q0d (q0m (i:=7) sc_one.nd rfl (by trivial) (q4s C.m_hall hr (pv 5))) (q0d (q0v (q3a (@q2k _ _ _ K rfl (pe_c C.text_right hr (q0a (pv 7) (q0a (q0p q0q (q4s C.m_book hr (pv 5)) (pe_c C.piece hr (q0a (pv 0) (q0a (pv 3) (q0a (pv 6) q0c))))) (q0a (pv 3) (q0a (pv 4) (q0a (pv 2) (q0a (pv 6) q0c))))))) (fun _=>rfl))) (q0f (q0j q3d)) q0k) (q0f (q0j (pe_j (q8k (pe_c C.rows_right hr (q0a (pv 7) (q0a (q1a (ix_k K rfl) (pv 4) (q1a (ix_k K rfl) (pe_c C.stop hr (q0a (pv 3) (q0a (pv 6) q0c))) q0g (fun _ _=>rfl)) (fun _ _=>rfl)) q0c))) (q6c (pe_c C.stands_so hr (q0a (pv 5) (q0a (pv 3) (q0a (pv 4) (q0a (pv 2) (q0a (pv 6) q0c))))))))))))))))),?_⟩;refine⟨_,rfl,by show 2<=sizeLine;decide,fun M0 hM0=>?_⟩;have s0:=(Same.refl H).new (o:=.lst [.int 4,.int 12]) hM0;have f0:=(Fd.refl F).same s0;have hM0a:M0≠a:=(F.na hM0).symm;refine⟨_,rfl,a,b,_,rfl,f0.feed,by decide,by decide,fun r0 H1 r00 r01 fd1=>?_⟩;have hat0:∃m0:Int,atI [V.int 4,V.int 12] r0=some (.int m0)/\0<=m0/\m0<=60:=by
   have e:r0=0\/r0=1:=by lia
   rcases e with rfl|rfl
   ·exact⟨4,rfl,by decide,by decide⟩
   ·exact⟨12,rfl,by decide,by decide⟩
  obtain⟨m0,hat0,m00,m01⟩:=hat0;refine .inl ⟨M0,_,r0,_,rfl,rfl,SqL.of (fd1.at q0b hM0a),hat0,?_⟩;have f2:=f0.trans fd1;refine⟨a,b,m0,8,rfl,f2.feed,m00,m01,by decide,by decide,fun T1 h0 d0 bl R S Rh W zs ds H3 B hT1=>?_⟩;refine⟨T1,_,rfl,SqT.of hT1,rfl,_,_,rfl,_,_,rfl,_,_,rfl,_,_,rfl,rfl,?_⟩;have f3:=f2.trans B.fd;have okW:=B.ok;have pm:=B.pm;have l60:=B.l60;have few:=B.few;have okR:WkOk bl Rh (zs.map (·.2)):=okW.perm pm;have h60:Rh.length<=60:=by rw[pm.length_eq];exact l60
  have okm:okMs (zs.map (·.2)):=q8c okR;have snH:=f2.free B.sn;have rnH:=f2.free B.rn;have ha3:=B.ha;have st3:=B.s;have mr3:=B.r;clear B hat0 f2 fd1 f0 s0 hT1 hM0a;refine⟨_,rfl,_,rfl,fun x dx hx hdx nx=>?_⟩;have sx:Same H3 (upd (upd H3 dx (.own x)) x (.ins cD dx [])):=fun y u e=>by
   rw[q0e (fun z=>by rw[z,hx] at e;cases e),q0e (fun z=>by rw[z,hdx] at e;cases e)];exact e
  refine⟨x,dx,h0,d0,R,bl,Rh,zs,rfl,q0b,ha3.same sx,h60,mr3.same sx,okR,by lia,fun h1 d1 L1 H5 hh1 hL1 kp da=>⟨rfl,?_⟩⟩;have s5:Same H3 H5:=fun y u e=>kp y u (fun z=>by rw[z,hx] at e;cases e) (sx _ _ e);have n1:h0≠x:=fun z=>by obtain⟨_,e⟩:=ha3.i;rw[z,hx] at e;cases e
  have n2:h0≠h1:=fun z=>by obtain⟨_,e⟩:=(ha3.same sx).i;rw[z,hh1] at e;cases e
  have t5:TE c cD H a b h0 bl d0 S R Rh Rh W zs ds x h1 L1 0 H5:=⟨f3.same s5,ha3.same s5,st3.same s5,mr3.same s5,⟨d1,zs,da,rfl⟩,f3.free hx,f3.free (sx.free hh1),f3.free (sx.free hL1),snH,rnH,n1,n2⟩
  clear da kp s5 sx ha3 st3 mr3 f3 hh1 hL1 hx hdx nx;refine⟨_,rfl,_,rfl,_,_,rfl,.inl ⟨_,SqL.of t5.r.at_,rfl⟩,.inl ⟨_,_,rfl,rfl,.inl ⟨by decide,by decide⟩,.inl ⟨_,_,rfl,rfl,a,b,_,rfl,t5.fd.feed,?_,?_,fun r1 H6 r10 r11 fd6=>?_⟩⟩⟩
  ·rw[Ac];lia
  ·rw[Ac];lia
  rw[Ac] at r11;have t6:=t5.go F fd6;obtain⟨n,rfl⟩:∃n:Nat,r1=(n:Int):=⟨r1.toNat,by lia⟩
  have hn:n<=3*zs.length+1:=by lia
  obtain⟨d6,zs',da6,ez⟩:=t6.dd;have lz:zs'.length=zs.length:=by have:=congrArg List.length ez;rw[Ac,Ac] at this;exact this
  obtain⟨dx6,hx6⟩:=da6.i;refine⟨_,rfl,x,dx6,_,rfl,hx6,rfl,_,rfl,x,h1,d6,L1,bl,Rh,zs',0,n,rfl,da6,fun d7 H7 kp7 da7=>?_⟩;have t7:=t6.kp F kp7 da7 ez;rw[lz,show min (3*zs.length+1) (0+n)=n from by lia] at t7 da7;obtain⟨dx7,hx7⟩:=da7.i;refine⟨_,rfl,x,dx7,_,rfl,hx7,rfl,x,h1,d7,L1,bl,Rh,zs',n,rfl,da7,fun g dg rg H8 s8 gn hg pg=>?_⟩;have t8:=t7.same s8;have da8:=da7.same s8;rw[ez,lz] at pg;refine⟨_,rfl,_,rfl,x,dx7,_,rfl,s8 _ _ hx7,rfl,x,h1,d7,L1,bl,Rh,zs',n,rfl,da8,fun H9 s9=>?_⟩;have t9:=t8.same s9;refine⟨_,rfl,_,rfl,_,rfl,a,b,R,zs,n,rfl,t9.fd.feed,t9.r,okm,by lia,hn,(F.na rnH).symm,fun p HA fdA hp hpl=>?_⟩;have tA:=t9.go F fdA;have hgA:=z0d (hg.same s9) t9.fd.feed fdA;have daA:=(da8.same s9).fd t9.fd.feed fdA (F.na t9.Ln).symm;have lb:=z3n okm (by rw[Ac];lia) n;refine .inr (.inl ⟨_,_,rfl,rfl,small (by rw[q0r,q0r,ez];lia),?_⟩);rw[q2d,ez];have gr:Gr c HA g dg R S bl Rh W rg zs ds n:=⟨hgA,pg,okR,h60,by lia,hn,tA.r,tA.s,pm.symm⟩
  refine⟨_,rfl,_,rfl,_,rfl,_,rfl,g,dg,R,S,bl,Rh,W,rg,zs,ds,n,p,rfl,gr,hp,hpl,fun HB sB=>⟨true,rfl,iteF ?_⟩⟩;have tB:=tA.same sB;have grB:=gr.same sB;refine⟨fun v HC=>v=.bl true/\Same HB HC,?_,?_⟩
  ·rintro v HC ⟨rfl,sC⟩;exact k HC (tB.same sC).fd
  refine⟨_,rfl,_,rfl,_,rfl,_,rfl,R,zs,n,rfl,tB.r,okm,by lia,by lia,fun T2 HC _ sC hT2=>?_⟩;have stC:=tB.s.same sC;have hm:md zs.length n<=zs.length:=by unfold md;lia
  obtain⟨dn,hdn⟩:∃dn,ds[md zs.length n]?=some dn:=⟨ds[md zs.length n]'(by rw[stC.len,Ac];lia),Cu _⟩
  have okW2:=okW.take (md zs.length n);have pE:rg.Perm (wk W ((zs.map (·.2)).take (md zs.length n))):=pg.trans (q9u _ pm);have hlE:=okW2.1.fin.perm pE;refine .inr (.inl ⟨T2,_,1,_,rfl,rfl,SqT.of hT2,rfl,.inl ⟨S,_,_,_,rfl,rfl,SqL.of stC.at_,z3d hdn,?_⟩⟩);refine⟨g,dn,dg,bl,rg,_,rfl,grB.hg.same sC,stC.pr _ dn hdn,pE.symm,hlE.paths,hlE.ok,by rw[pg.length_eq,q5k];lia,fun HD sD=>⟨_,rfl,iteT ?_⟩⟩;have tD:=(tB.same sC).same sD;have daD:=((daA.same sB).same sC).same sD;exact⟨_,rfl,_,rfl,_,rfl,_,rfl,_,rfl,x,h1,d7,L1,R,S,bl,Rh,W,zs',zs,ds,n,rfl,daD,tD.r,ez.symm,by rw[ez];exact tD.s,pm.symm,fun HE sE=>⟨rfl,(sC.trans sD).trans sE⟩⟩
structure CallsL (P:Program) (w:World) (K:Ah) (mg:Str->Option Value) (base:Heap):Prop where
 one:Cal P w K mg base "_law_one" 13 ["_law_feed"] spOne
def spLaw(K:Ah):Sp:=fun vs H Q _=>∃(a:Addr) (ns:List Int),vs=[.ref a]/\SqL K H a (ns.map V.int)/\ns.length<=63/\∀H',Q (.bl true) H'
abbrev q4a:Stmt:=top 74
theorem sc_law:FnScope ["_law_script", "_law_feed", "_law_k", "_law_turn"] ["_law_script"] (defScope q4a):=by trivial
theorem x2d(T:Txt mg)(C:CallsL P w K mg base)(f:Addr)(cdv:Value)(A:Around)(outer:List Env)(s:Af)(H:Hp)(vs:List V)(Q:VK)(E:XK)(hr:Room 13 (A.deeper (PyProof.Rows.envOfC "law" (defScope q4a) s.heap.objs.size f cdv)))(h:spLaw K vs H Q E):
  ∃t,PSs (cxOf CX0 P w K mg base ["_law_script", "_law_feed", "_law_k", "_law_turn"] "law" (defScope q4a) f cdv A outer s H E).nox (defBody q4a) t/\t { nx:=fun _ H'=>Q .non H',rt:=Q } (L2.start ["_law_script", "_law_feed", "_law_k", "_law_turn"] vs) H:=by
  obtain⟨sc,ns,rfl,hS,hns,k⟩:=h;refine⟨_,(q0d (q0m (i:=1) sc_law.nd rfl (by trivial) (q2l (q0a (q2r (z7b K rfl) (by rfl) T.b_list (by decide +kernel) (q0a (pv 0) q0c)) (q0a q0g (q0a q0g q0c))))) (q0d (q3b Cr rfl (q1p rfl T.b_range (q0a (q0h (q6w rfl) (by rfl) T.b_max (by decide +kernel) (q0a q0g (q0a (q0h (q6x rfl) (by rfl) T.b_min (by decide +kernel) (q0a q0g (q0a (q0h (q1k K rfl) (by rfl) T.b_len Ax (q0a (pv 0) q0c)) q0c))) q0c))) q0c)) (q0i (i:=2) sc_law.nd rfl (by trivial)) (q0f (q3b Cr rfl (q1p rfl T.b_range (q0a q0g q0c)) (q0i (i:=3) sc_law.nd rfl (by trivial)) (q0f (q0v (q3a (@q2k _ _ _ K rfl (pe_c C.one hr (q0a (pv 1) q0c)) (fun _=>rfl))) (q0f (q0j q3d)) q0k))))) (q0f (q0j q3d)))),?_⟩;refine⟨_,rfl,sc,_,rfl,.inl hS,fun b hb=>⟨by show 3<=sizeLine;decide,fun a ha=>?_⟩⟩;have nba:b≠a:=q0n q0b ha;have F:FeedAt (upd (upd H b (.lst (ns.map V.int))) a (.lst [.ref b,.int 0,.int 0])) a b:=⟨⟨0,0,q0b⟩,ns,by rw[q0e nba];exact q0b⟩
  have sS:Same H (upd (upd H b (.lst (ns.map V.int))) a (.lst [.ref b,.int 0,.int 0])):=((Same.refl H).new hb).new ha;generalize hH1:upd (upd H b _) a _=H1;rw[hH1] at F sS;refine⟨_,rfl,_,_,rfl,.inl ⟨_,sS.seq hS,rfl⟩,?_⟩;refine⟨_,_,rfl,_,_,rfl,_,rfl,?_,?_,q3h (fun i σ' H'=>∃x2 x3,σ'=[some (.ref sc),some (.ref a),x2,x3]/\Fd a b H1 H') ⟨none,none,rfl,Fd.refl F⟩ ?_ ?_⟩
  ·rw[Ac];split<;>split<;>lia
  ·rw[Ac];split<;>split<;>lia
  ·rintro i σ' H' hi ⟨x2,x3,rfl,fd⟩;refine⟨3,rfl,by decide,by decide,q3h (n:=3) (fun j σ2 H2=>∃x3,σ2=[some (.ref sc),some (.ref a),some (.int (0+(i:Int))),x3]/\Fd a b H1 H2) ⟨x3,rfl,fd⟩ ?_ ?_⟩
   ·rintro j σ2 H2 hj ⟨y3,rfl,fd2⟩;exact⟨_,rfl,a,b,rfl,fd2.feed,fun H3 fd3=>⟨true,rfl,iteF ⟨_,rfl,fd2.trans fd3⟩⟩⟩
   ·rintro σ2 H2 ⟨y3,rfl,fd2⟩;exact⟨_,_,rfl,fd2⟩
  ·rintro σ' H' ⟨x2,x3,rfl,fd⟩;exact k _
end
end K
set_option maxHeartbeats 4000000
namespace K
open PySem L2 TX SB HM PM
theorem df_mk{K:Ah}{mg:Str->Option Value}{h:Heap}{x:Str}{st:Stmt}{ps:List Str}{f:Addr}{oc:Value}{od an:Option Addr}{osl:Array (Option Value)}{kV doc pm cdv ct:Value}(X:K.In h)(G:h.Ns Ck mg)(a:Ki K Ck x=some (some (.ref f)))(l:K.lookup f=some ⟨oc,od,.func (Hm x x (defArgs st) (defBody st) (defScope st) .none kV doc pm an cdv ct),osl⟩)(c:Jb K cdv x=true)(k:Ew K (.ref f)=true)(hb:∀(kV doc pm:Value) (an:Option Addr) (cdv ct:Value) (us:List Value),us.length=ps.length->bindArgs (Hm x x (defArgs st) (defBody st) (defScope st) .none kV doc pm an cdv ct) ⟨us,[]⟩=pure (ps.zip us)):Df K mg x st ps :=
 ⟨f,_,q8q l c k,Ql X G a,(q8q (st:=st) l c k).binds hb⟩
theorem mf_mk{K:Ah}{C:Addr}{m qual:Str}{st:Stmt}{ps:List Str}{f:Addr}{oc:Value}{od an:Option Addr}{osl:Array (Option Value)}{kV doc pm cdv ct:Value}(a:Cd K (.ref C) m=some (some (.ref f)))(l:K.lookup f=some ⟨oc,od,.func (Hm m qual (defArgs st) (defBody st) (defScope st) .none kV doc pm an cdv ct),osl⟩)(c:Jb K cdv qual=true)(k:Ew K (.ref f)=true)(i:Rt K (.ref f)=true)(hb:∀(kV doc pm:Value) (an:Option Addr) (cdv ct:Value) (us:List Value),us.length=ps.length->bindArgs (Hm m qual (defArgs st) (defBody st) (defScope st) .none kV doc pm an cdv ct) ⟨us,[]⟩=pure (ps.zip us)):Mf K C m qual st ps :=
 ⟨⟨f,_,q8q l c k,⟨a,i,k⟩,(q8q (st:=st) l c k).binds hb⟩⟩
structure Eb (K:Ah) (mg:Str->Option Value) (D:Addr) (mc:Value):Prop where
 gl:mg "HallError" = some (.ref D)
 base:EBase K D
 ini:EIni K D mc
 hn:Kz K (.builtin "object.__class__") "__get__" = some (some (.builtin "getset_descriptor.__get__"))
 htk:Rx K (.builtin "object.__class__")=some true
theorem eb_mk{K:Ah}{mg:Str->Option Value}{h:Heap}(X:K.In h)(G:h.Ns Ck mg){D:Addr}{nm qn:Str}{N:Addr}{bs:List Value}{sn:List Str}{sub:List Value}{ab:Bool}{col:Option Bool}{dd:Option Addr}{k0 k1 k2 k3 k5:Option Value}{oc mc:Value}{od:Option Addr}{es:Array Iv}{ep:Nat}{sl:Array (Option Value)}(g:Ki K Ck "HallError" = some (some (.ref D)))(l:K.lookup D=some (Ed nm qn D N bs bmV true sn sub ab col dd k0 k1 k2 k3 k5 "ValueError.__new__"))(n:K.lookup N=some ⟨oc,od,.dict es ep,sl⟩)(s:es.toList.all strKey=true)(i:Ki K N "__init__" = some none)(sp:Kz K (.ref D) "__getattribute__" = some (some (.builtin "type.__getattribute__")))(tm:W.typeIn K (.ref D)=some mc)(rd:W.readsIn K D mc=true)(fc:W.findCls K (.ref D) mc "__init__" = some (.val (.builtin "ValueError.__init__")))(hn:Kz K (.builtin "object.__class__") "__get__" = some (some (.builtin "getset_descriptor.__get__")))(htk:Rx K (.builtin "object.__class__")=some true):Eb K mg D mc :=
 ⟨Ql X G g,⟨nm,qn,N,bs,sn,sub,ab,col,dd,k0,k1,k2,k3,k5,l,z4d n s,i⟩,⟨sp,rd,fc⟩,hn,htk⟩
structure Ec0 (K:Ah) (mg:Str->Option Value) (x:Str) (C D:Addr):Prop where
 gl:mg x=some (.ref C)
 lw:EBase K D->ELaw0 K C D
 ga:Cd K (.ref C) "__getattribute__" = some (some (.builtin "BaseException.__getattribute__"))
 gh:Cd K (.ref C) "__getattr__" = some none
 ha:Cd K (.ref C) "__class__" = some (some (.builtin "object.__class__"))
section
variable{K:Ah}{mg:Str->Option Value}{x:Str}{C D:Addr}{mc:Value}
theorem Ec0.law(E:Ec0 K mg x C D)(B:Eb K mg D mc):ELaw0 K C D:=E.lw B.base
theorem Ec0.isi(E:Ec0 K mg x C D)(B:Eb K mg D mc):EIsi K C:=⟨(E.law B).clsIn,E.ga,E.gh,E.ha,B.hn,B.htk⟩
theorem ec0_mk{h:Heap}(X:K.In h)(G:h.Ns Ck mg){nm qn:Str}{N:Addr}{bs:List Value}{sn:List Str}{sub:List Value}{ab:Bool}{col:Option Bool}{dd:Option Addr}{k0 k1 k2 k3 k5:Option Value}{oc:Value}{od:Option Addr}{es:Array Iv}{ep:Nat}{sl:Array (Option Value)}(g:Ki K Ck x=some (some (.ref C)))(l:K.lookup C=some (Ed nm qn C N bs (.ref D::bmV) true sn sub ab col dd k0 k1 k2 k3 k5 "ValueError.__new__"))(n:K.lookup N=some ⟨oc,od,.dict es ep,sl⟩)(s:es.toList.all strKey=true)(i:Ki K N "__init__" = some none)(kp:Ew K (.ref C)=true)(ga:Cd K (.ref C) "__getattribute__" = some (some (.builtin "BaseException.__getattribute__")))(gh:Cd K (.ref C) "__getattr__" = some none)(ha:Cd K (.ref C) "__class__" = some (some (.builtin "object.__class__"))):Ec0 K mg x C D :=
 ⟨Ql X G g,fun B=>⟨⟨nm,qn,N,bs,sn,sub,ab,col,dd,k0,k1,k2,k3,k5,l,z4d n s,i⟩,kp,B⟩,ga,gh,ha⟩
end
theorem len_1{us:List Value}(h:us.length=1):∃x0,us=[x0]:=by
 match us,h with
 |[x0],_=>exact⟨x0,rfl⟩
theorem len_2{us:List Value}(h:us.length=2):∃x0 x1,us=[x0,x1]:=by
 match us,h with
 |[x0,x1],_=>exact⟨x0,x1,rfl⟩
theorem len_3{us:List Value}(h:us.length=3):∃x0 x1 x2,us=[x0,x1,x2]:=by
 match us,h with
 |[x0,x1,x2],_=>exact⟨x0,x1,x2,rfl⟩
theorem len_4{us:List Value}(h:us.length=4):∃x0 x1 x2 x3,us=[x0,x1,x2,x3]:=by
 match us,h with
 |[x0,x1,x2,x3],_=>exact⟨x0,x1,x2,x3,rfl⟩
theorem len_5{us:List Value}(h:us.length=5):∃x0 x1 x2 x3 x4,us=[x0,x1,x2,x3,x4]:=by
 match us,h with
 |[x0,x1,x2,x3,x4],_=>exact⟨x0,x1,x2,x3,x4,rfl⟩
theorem len_6{us:List Value}(h:us.length=6):∃x0 x1 x2 x3 x4 x5,us=[x0,x1,x2,x3,x4,x5]:=by
 match us,h with
 |[x0,x1,x2,x3,x4,x5],_=>exact⟨x0,x1,x2,x3,x4,x5,rfl⟩
theorem all_mk{lw:Uo}{w:World}{K:Ah}{h:Heap}{mg:Str->Option Value}{fa:Addr}(X:K.In h)(G:h.Ns Ck mg)(hfa:mg "law" = some (.ref fa)){f38:Addr}{od38 an38:Option Addr}{sl38:Array (Option Value)}{oc38 kV38 dc38 pm38 cd38 ct38:Value}{eHallError:Addr}{mcH:Value}{eNoPattern:Addr}{eNoTemplate:Addr}{eNoHall:Addr}{eNoThing:Addr}{eNoDrawer:Addr}{eTaken:Addr}{eFixed:Addr}{eNotEmpty:Addr}{eNoWish:Addr}{eMeets:Addr}{eNoPlace:Addr}{eBroken:Addr}{eStrayed:Addr}{eNoText:Addr}{eNoRule:Addr}{eFull:Addr}{eNoBook:Addr}{eNoSame:Addr}{eTooMuch:Addr}{eNoLine:Addr}{eBusy:Addr}{eNoDoer:Addr}{eNoRules:Addr}{cHall:Addr}{fminit:Addr}{odminit anminit:Option Addr}{slminit:Array (Option Value)}{ocminit kVminit dcminit pmminit cdminit ctminit:Value}{dtminit:Addr}{tdminit:Option Addr}{tsminit:Array (Option Value)}{tnminit:Nat}{cDoer:Addr}{fminitDoer:Addr}{odminitDoer anminitDoer:Option Addr}{slminitDoer:Array (Option Value)}{ocminitDoer kVminitDoer dcminitDoer pmminitDoer cdminitDoer ctminitDoer:Value}(D_all_of:Df K mg "all_of" q8b ["text", "signs"])(D_is_name:Df K mg "is_name" q5z ["text"])(D_alike:Df K mg "alike" q9y ["one", "other"])(D_show_path:Df K mg "show_path" q3q ["path"])(D_read_path:Df K mg "read_path" q3r ["text"])(D_carried:Df K mg "carried" q5u ["path", "moved", "place"])(D_copied:Df K mg "copied" q8a ["hall"])(D_is_made:Df K mg "is_made" q5x ["hall", "path", "place"])(D_walk:Df K mg "walk" z3b ["hall", "row"])(D_turned_back:Df K mg "turned_back" q2o ["row"])(D_lines_of:Df K mg "lines_of" q4x ["row"])(D_read_move:Df K mg "read_move" q3w ["line"])(D_read_book:Df K mg "read_book" q3x ["text"])(D_is_made_without_line:Df K mg "is_made_without_line" q1i ["hall", "row", "done"])(D_read_stop:Df K mg "read_stop" q3y ["hall", "text"])(D_ask_rest:Df K mg "ask_rest" q4y ["hall", "row", "made"])(D_begun_again:Df K mg "begun_again" q2q ["hall", "text"])(D_way_back:Df K mg "way_back" q4z ["hall", "text"])(D_draw:Df K mg "_law_draw" z2y ["_law_feed", "_law_many"])(D_name:Df K mg "_law_name" z2z ["_law_feed"])(D_folded:Df K mg "_law_folded" q7y ["_law_path", "_law_blind"])(D_rows:Df K mg "_law_rows" z3a ["_law_feed", "_law_blind", "_law_most"])(D_mixed:Df K mg "_law_mixed" q9x ["_law_feed", "_law_rows_here"])(D_rows_right:Df K mg "_law_rows_right" q2y ["_law_hall", "_law_marks"])(D_there:Df K mg "_law_there" z0b ["_law_marks", "_law_blind", "_law_place"])(D_moved:Df K mg "_law_moved" z0c ["_law_marks", "_law_path", "_law_place"])(D_move_due:Df K mg "_law_move_due" q4w ["_law_marks", "_law_blind", "_law_path", "_law_place"])(D_goal:Df K mg "_law_goal" z3c ["_law_feed", "_law_marks", "_law_path"])(D_row:Df K mg "_law_row" z9b ["_law_feed", "_law_marks", "_law_blind", "_law_most"])(D_path_text:Df K mg "_law_path_text" q3s ["_law_path"])(D_stop:Df K mg "_law_stop" z3i ["_law_row_here", "_law_steps"])(D_begin:Df K mg "_law_begin" z0g ["_law_feed", "_law_most", "_law_moves"])(D_kind:Df K mg "_law_kind" z3m ["_law_error"])(D_stands_so:Df K mg "_law_stands_so" q3z ["_law_doer", "_law_row_here", "_law_stands", "_law_blind", "_law_steps"])(D_refused:Df K mg "_law_refused" q6b ["_law_ground", "_law_text", "_law_way"])(D_piece:Df K mg "_law_piece" z0h ["_law_feed", "_law_row_here", "_law_steps"])(D_text_right:Df K mg "_law_text_right" q2z ["_law_ground", "_law_text", "_law_row_here", "_law_stands", "_law_blind", "_law_steps"])(D_one:Df K mg "_law_one" z9v ["_law_feed"])(a38:Ki K Ck "law" = some (some (.ref f38)))(l38:K.lookup f38=some ⟨oc38,od38,.func (Hm "law" "law" (defArgs q4a) (defBody q4a) (defScope q4a) .none kV38 dc38 pm38 an38 cd38 ct38),sl38⟩)(c38:Jb K cd38 "law" = true)(k38:Ew K (.ref f38)=true)(T:Txt mg)(E0:Eb K mg eHallError mcH)(gl_NoPattern:mg "NoPattern" = some (.ref eNoPattern))(gl_NoTemplate:mg "NoTemplate" = some (.ref eNoTemplate))(gl_NoHall:mg "NoHall" = some (.ref eNoHall))(gl_NoThing:mg "NoThing" = some (.ref eNoThing))(gl_NoDrawer:mg "NoDrawer" = some (.ref eNoDrawer))(gl_Taken:mg "Taken" = some (.ref eTaken))(gl_Fixed:mg "Fixed" = some (.ref eFixed))(gl_NotEmpty:mg "NotEmpty" = some (.ref eNotEmpty))(gl_NoWish:mg "NoWish" = some (.ref eNoWish))(gl_Meets:mg "Meets" = some (.ref eMeets))(gl_NoPlace:mg "NoPlace" = some (.ref eNoPlace))(gl_Broken:mg "Broken" = some (.ref eBroken))(gl_Strayed:mg "Strayed" = some (.ref eStrayed))(gl_NoText:mg "NoText" = some (.ref eNoText))(gl_NoRule:mg "NoRule" = some (.ref eNoRule))(gl_Full:mg "Full" = some (.ref eFull))(E_NoBook:Ec0 K mg "NoBook" eNoBook eHallError)(gl_NoSame:mg "NoSame" = some (.ref eNoSame))(gl_TooMuch:mg "TooMuch" = some (.ref eTooMuch))(gl_NoLine:mg "NoLine" = some (.ref eNoLine))(gl_Busy:mg "Busy" = some (.ref eBusy))(gl_NoDoer:mg "NoDoer" = some (.ref eNoDoer))(gl_NoRules:mg "NoRules" = some (.ref eNoRules))(KO_NoBook_Broken:Ff K (.ref eNoBook) (.ref eBroken)=some false)(KO_NoBook_NoBook:Ff K (.ref eNoBook) (.ref eNoBook)=some true)(KO_NoBook_Strayed:Ff K (.ref eNoBook) (.ref eStrayed)=some false)(KO_NoBook_TooMuch:Ff K (.ref eNoBook) (.ref eTooMuch)=some false)(KO_NoBook_ValueError:Ff K (.ref eNoBook) (.type "ValueError")=some true)(KA_NoBook__Busy__Fixed__Full__Meets__NoDoer__NoDrawer__NoHall__NoLine__NoPattern__NoPlace__NoRule:Qt K (.ref eNoBook) [.ref eBusy,.ref eFixed,.ref eFull,.ref eMeets,.ref eNoDoer,.ref eNoDrawer,.ref eNoHall,.ref eNoLine,.ref eNoPattern,.ref eNoPlace,.ref eNoRule]=some false)(KA_NoBook__NoRules__NoSame__NoTemplate__NoText__NoThing__NoWish__NotEmpty__Taken:Qt K (.ref eNoBook) [.ref eNoRules,.ref eNoSame,.ref eNoTemplate,.ref eNoText,.ref eNoThing,.ref eNoWish,.ref eNotEmpty,.ref eTaken]=some false)(gcHall:Ki K Ck "Hall" = some (some (.ref cHall)))(pgcHall:Ma K cHall Hd=true)(hdcHall:Jk K cHall=true)(pocHall:Pj K cHall=true)(sacHall:Cd K (.ref cHall) "__setattr__" = some (some (.builtin "object.__setattr__")))(nacHall_blind:Cd K (.ref cHall) "blind" = some none)(nacHall_marks:Cd K (.ref cHall) "marks" = some none)(aminit:Cd K (.ref cHall) "__init__" = some (some (.ref fminit)))(lminit:K.lookup fminit=some ⟨ocminit,odminit,.func (Hm "__init__" "Hall.__init__" (defArgs q1d) (defBody q1d) (defScope q1d) (.ref dtminit) kVminit dcminit pmminit anminit cdminit ctminit),slminit⟩)(cminit:Jb K cdminit "Hall.__init__" = true)(kminit:Ew K (.ref fminit)=true)(iminit:Rt K (.ref fminit)=true)(mkcHall:Ru K cHall=true)(kccHall:Ew K (.ref cHall)=true)(tminit:K.lookup dtminit=some ⟨.type "tuple",tdminit,.seq #[.bool false] tnminit,tsminit⟩)(M_ask_drawer:Mf K cHall "ask_drawer" "Hall.ask_drawer" q1v ["self", "path"])(M_ask_thing:Mf K cHall "ask_thing" "Hall.ask_thing" q1z ["self", "path"])(M_is_blind:Mf K cHall "is_blind" "Hall.is_blind" q2e ["self"])(M_is_drawer:Mf K cHall "is_drawer" "Hall.is_drawer" q1y ["self", "path"])(M_is_one_place:Mf K cHall "is_one_place" "Hall.is_one_place" q1o ["self", "one", "other"])(M_move:Mf K cHall "move" "Hall.move" q3n ["self", "path", "place"])(M_rows:Mf K cHall "rows" "Hall.rows" q3m ["self"])(M_there:Mf K cHall "there" "Hall.there" q2x ["self", "place"])(gcDoer:Ki K Ck "Doer" = some (some (.ref cDoer)))(pgcDoer:Ma K cDoer Hd=true)(hdcDoer:Jk K cDoer=true)(pocDoer:Pj K cDoer=true)(sacDoer:Cd K (.ref cDoer) "__setattr__" = some (some (.builtin "object.__setattr__")))(nacDoer_held:Cd K (.ref cDoer) "held" = some none)(nacDoer_moves:Cd K (.ref cDoer) "moves" = some none)(nacDoer_steps:Cd K (.ref cDoer) "steps" = some none)(aminitDoer:Cd K (.ref cDoer) "__init__" = some (some (.ref fminitDoer)))(lminitDoer:K.lookup fminitDoer=some ⟨ocminitDoer,odminitDoer,.func (Hm "__init__" "Doer.__init__" (defArgs q0y) (defBody q0y) (defScope q0y) .none kVminitDoer dcminitDoer pmminitDoer anminitDoer cdminitDoer ctminitDoer),slminitDoer⟩)(cminitDoer:Jb K cdminitDoer "Doer.__init__" = true)(kminitDoer:Ew K (.ref fminitDoer)=true)(iminitDoer:Rt K (.ref fminitDoer)=true)(mkcDoer:Ru K cDoer=true)(kccDoer:Ew K (.ref cDoer)=true)(M_book:Mf K cDoer "book" "Doer.book" q3u ["self"])(M_do:Mf K cDoer "do" "Doer.do" q6a ["self", "many"])(M_do_one:Mf K cDoer "do_one" "Doer.do_one" q2p ["self"])(M_hall:Mf K cDoer "hall" "Doer.hall" q3v ["self"])(M_left:Mf K cDoer "left" "Doer.left" q3t ["self"]):
  ∃fd:Ja,(∀(s:Af) (v:Value),Qa s fd ⟨[v],[]⟩ [("_law_script",v)])/\∀base:Heap,K.In base->base.Ns Ck mg->FnOk lw.prog w K mg base CX0 14 fa fd ["_law_script"] (spLaw K):=by
 have e:=hfa.symm.trans (Ql X G a38);cases e;have EB_HallError:=E0.base;have gl_HallError:=E0.gl;have EL_NoBook:=E_NoBook.law E0;have EI_NoBook:=E_NoBook.isi E0;have gl_NoBook:=E_NoBook.gl;have clcHall:Cls K cHall:=⟨pgcHall,hdcHall,pocHall,sacHall⟩
 have K_Hall:Kf K mg cHall "Hall" "Hall.__init__" q1d ["self", "rows", "blind"]:=⟨⟨fminit,_,ocminit,odminit,.ref dtminit,kVminit,dcminit,pmminit,anminit,cdminit,ctminit,slminit,rfl,lminit,cminit,⟨mkcHall,aminit,iminit,kccHall⟩,fun s us Y hl=>by obtain⟨_,_,_,rfl⟩:=len_3 (by rw[Bt] at hl;exact hl:us.length=3);exact W.binds_K Y rfl tminit rfl rfl rfl,fun s us Y hl=>by obtain⟨_,_,rfl⟩:=len_2 (by rw[Ai] at hl;exact Nat.succ.inj hl:us.length=2);exact W.binds_K Y rfl tminit rfl rfl rfl⟩,Ql X G gcHall,clcHall⟩
 have clcDoer:Cls K cDoer:=⟨pgcDoer,hdcDoer,pocDoer,sacDoer⟩
 have K_Doer:Kf0 K mg cDoer "Doer" "Doer.__init__" q0y ["self", "hall", "row"]:=⟨⟨fminitDoer,_,ocminitDoer,odminitDoer,.none,kVminitDoer,dcminitDoer,pmminitDoer,anminitDoer,cdminitDoer,ctminitDoer,slminitDoer,rfl,lminitDoer,cminitDoer,⟨mkcDoer,aminitDoer,iminitDoer,kccDoer⟩,(q8q (st:=q0y) lminitDoer cminitDoer kminitDoer).binds fun _ _ _ _ _ _ us hl=>by obtain⟨_,_,_,rfl⟩:=len_3 hl;rfl⟩,Ql X G gcDoer,clcDoer⟩
 have FL:=q8q (st:=q4a) l38 c38 k38;refine⟨Hm "law" "law" (defArgs q4a) (defBody q4a) (defScope q4a) .none kV38 dc38 pm38 an38 cd38 ct38,fun s v=>.of_eq rfl,fun base _ _=>?_⟩;have hk:Hk K cHall:=⟨clcHall,nacHall_blind,nacHall_marks⟩
 have dk:Dk K cDoer:=⟨clcDoer,nacDoer_held,nacDoer_moves,nacDoer_steps⟩
 have c1:=x4h (P:=lw.prog) (w:=w) (base:=base) D_draw T;have c2:=x4i (P:=lw.prog) (w:=w) (base:=base) D_name T ⟨c1⟩;have c3:=z8s (P:=lw.prog) (w:=w) (base:=base) D_folded T;have c4:=x4j (P:=lw.prog) (w:=w) (base:=base) D_rows T ⟨c1,c2,c3⟩;have c5:=x1k (P:=lw.prog) (w:=w) (base:=base) D_mixed T ⟨c1⟩;have c6:=x1m (P:=lw.prog) (w:=w) (base:=base) D_alike T;have c7:=z1r (P:=lw.prog) (w:=w) (base:=base) M_is_one_place hk T ⟨c6⟩;have c8:=x1n (P:=lw.prog) (w:=w) (base:=base) M_there hk T ⟨c7⟩;have c9:=x4k (P:=lw.prog) (w:=w) (base:=base) K_Hall hk T ⟨c8⟩;have c10:=x1p (P:=lw.prog) (w:=w) (base:=base) M_rows hk T;have c11:=x1o (P:=lw.prog) (w:=w) (base:=base) M_is_blind hk T;have c12:=x1q (P:=lw.prog) (w:=w) (base:=base) D_rows_right T ⟨c10⟩;have c13:=z5q (P:=lw.prog) (w:=w) (base:=base) D_carried T;have c14:=z1t (P:=lw.prog) (w:=w) (base:=base) M_is_drawer hk T;have c15:=z1u (P:=lw.prog) (w:=w) (base:=base) M_ask_thing hk T;have c16:=z0a (P:=lw.prog) (w:=w) (base:=base) M_ask_drawer hk T ⟨c14⟩;have c17:=x4l (P:=lw.prog) (w:=w) (base:=base) M_move hk T ⟨c13,c15,c16,c14,there1 c8⟩;have c18:=z8v (P:=lw.prog) (w:=w) (base:=base) D_there T ⟨c3⟩;have c20:=x1s (P:=lw.prog) (w:=w) (base:=base) D_moved T;have c21:=z8z (P:=lw.prog) (w:=w) (base:=base) D_copied T ⟨c10,c11,c9⟩;have c22:=z5t (P:=lw.prog) (w:=w) (base:=base) D_is_made T ⟨c17⟩;have c23:=x4n (P:=lw.prog) (w:=w) (base:=base) D_walk T ⟨c21,c22⟩;have c24:=q8i (P:=lw.prog) (w:=w) (base:=base) D_turned_back T;have c25:=ok_due (P:=lw.prog) (w:=w) (base:=base) D_move_due T ⟨c18⟩;have c26:=x4o (P:=lw.prog) (w:=w) (base:=base) D_goal T ⟨c1,c2⟩;have c27:=ok_row (P:=lw.prog) (w:=w) (base:=base) D_row T ⟨c1,c26,c25,c20⟩;have p1:=z9j (P:=lw.prog) (w:=w) (base:=base) D_all_of T;have p2:=z5v (P:=lw.prog) (w:=w) (base:=base) D_is_name T ⟨p1⟩;have p3:=z1y (P:=lw.prog) (w:=w) (base:=base) D_read_path T ⟨p2⟩;have e1:=z1x (P:=lw.prog) (w:=w) (base:=base) D_show_path;have e2:=z1z (P:=lw.prog) (w:=w) (base:=base) D_path_text T;have e3:=z3h (P:=lw.prog) (w:=w) (base:=base) D_lines_of T ⟨e1⟩;have e4:=x4s (P:=lw.prog) (w:=w) (base:=base) D_stop T ⟨e2⟩;have e5:=x4t (P:=lw.prog) (w:=w) (base:=base) M_left dk T;have e6:=z9l (P:=lw.prog) (w:=w) (base:=base) M_do_one dk T ⟨c17⟩;have e7:=ok_do (P:=lw.prog) (w:=w) (base:=base) M_do dk T ⟨e5,e6⟩;have e8:=x4u (c:=cHall) (P:=lw.prog) (w:=w) (base:=base) M_book dk T ⟨e3⟩;have e9:=x1t (P:=lw.prog) (w:=w) (base:=base) M_hall dk T ⟨c21⟩;have e10:=x1u (P:=lw.prog) (w:=w) (base:=base) K_Doer dk T ⟨c21,c23⟩;have r1:=z2d (P:=lw.prog) (w:=w) (base:=base) D_read_move T ⟨p3⟩;have r2:=z0e (P:=lw.prog) (w:=w) (base:=base) D_read_book T ⟨e3,r1,EL_NoBook,gl_NoBook⟩;have r3:=ok_mwl (P:=lw.prog) (w:=w) (base:=base) D_is_made_without_line T ⟨there1 c8⟩;have r4:=z0f (P:=lw.prog) (w:=w) (base:=base) D_read_stop T ⟨r2,r3⟩;have r5:=z3l (P:=lw.prog) (w:=w) (base:=base) D_ask_rest T ⟨c23⟩;have r6:=z9s (P:=lw.prog) (w:=w) (base:=base) D_begun_again dk T ⟨r4,r5,e10⟩;have r7:=z2e (P:=lw.prog) (w:=w) (base:=base) D_way_back T ⟨r4,c24,e10⟩;have e11:=z9t (P:=lw.prog) (w:=w) (base:=base) D_stands_so T ⟨e4,c12,e5,e9,e8,c11⟩;have r8:=x2a (P:=lw.prog) (w:=w) (base:=base) D_begin T ⟨c1,c4,c5,c27,c9⟩;have CK:CallsKd K mg eNoBook [eBusy,eFixed,eFull,eMeets,eNoDoer,eNoDrawer,eNoHall,eNoLine,eNoPattern,eNoPlace,eNoRule] [eNoRules,eNoSame,eNoTemplate,eNoText,eNoThing,eNoWish,eNotEmpty,eTaken]:=⟨EI_NoBook,gl_NoBook,KO_NoBook_NoBook,KO_NoBook_ValueError,KA_NoBook__Busy__Fixed__Full__Meets__NoDoer__NoDrawer__NoHall__NoLine__NoPattern__NoPlace__NoRule,KA_NoBook__NoRules__NoSame__NoTemplate__NoText__NoThing__NoWish__NotEmpty__Taken,⟨eStrayed,gl_Strayed,KO_NoBook_Strayed⟩,⟨eBroken,gl_Broken,KO_NoBook_Broken⟩,⟨eTooMuch,gl_TooMuch,KO_NoBook_TooMuch⟩,eBusy,eFixed,eFull,eMeets,eNoDoer,eNoDrawer,eNoHall,eNoLine,eNoPattern,eNoPlace,eNoRule,eNoRules,eNoSame,eNoTemplate,eNoText,eNoThing,eNoWish,eNotEmpty,eTaken,rfl,rfl,gl_Busy,gl_Fixed,gl_Full,gl_Meets,gl_NoDoer,gl_NoDrawer,gl_NoHall,gl_NoLine,gl_NoPattern,gl_NoPlace,gl_NoRule,gl_NoRules,gl_NoSame,gl_NoTemplate,gl_NoText,gl_NoThing,gl_NoWish,gl_NotEmpty,gl_Taken⟩
 have r9:=x4z (P:=lw.prog) (w:=w) (base:=base) D_kind T CK;have r10:=z5y (Dn:=eHallError) (P:=lw.prog) (w:=w) (base:=base) D_refused T ⟨r6,r7,r9,gl_HallError,EB_HallError.cls,EL_NoBook.sub⟩;have r11:=x2c (P:=lw.prog) (w:=w) (base:=base) D_piece T ⟨c1,e4⟩;have r12:=z0i (P:=lw.prog) (w:=w) (base:=base) D_text_right T ⟨r10,r6,r7,e4,c12,e11,e5,e9,e8,e7⟩;have CL:CallsL lw.prog w K mg base:=⟨ok_one D_one T ⟨c1,r8,r11,c12,e4,e11,r12,e9,e8,e7,e10⟩⟩
 exact FL.ok sc_law (fun vs H Q E h=>by obtain⟨a,ns,rfl,_⟩:=h;rfl) (fun cdv A outer s H vs Q E hr h=>x2d T CL _ cdv A outer s H vs Q E hr h)
theorem walk{l:Uo}{q:Program}{loose:List Str}{XP:(Str->Option Value)->Heap->Prop}{YP:World->Heap->Prop}{d:DefRec}{K:Params->Ah}(hn:l.most=some 63)(hdf:d.params.defaults=[])(hY:∀(w:World) (h:Heap),YP w h->(K w.params).In h)(F:∀(w:World) (mg:Str->Option Value) (fa:Addr) (h:Heap),(K w.params).In h->h.Ns Ck mg->mg d.name=some (.ref fa) ->
   ∃fd:Ja,(∀(s:Af) (u:Value),Qa s fd ⟨[u],[]⟩ [("_law_script",u)])/\∀base:Heap,(K w.params).In base->base.Ns Ck mg->FnOk l.prog w (K w.params) mg base CX0 14 fa fd ["_law_script"] (spLaw (K w.params))):
  W.WalkO q loose XP YP l.row.toRowW d [] (fun f vs=>Ue f vs) :=
 L2.walk_of (n:=63) (k:=14) (x := "_law_script") (CX:=fun _=>CX0) (sp:=fun w=>spLaw (K w.params)) hn (by decide) hdf ⟨rfl,by decide,by decide,rfl⟩ hY F (fun _ _ a ns hl _ hS=>⟨a,ns,rfl,hS,hl,fun _=>rfl⟩) fun _ _ _ _ _ z=>z
end K
open PySem PySem.W PyProof.Rows
local macro_rules | `(tactic| o_head $H) => `(tactic| (
  refine holds_open (q := K.vw) (loose := K.loose) (Xt := K.xt) (XP := XL K.vw []) (Yf := Hook.obs $H) (Ya := Hook.val $H) (YP := Hook.says $H) (N := 60000) ?hl (Hook.of $H) (Hook.keeps $H) (fun s e => xl_of s (Iy.mp e).1) XL.keeps
    (by rfl) (by rfl) (by rfl) (fun s e => recFacts_of (Iy.mp e).2) (by rfl) (by first | assumption | decide +kernel) (by decide +kernel) ⟨rfl, rfl, rfl, rfl, rfl, by decide +kernel⟩ ?hw ?hc))
set_option maxRecDepth 100000 in
set_option maxHeartbeats 0 in
theorem PySem.Challenge.cw_renamehall_k62_stopped_amid_a_line_holds : PySem.Challenge.rw_renamehall_k62_stopped_amid_a_line.Holds := by
  w_on; o_law; k_head; (case hw => w_witness2)
  (case hl =>
    refine HD.left (by kernel_rfl) (by rfl) (fun _ => by kernel_rfl) fun w os => ?_
    exact K.half0 w os)
  k_fill
  refine K.walk (l := PySem.Challenge.rw_renamehall_k62_stopped_amid_a_line) rfl rfl (fun w h Y => PySem.W.kIn_of Y) ?F
  case F =>
    intro w mg fa h KX G hmg
    refine' K.all_mk KX G hmg (K.df_mk KX G ?_ ?_ ?_ ?_ ?_) (K.df_mk KX G ?_ ?_ ?_ ?_ ?_) (K.df_mk KX G ?_ ?_ ?_ ?_ ?_) (K.df_mk KX G ?_ ?_ ?_ ?_ ?_) (K.df_mk KX G ?_ ?_ ?_ ?_ ?_) (K.df_mk KX G ?_ ?_ ?_ ?_ ?_) (K.df_mk KX G ?_ ?_ ?_ ?_ ?_) (K.df_mk KX G ?_ ?_ ?_ ?_ ?_) (K.df_mk KX G ?_ ?_ ?_ ?_ ?_) (K.df_mk KX G ?_ ?_ ?_ ?_ ?_) (K.df_mk KX G ?_ ?_ ?_ ?_ ?_) (K.df_mk KX G ?_ ?_ ?_ ?_ ?_) (K.df_mk KX G ?_ ?_ ?_ ?_ ?_) (K.df_mk KX G ?_ ?_ ?_ ?_ ?_) (K.df_mk KX G ?_ ?_ ?_ ?_ ?_) (K.df_mk KX G ?_ ?_ ?_ ?_ ?_) (K.df_mk KX G ?_ ?_ ?_ ?_ ?_) (K.df_mk KX G ?_ ?_ ?_ ?_ ?_) (K.df_mk KX G ?_ ?_ ?_ ?_ ?_) (K.df_mk KX G ?_ ?_ ?_ ?_ ?_) (K.df_mk KX G ?_ ?_ ?_ ?_ ?_) (K.df_mk KX G ?_ ?_ ?_ ?_ ?_) (K.df_mk KX G ?_ ?_ ?_ ?_ ?_) (K.df_mk KX G ?_ ?_ ?_ ?_ ?_) (K.df_mk KX G ?_ ?_ ?_ ?_ ?_) (K.df_mk KX G ?_ ?_ ?_ ?_ ?_) (K.df_mk KX G ?_ ?_ ?_ ?_ ?_) (K.df_mk KX G ?_ ?_ ?_ ?_ ?_) (K.df_mk KX G ?_ ?_ ?_ ?_ ?_) (K.df_mk KX G ?_ ?_ ?_ ?_ ?_) (K.df_mk KX G ?_ ?_ ?_ ?_ ?_) (K.df_mk KX G ?_ ?_ ?_ ?_ ?_) (K.df_mk KX G ?_ ?_ ?_ ?_ ?_) (K.df_mk KX G ?_ ?_ ?_ ?_ ?_) (K.df_mk KX G ?_ ?_ ?_ ?_ ?_) (K.df_mk KX G ?_ ?_ ?_ ?_ ?_) (K.df_mk KX G ?_ ?_ ?_ ?_ ?_) (K.df_mk KX G ?_ ?_ ?_ ?_ ?_) ?_ ?_ ?_ ?_ ⟨mg_none_of KX G ?_, mg_none_of KX G ?_, mg_none_of KX G ?_, mg_none_of KX G ?_, mg_none_of KX G ?_, mg_none_of KX G ?_, mg_none_of KX G ?_, mg_none_of KX G ?_, mg_none_of KX G ?_, mg_none_of KX G ?_, mg_none_of KX G ?_, mg_none_of KX G ?_, mg_none_of KX G ?_, mg_none_of KX G ?_, mg_none_of KX G ?_, mg_none_of KX G ?_, ⟨_, mg_of KX G ?_⟩, ⟨_, mg_of KX G ?_⟩, ⟨_, mg_of KX G ?_⟩⟩ (K.eb_mk KX G ?_ ?_ ?_ ?_ ?_ ?_ ?_ ?_ ?_ ?_ ?_) (mg_of KX G ?_) (mg_of KX G ?_) (mg_of KX G ?_) (mg_of KX G ?_) (mg_of KX G ?_) (mg_of KX G ?_) (mg_of KX G ?_) (mg_of KX G ?_) (mg_of KX G ?_) (mg_of KX G ?_) (mg_of KX G ?_) (mg_of KX G ?_) (mg_of KX G ?_) (mg_of KX G ?_) (mg_of KX G ?_) (mg_of KX G ?_) (K.ec0_mk KX G ?_ ?_ ?_ ?_ ?_ ?_ ?_ ?_ ?_) (mg_of KX G ?_) (mg_of KX G ?_) (mg_of KX G ?_) (mg_of KX G ?_) (mg_of KX G ?_) (mg_of KX G ?_) ?_ ?_ ?_ ?_ ?_ ?_ ?_ ?_ ?_ ?_ ?_ ?_ ?_ ?_ ?_ ?_ ?_ ?_ ?_ ?_ ?_ ?_ (K.mf_mk ?_ ?_ ?_ ?_ ?_ ?_) (K.mf_mk ?_ ?_ ?_ ?_ ?_ ?_) (K.mf_mk ?_ ?_ ?_ ?_ ?_ ?_) (K.mf_mk ?_ ?_ ?_ ?_ ?_ ?_) (K.mf_mk ?_ ?_ ?_ ?_ ?_ ?_) (K.mf_mk ?_ ?_ ?_ ?_ ?_ ?_) (K.mf_mk ?_ ?_ ?_ ?_ ?_ ?_) (K.mf_mk ?_ ?_ ?_ ?_ ?_ ?_) ?_ ?_ ?_ ?_ ?_ ?_ ?_ ?_ ?_ ?_ ?_ ?_ ?_ ?_ ?_ (K.mf_mk ?_ ?_ ?_ ?_ ?_ ?_) (K.mf_mk ?_ ?_ ?_ ?_ ?_ ?_) (K.mf_mk ?_ ?_ ?_ ?_ ?_ ?_) (K.mf_mk ?_ ?_ ?_ ?_ ?_ ?_) (K.mf_mk ?_ ?_ ?_ ?_ ?_ ?_)
    all_goals try (first | k_is | kit_is | rfl | decide +kernel | (intro _ _ _ _ _ _ us hl; first | (obtain ⟨_, rfl⟩ := K.len_1 hl; rfl) | (obtain ⟨_, _, rfl⟩ := K.len_2 hl; rfl) | (obtain ⟨_, _, _, rfl⟩ := K.len_3 hl; rfl) | (obtain ⟨_, _, _, _, rfl⟩ := K.len_4 hl; rfl) | (obtain ⟨_, _, _, _, _, rfl⟩ := K.len_5 hl; rfl) | (obtain ⟨_, _, _, _, _, _, rfl⟩ := K.len_6 hl; rfl) | (cases us with | nil => rfl | cons _ _ => cases hl)))
