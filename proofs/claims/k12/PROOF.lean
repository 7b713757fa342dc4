import PyProof.Rows.All
import Wide.All
import OpenK.AllK
import Wide.FinOn
import PyProof.EqAt
import PyProof.EqKinds
import PyProof.TupleCall
import PyProof.P3Statements
import KE.KSortTup
import PyProof.StrLoop
import PyProof.StrWalks
import PyProof.StrBlockI
import PyProof.StrCalls
import PyProof.AttrMissHeap
import PyProof.ListNew
import Lean
import PySem.Challenge.RW_kindturn_k12_whole_judged
open Option renaming some→U7,none→UA,map_some→Va,map_eq_some_iff→WR,isSome_iff_exists→Xt,bind_some→X4,getD_some→YN
open PySem renaming PyData→U8,wpAny_bind→U9,Value→UB,Shared→UG,starEach→UJ,wpAny_pure→UK,Addr→UL,wpAny→UZ,sizeLine→Vc,model→Vh,Str→Vk,Program→Vn,Builtin→Vo,Expr→Vw,wpAny_ite_split→Vy,World→Vz,Heap→V1,mainGlobals→V2,backTo→VC,Around→VG,wpAny_loadPart'→VH,wpAny_newObj_type→VI,eval→VN,builtinLookup_eq_fast→VR,Stmt→VW,wpAny_field→VX,compareOp→VZ,wpAny_call_entry→Wc,attributeBase→Wd,wpAny_callSpecial?_slot→Wi,bootBuiltins→Wu,wpAny_truthy_bool→Ww,typeLookup_type→W3,wpAny_mono→W6,swapsWith→W7,wpAny_Call_Name_kw→W8,call_meets→W9,wpAny_typeNameOfWhole_itemiter→WC,wpAny_holding→WE,NameKind→WH,lookup_relabel_local→WI,isSubtype_type→WJ,Obj→WK,binaryOp→WN,mem_of_lookup→WO,IsItemIter→Xa,wpAny_passesOwn→Xe,wpAny_specialOf→Xf,wpAny_ite_false→Xg,foldedSetIterable→Xh,Keyword→Xl,wpAny_of_eq→Xn,sysModules→Xr,behindInMarks→Xs,Pos→Xz,wpAny_setField→X3,keywordEach→X7,wpAny_typeOf→X9,wpAny_setField_rec→XC,rawInt→XR,wpAny_isInstance→Yf,cLine→Yh,FuncData→Yn,wpAny_attempt→Yq,plainId_quiet→Yr,codeAny→Yu,wpAny_updateSeq→Yv,codeAny_builtin→Yx,tupleKind→Yy,PassesOwn→Yz,sizeLine_eq→Y0,sliceBounds→Y3,wpAny_dictEntries→YD,wpAny_isOneOf_itemiter→YE,assignEach→YI,entryFor_of_tree→YL,backToKw→YS,wpAny_execs_nil→YW,letOwnedTupleGo→YX,Scope→Zf,bindArgs→Zh,typeLookup→Zj,firstArgMember→Zl,ItemsOf→Zn,pyNext→Zq,IsPart→Zr
open List renaming length_append→UC,getElem?_cons_succ→UD,getElem?_cons_zero→UE,length_cons→UM,mem_cons_self→UN,size_toArray→UO,mem_cons_of_mem→UQ,map_cons→UR,getElem?_eq_some_iff→UV,replicate→UW,length_singleton→UX,append_assoc→Vd,mem_cons→Vl,length_nil→Vm,mem_append_right→Vp,getElem?_append_right→Vs,getElem?_map→Vu,append_nil→V3,getElem?_append_left→V4,mem_singleton→V7,length_map→V8,set_cons_succ→VA,set_cons_zero→VB,map_congr_left→VL,range→VM,mem_append→VT,length_eq_zero_iff→VU,toArray→Wb,replicate_succ→We,zip_cons_cons→Wk,foldl_cons→Ws,nodup_nil→Wx,filterMap_cons→Wz,mem_filter→W0,nodup_cons→W1,find?_cons→W2,cons_append→WD,mem_map→WG,flatten_cons→WL,range'→WV,lookup_cons→WW,pairwise_cons→Xb,perm_append_comm→Xc,length→Xj,reverse_cons→Xo,getElem?_replicate→X1,map_reverse→X6,map_map→XD,nil_append→XG,map_append→XJ,length_filter_le→XU,mem_append_left→XX,exists_cons_of_ne_nil→Yd,length_take→Ye,length_pos_iff→Ym,zip_nil_left→Y6,map_nil→Y9,length_replicate→YF,getElem?_eq_none→YH,mem_of_getElem?→YQ,foldl→Zk
open PySem.W renaming Frag→UF,mg_none_of→V9,fnOf→Wh,kia_one→Wl,nsIn→Xp,keepIn→X2,codeIn→XZ,hideAll_none→YO,kitOne→Zg
open PySem.Heap renaming get?_push_of_some→UH,get?_push_size→US,lt_size→UT,get?_update_other→V0,get?_update_self→VQ,SameBut→Wq,size_push→YB
open Nat renaming le_refl→UI,le_trans→UU,lt_of_lt_of_le→Vj,ne_of_lt→Vt,zero_le→VJ,mul_le_mul_left→Wn,lt_irrefl→Wo,ne_of_gt→Wr,mul_add→W4,mul_comm→Xm,mul_le_mul_right→Xq,blt→X0,mul_le_mul→X5,ble_eq→XA,add_mul→Yb,pow_le_pow_right→Yc,reduceAdd→Yt,le_add_right→YM,le_of_lt→Zb,le_of_eq→Zc,beq→Zm
open PySem.PyData renaming canLayAll0→UP,str→Vb,eqv→Vf,depthAll→Vg,canLay0→Vi,depth→V5,eqvAll→VF,int→Wm,strOk→WT,tuple→Zd,list→Zo
open Bool renaming false_ne_true→UY,and_eq_true→Ve,false_eq_true→WA,true_and→XQ,or_eq_false_iff→Ya,eq_iff_iff→YY
open PySem.Value renaming none→Vq,ref→VD,type→Wa,notImplemented→YR
open Or renaming inr→Vr,inl→VE
open PySem.Builtin.List renaming listExtendWith→Vv,listTooLong→VO,listLengthHint→WS,listSameRef→Xy,listItems→XB,listUpdate→Y5
open Option.some renaming inj→Vx,injEq→V6
open PyProof.Rows renaming slot_tuple_getitem→VP,callWith_type1→Wg,IntsAre→Xk,IsTup→Yg,seqObj→Yl,boot_tuple→Y4,boot_list→YA,SortKind→YC,kindOf→YJ,AllBare→Za,envOfC→Zi,KeyOrd→Zt
open PySem.F renaming slot_dict_itemiterator_next→VY,plainAttrs_list→Wj,slot_list_append→Xv,type_list_append→Xw,slot_tuple_lt→XS,args_tuple_add_2→Yp,slot_list_getattribute→Ys,args_tuple_lt_2→Y1,entry_tuple_add→Y2,entry_tuple_lt→Y7,slot_tuple_add→Y8,slot_dict_get→YG,slot_int_rmul→YZ
open Array renaming getElem?_toList→Wf,getElem?_eq_some_iff→Wy,getD_eq_getD_getElem?→XW,getElem?_eq_getElem→Yj,length_toList→Yk
open Sum renaming inl→Wp
open PySem.Obj renaming data_mapFields→Wt,isFreed_of_fields→W5,mapSeq→WZ,mapFields→Xx
open Ne renaming symm→Wv
open PyProof.Rows.KeyOrd renaming kle_trans→WB,kle_refl→XH
open ForInStep renaming yield→WM
open PySem.Calls renaming callWith_builtin→WQ,spliced_cons→WX,spliced_nil→Xi,evalArgs_plain→YT
open PySem.NameKind renaming free→WU
open False renaming elim→WY
open PySem.Builtin.Slice renaming slicePlaces→Xd,sliceAdjust→Yi
open PySem.Builtin.Tuple renaming tupleExact→Xu
open PySem.Str renaming ofString→X8
open Int renaming emod_lt_of_pos→XE,cast_ofNat_Int→XF,emod_nonneg→XM,mul_assoc→XN,mul_add→YV,mul_comm→Ze
open PySem.Builtin.Dict_items renaming ownsTuple→XI
open True renaming intro→XY
open PySem.AutoSeq1 renaming sub_tuple_tuple→Yo,idx_int→YK
open Array.Perm renaming refl→Yw
open PySem.Around renaming under_plainId→YU
open PySem.Spec renaming same→Zs
set_option Elab.async false
set_option linter.all false
set_option maxRecDepth 100000
noncomputable section
namespace L2
open PySem PySem.Spec PyProof.Rows
abbrev Key:=Sum Int Vk
noncomputable def DN:Key->UB->Bool
 | .inl k,v=>UB.isInt k v
 | .inr x,v=>UB.isStrOf x v
noncomputable def TY(w:Vz):Key->Int
 | .inl k=>hashInt k
 | .inr x=>hashStr w x
theorem yr:∀ {k:Key} {v:UB},DN k v=true->(∃ i t,k=Wp i/\v=UB.int i t)∨(∃ x t,k=Sum.inr x/\v=UB.str x t)
 | .inl i,v,h=>by
  obtain ⟨t,e⟩:=UB.isInt_shape (k:=i) (v:=v) h
  exact .inl ⟨i,t,rfl,e⟩
 | .inr x,v,h=>by
  obtain ⟨t,e⟩:=UB.isStrOf_shape (x:=x) (v:=v) h
  exact .inr ⟨x,t,rfl,e⟩
theorem KM(i:Int)(t:Tok):DN (.inl i) (.int i t)=true:=by simp [DN,UB.isInt]
theorem Lz(x:Vk)(t:Tok):DN (.inr x) (.str x t)=true:=by simp [DN,UB.isStrOf]
theorem Rq(a b:Int):decide ((Wp a:Key)=Wp b)=(a == b):=by
 by_cases e:a=b
 ·subst e;simp
 ·have h:¬ (Wp a:Key)=Wp b:=λq=>e (Wp.inj q)
  rw [decide_eq_false h]
  exact (beq_eq_false_iff_ne.mpr e).symm
theorem QK(a b:Vk):decide ((Sum.inr a:Key)=Sum.inr b)=decide (a=b):=by
 by_cases e:a=b
 ·subst e;simp
 ·have h:¬ (Sum.inr a:Key)=Sum.inr b:=λq=>e (Sum.inr.inj q)
  rw [decide_eq_false h,decide_eq_false e]
theorem Sl(a:Int)(b:Vk):decide ((Wp a:Key)=Sum.inr b)=false:=decide_eq_false (λq=>nomatch q)
theorem R8(a:Vk)(b:Int):decide ((Sum.inr a:Key)=Wp b)=false:=decide_eq_false (λq=>nomatch q)
noncomputable def vd(prog:Vn)(w:Vz):PySem.KeyKind prog w Key where
 is:=DN
 hash:=TY w
 inj:=λv a b ha hb=>by
  rcases yr ha with ⟨i,t,rfl,rfl⟩ | ⟨x,t,rfl,rfl⟩
  ·rcases yr hb with ⟨j,u,rfl,e⟩ | ⟨y,u,rfl,e⟩
   ·injection e with e1 _;rw [e1]
   ·exact nomatch e
  ·rcases yr hb with ⟨j,u,rfl,e⟩ | ⟨y,u,rfl,e⟩
   ·exact nomatch e
   ·injection e with e1 _;rw [e1]
 byValue:=λk v h=>by
  rcases yr h with ⟨i,t,rfl,rfl⟩ | ⟨x,t,rfl,rfl⟩<;>rfl
 pyHash:=λhv h=>by
  rcases yr hv with ⟨i,t,rfl,rfl⟩ | ⟨x,t,rfl,rfl⟩
  ·exact wpAny_pyHash_int h
  ·exact wpAny_pyHash_str h
 eqBool:=λhu hv h=>by
  rcases yr hu with ⟨i,t,rfl,rfl⟩ | ⟨x,t,rfl,rfl⟩
  ·rcases yr hv with ⟨j,u,rfl,rfl⟩ | ⟨y,u,rfl,rfl⟩
   ·rw [Rq] at h;exact wpAny_eqBool_int h
   ·rw [Sl] at h;exact SeqAt.EqAt.int_str i t y u _ _ _ _ h
  ·rcases yr hv with ⟨j,u,rfl,rfl⟩ | ⟨y,u,rfl,rfl⟩
   ·rw [R8] at h;exact SeqAt.EqAt.str_int x t j u _ _ _ _ h
   ·rw [QK] at h;exact wpAny_eqBool_str h
 «strs»:=λk x t v h=>by
  rcases yr h with ⟨i,u,rfl,e⟩ | ⟨y,u,rfl,e⟩
  ·exact nomatch e
  ·injection e with e1 _
   subst e1
   cases v<;>rfl
theorem Hu(prog:Vn)(w:Vz)(i:Int)(t:Tok):(vd prog w).is (.inl i) (.int i t)=true:=KM i t
theorem HL(prog:Vn)(w:Vz)(x:Vk)(t:Tok):(vd prog w).is (.inr x) (.str x t)=true:=Lz x t
end L2
namespace L2
open PySem PySem.Spec PyProof.Rows
inductive V where
 | non | bl (b:Bool) | int (i:Int) | str (x:Vk) | byt (b:Array UInt8) | flt (b:UInt64) | ref (a:UL) | ty (n:String)
 deriving DecidableEq
noncomputable def RelV:V->UB->Prop
 | .non,u=>u=Vq
 | .bl b,u=>u=UB.bool b
 | .int i,u=>∃ t,u=UB.int i t
 | .str x,u=>∃ t,u=UB.str x t
 | .byt b,u=>∃ t,u=UB.bytes b t
 | .flt b,u=>∃ t,u=UB.float b t
 | .ref a,u=>u=VD a
 | .ty n,u=>u=Wa n
abbrev Vals:List V->List UB->Prop:=Paired RelV
theorem Vals.length{xs:List V}{us:List UB}(r:Vals xs us):xs.length=us.length:=Paired.length r
theorem Vals.get:∀ {xs:List V} {us:List UB} {i:Nat} {x:V},Vals xs us->xs[i]? =U7 x->∃ u,us[i]? =U7 u/\RelV x u
 | _,_,_,_,.nil,e=>by simp at e
 | _,_,0,_,.cons r _,e=>by simp at e;subst e;exact ⟨_,rfl,r⟩
 | _,_,i+1,x,.cons _ t,e=>by
  obtain ⟨u,h1,h2⟩:=Vals.get (i:=i) (x:=x) t (by simpa using e)
  exact ⟨u,by simpa using h1,h2⟩
theorem Vals.append:∀ {xs ys:List V} {us ws:List UB},Vals xs us->Vals ys ws->Vals (xs++ys) (us++ws)
 | _,_,_,_,.nil,s=>s
 | _,_,_,_,.cons r t,s=>.cons r (Vals.append t s)
theorem Vals.take:∀ {xs:List V} {us:List UB} (n:Nat),Vals xs us->Vals (xs.take n) (us.take n)
 | _,_,0,_=>.nil
 | _,_,_+1,.nil=>.nil
 | _,_,n+1,.cons r t=>.cons r (Vals.take n t)
theorem Vals.drop:∀ {xs:List V} {us:List UB} (n:Nat),Vals xs us->Vals (xs.drop n) (us.drop n)
 | _,_,0,r=>r
 | _,_,_+1,.nil=>.nil
 | _,_,n+1,.cons _ t=>Vals.drop n t
noncomputable def RelO:Option V->Option UB->Prop
 | some v,U7 u=>RelV v u
 | none,UA=>True
 | _,_=>False
noncomputable def KV{κ:Type}:List (κ×V)->List (κ×UB)->Prop:=Paired λ(p:κ×V) (q:κ×UB)=>p.1=q.1/\RelV p.2 q.2
noncomputable def kV:Key->V
 | .inl i=>.int i
 | .inr x=>.str x
inductive HO where
 /-- a list -/
 | lst (xs:List V)
 /-- a tuple (never changes) -/
 | tup (xs:List V)
 /-- a dict whose keys are ints and texts;one whose keys are tuples of ints and texts (the empty one is both) -/
 | dK (kvs:List (Key×V)) | dT (kvs:List (List Key×V)) (ep:Nat)
 /-- a set of ints:its members,its size -/
 | set (S:Int->Bool) (n:Nat)
 /-- an instance of the class at C,its dict at dx,its attributes -/
 | ins (C dx:UL) (fs:List (Vk×V))
 /-- the dict of the instance at x -/
 | own (x:UL)
 /-- the dict of an exception -/
 | xd (fs:List (Vk×V))
 /-- a bound method,f of x -/
 | met (f x:UL)
 /-- a range object lo,lo+1,.. below hi -/
 | rng (lo hi:Int)
 /-- a thing that is known to the object (the script;a dict while a loop walks it):read,never written while it is so -/
 | frz (o:WK) (u:HO)
 /-- a code object's table -/
 | tbl (ps:Array UB)
 /-- any other thing,by what is true of its one object (a def of one's own:SetO a S n:=HO.ext λh=>..) -/
 | ext (φ:V1->Prop)
abbrev Hp:=UL->Option HO
noncomputable def upd(H:Hp)(a:UL)(o:HO):Hp:=λb=>if b=a then U7 o else H b
theorem z9{H:Hp}{a:UL}{o:HO}:upd H a o a=U7 o:=by unfold upd;rw [if_pos rfl]
theorem z0{H:Hp}{a b:UL}{o:HO}(h:b≠a):upd H a o b=H b:=by unfold upd;rw [if_neg h]
theorem Kg{H:Hp}{a b:UL}{o u:HO}(h:H a=U7 o)(h':H b=U7 u)(d:o≠u):a≠b:=by
 intro e;subst e;rw [h] at h';exact d (Vx h')
theorem qv{H:Hp}{a b:UL}{o:HO}(h:H a=U7 o)(h':H b=UA):a≠b:=by
 intro e;subst e;rw [h] at h';cases h'
theorem tv{h:V1}{a:UL}{o:WK}(e:h.get? a=U7 o)(q:o.dict=UA):∀ o',h.get? a=U7 o'->o'.dict=UA:=λo' e'=>by rw [e] at e';cases e';exact q
section
variable(P:Vn)(w:Vz)
noncomputable def ObjOk(H:Hp)(h:V1)(a:UL):HO->Prop
 | .lst xs=>xs.length<=Vc/\∃ (its:List UB) (n:Nat),Vals xs its/\h.get? a=U7 {cls:=.type "list",data:=.seq its.toArray n}
 | .tup xs=>(xs.length<=Vc/\∀ o,h.get? a=U7 o->o.dict=UA)/\∃ its:List UB,Vals xs its/\Yg h a its.toArray
 | .dK kvs=>kvs.length<=Vc/\(a == Xr)=false/\∃ vs,KV kvs vs/\h.DictOf (vd P w) a vs
 | .dT kvs ep=>kvs.length<=Vc/\(a == Xr)=false/\∃ xs:List (List Key×UL×UB),
  Paired (λ(p:List Key×V) (q:List Key×UL×UB)=>p.1=q.1/\(H q.2.1=U7 (.tup (p.1.map kV))∨∃ ob,H q.2.1=U7 (.frz ob (.tup (p.1.map kV))))/\RelV p.2 q.2.2) kvs xs/\
  ∃ o es,h.get? a=U7 o/\o.ExactDict/\o.data= .dict es ep/\es.toList=xs.map (entryOfKey (Yy (vd P w)))/\(xs.map (·.1)).Nodup
 | .set S n=>h.SetOf (intKind P w) a S n
 | .ins C dx fs=>H dx=U7 (.own a)/\fs.length<=1000/\dx≠a/\h.get? a=U7 (PySem.W.instObj C dx)/\
  ∃ mA,h.Ns1 dx mA/\(∀ f,RelO (fs.lookup f) (mA f))/\PySem.Within mA (fs.map (·.1))
 | .own _=>∃ o,h.get? a=U7 o
 | .xd fs=>∃ mA,h.Ns1 a mA/\∀ f,RelO (fs.lookup f) (mA f)
 | .rng lo hi=>∃ t u v,h.get? a=U7 {cls:=.type "range",data:=.fields #[.int lo t,.int hi u,.int 1 v]}
 | .frz o u=>h.get? a=U7 o/\ObjOk H h a u
 | .tbl ps=>h.get? a=U7 {cls:=.none,data:=.fields ps}
 | .met f x=>h.get? a=U7 (PySem.W.methodObj (.ref f) (.ref x))
 | .ext φ=>φ h/\(∃ o,h.get? a=U7 o)/\∀ h1 h2:V1,φ h1->(∀ o,h1.get? a=U7 o->h2.get? a=U7 o)->φ h2
noncomputable def HOk(H:Hp)(h:V1):Prop:=∀ a o,H a=U7 o->ObjOk P w H h a o
end
section
variable{P:Vn}{w:Vz}{H H':Hp}{h h':V1}{a:UL}{o:HO}
theorem ObjOk.lt(x:ObjOk P w H h a o):a < h.objs.size:=by
 cases o with
 | lst xs=>obtain ⟨_,_,_,_,e⟩:=x;exact UT e
 | tup xs=>obtain ⟨_,_,_,p⟩:=x;exact p.lt
 | dK kvs=>obtain ⟨_,_,_,_,o,_,_,e,_⟩:=x;exact UT e
 | dT kvs ep=>obtain ⟨_,_,_,_,o,_,e,_⟩:=x;exact UT e
 | set S n=>obtain ⟨o,_,_,_,e,_⟩:=x;exact UT e
 | ins C dx fs=>obtain ⟨_,_,_,e,_⟩:=x;exact UT e
 | own y=>obtain ⟨_,e⟩:=x;exact UT e
 | xd fs=>obtain ⟨_,⟨_,_,_,e,_⟩,_⟩:=x;exact UT e
 | rng lo hi=>obtain ⟨_,_,_,e⟩:=x;exact UT e
 | frz ob u=>obtain ⟨e,_⟩:=x;exact UT e
 | tbl ps=>exact UT (show h.get? a=U7 _ from x)
 | met f y=>exact UT (show h.get? a=U7 _ from x)
 | ext φ=>obtain ⟨_,⟨_,e⟩,_⟩:=x;exact UT e
theorem Paired.mapP{α β:Type}{F G:α->β->Prop}:∀ {l₁:List α} {l₂:List β},Paired F l₁ l₂->(∀ a b,F a b->G a b)->Paired G l₁ l₂
 | _,_,.nil,_=>.nil
 | _,_,.cons r t,f=>.cons (f _ _ r) (Paired.mapP t f)
theorem ObjOk.stay(x:ObjOk P w H h a o)(k:∀ b u,(b=a∨H b=U7 (.own a))->h.get? b=U7 u->h'.get? b=U7 u)
  (ho:∀ b,H b=U7 (.own a)->H' b=U7 (.own a)) (ht:∀ b xs,H b=U7 (.tup xs)->H' b=U7 (.tup xs))
  (hf:∀ b o u,H b=U7 (.frz o u)->H' b=U7 (.frz o u):=by first | exact λ_ _ _ q=>q | exact λ_ _ _ q=>(z0 (qv q (by assumption))).trans q):ObjOk P w H' h' a o:=by
 induction o with
 | lst xs=>obtain ⟨z,its,n,r,e⟩:=x;exact ⟨z,its,n,r,k _ _ (.inl rfl) e⟩
 | tup xs=>obtain ⟨⟨z,nd⟩,its,r,ob,e,c⟩:=x;exact ⟨⟨z,tv (k _ _ (.inl rfl) e) (nd ob e)⟩,its,r,ob,k _ _ (.inl rfl) e,c⟩
 | dK kvs=>obtain ⟨z,y,vs,r,ob,es,ep,e,c⟩:=x;exact ⟨z,y,vs,r,ob,es,ep,k _ _ (.inl rfl) e,c⟩
 | dT kvs ep=>
  obtain ⟨z,y,xs,r,ob,es,e,c⟩:=x
  exact ⟨z,y,xs,Paired.mapP r λp q z=>⟨z.1,z.2.1.imp (ht _ _) (λ⟨o,q⟩=>⟨o,hf _ _ _ q⟩),z.2.2⟩,ob,es,k _ _ (.inl rfl) e,c⟩
 | set S n=>obtain ⟨ob,es,ep,t,e,c⟩:=x;exact ⟨ob,es,ep,t,k _ _ (.inl rfl) e,c⟩
 | ins C dx fs=>
  obtain ⟨d,z,ne,e,mA,⟨od,es,ep,e2,c⟩,r⟩:=x
  exact ⟨ho _ d,z,ne,k _ _ (.inl rfl) e,mA,⟨od,es,ep,k _ _ (.inr d) e2,c⟩,r⟩
 | own y=>obtain ⟨ob,e⟩:=x;exact ⟨ob,k _ _ (.inl rfl) e⟩
 | xd fs=>obtain ⟨mA,⟨od,es,ep,e,c⟩,r⟩:=x;exact ⟨mA,⟨od,es,ep,k _ _ (.inl rfl) e,c⟩,r⟩
 | rng lo hi=>obtain ⟨t,u,v,e⟩:=x;exact ⟨t,u,v,k _ _ (.inl rfl) e⟩
 | frz ob u ih=>obtain ⟨e,q⟩:=x;exact ⟨k _ _ (.inl rfl) e,ih q⟩
 | tbl ps=>
  have e:h.get? a=U7 {cls:=.none,data:=.fields ps}:=x
  show h'.get? a=U7 {cls:=.none,data:=.fields ps}
  exact k a _ (.inl rfl) e
 | met f y=>
  have e:h.get? a=U7 (PySem.W.methodObj (.ref f) (.ref y)):=x
  show h'.get? a=U7 (PySem.W.methodObj (.ref f) (.ref y))
  exact k a _ (.inl rfl) e
 | ext φ=>obtain ⟨p,⟨o,e⟩,st⟩:=x;exact ⟨st _ _ p λo q=>k _ _ (.inl rfl) q,⟨o,k _ _ (.inl rfl) e⟩,st⟩
theorem HOk.lt(x:HOk P w H h)(e:H a=U7 o):a < h.objs.size:=(x a o e).lt
theorem HOk.fresh(x:HOk P w H h)(e:h.objs.size<=a):H a=UA:=by
 cases q:H a with
 | none=>rfl
 | some u=>exact absurd (Vj (x.lt q) e) (Wo _)
theorem HOk.kept(x:HOk P w H h)(k:∀ b u,h.get? b=U7 u->h'.get? b=U7 u):HOk P w H h':=λa o e=>
 (x a o e).stay (λb u _ q=>k b u q) (λ_ q=>q) λ_ _ q=>q
theorem HOk.laid(x:HOk P w H h)(k:∀ b u,h.get? b=U7 u->h'.get? b=U7 u)(hp:h.objs.size<=a)(new:ObjOk P w (upd H a o) h' a o):HOk P w (upd H a o) h':=λb u e=>by
 have hn:=x.fresh hp
 by_cases hb:b=a
 ·subst hb;rw [z9] at e;cases e;exact new
 ·rw [z0 hb] at e
  exact (x b u e).stay (λc v _ q=>k c v q) (λc q=>by rw [z0 (qv q hn)];exact q) λc xs q=>by rw [z0 (qv q hn)];exact q
end
noncomputable def Rd(H:Hp)(a:UL)(u:HO):Prop:=H a=U7 u∨∃ o,H a=U7 (.frz o u)
theorem Rd.ok{P:Vn}{w:Vz}{H:Hp}{h:V1}{a:UL}{u:HO}(r:Rd H a u)(x:HOk P w H h):ObjOk P w H h a u:=by
 rcases r with r | ⟨o,r⟩
 ·exact x a u r
 ·obtain ⟨_,q⟩:=x a _ r
  exact q
noncomputable def Mut:Option HO->Prop
 | some (.lst _)=>True
 | some (.dK _)=>True
 | some (.dT _ _)=>True
 | some (.set _ _)=>True
 | some (.ins _ _ _)=>True
 | some (.ext _)=>True
 | _=>False
section
variable{P:Vn}{w:Vz}{H:Hp}{h h':V1}{x e:UL}{o':HO}
theorem HOk.write(ok:HOk P w H h)(mu:Mut (H x))(he:e=x∨H e=U7 (.own x))(k:∀ b u,b≠e->h.get? b=U7 u->h'.get? b=U7 u)(heo:∃ u,h'.get? e=U7 u)
  (new:ObjOk P w (upd H x o') h' x o'):HOk P w (upd H x o') h':=λb u q=>by
 have nown:∀ c y,H c=U7 (.own y)->c≠x:=λc y r z=>by subst z;rw [r] at mu;exact mu
 have ntup:∀ c xs,H c=U7 (.tup xs)->c≠x:=λc xs r z=>by subst z;rw [r] at mu;exact mu
 by_cases hb:b=x
 ·subst hb;rw [z9] at q;cases q;exact new
 ·rw [z0 hb] at q
  by_cases hbe:b=e
  ·have q':H b=U7 (.own x):=by
     rcases he with z | z
     ·exact absurd (hbe.trans z) hb
     ·rw [hbe];exact z
   rw [q] at q';cases q'
   obtain ⟨v,hv⟩:=heo
   exact ⟨v,by rw [hbe];exact hv⟩
  ·refine (ok b u q).stay (λc v hc r=>k c v ?_ r) (λc r=>by rw [z0 (nown c b r)];exact r) (λc xs r=>by rw [z0 (ntup c xs r)];exact r) (λc o u r=>by rw [z0 (λz=>by subst z;rw [r] at mu;exact mu)];exact r)
   rcases hc with rfl | hc
   ·exact hbe
   ·rintro rfl
    rcases he with z | z
    ·exact nown c b hc z
    ·rw [hc] at z;cases z;exact hb rfl
end
structure Un(fs ex:List UL)(H H':Hp)(h h':V1):Prop where
 keep:∀ b o,h.get? b=U7 o->H b=UA->b∉fs->b∉ex->h'.get? b=U7 o
 slot:∀ b o,h.get? b=U7 o->H b=UA->b∈fs->b∉ex->∃ sl,h'.get? b=U7 {o with slots:=sl}
 free:∀ b o,h.get? b=U7 o->H b=UA->b∉ex->H' b=UA
 there:∀ b o,h.get? b=U7 o->b∉ex->∃ o',h'.get? b=U7 o'
 tups:∀ b xs,H b=U7 (.tup xs)->H' b=U7 (.tup xs)
 frzs:∀ b o u,H b=U7 (.frz o u)->H' b=U7 (.frz o u)
 tbls:∀ b ps,H b=U7 (.tbl ps)->∃ more,H' b=U7 (.tbl (ps++more))
section
variable{fs fs' ex ex':List UL}{H H1 H2:Hp}{h h1 h2 h':V1}{a x e:UL}{o:HO}
theorem Un.any(u:Un fs ex H H1 h h1){b:UL}{ob:WK}(q:h.get? b=U7 ob)(n:H b=UA)(hx:b∉ex):∃ sl,h1.get? b=U7 {ob with slots:=sl}:=by
 by_cases hb:b∈fs
 ·exact u.slot b ob q n hb hx
 ·exact ⟨ob.slots,u.keep b ob q n hb hx⟩
theorem Un.trans(a:Un fs ex H H1 h h1)(b:Un fs ex H1 H2 h1 h2):Un fs ex H H2 h h2 where
 keep:=λc ob q n hc hx=>b.keep c ob (a.keep c ob q n hc hx) (a.free c ob q n hx) hc hx
 slot:=λc ob q n hc hx=>by
  obtain ⟨sl,e1⟩:=a.slot c ob q n hc hx
  obtain ⟨sl',e2⟩:=b.slot c _ e1 (a.free c ob q n hx) hc hx
  exact ⟨sl',e2⟩
 free:=λc ob q n hx=>by
  obtain ⟨o',e1⟩:=a.there c ob q hx
  exact b.free c o' e1 (a.free c ob q n hx) hx
 there:=λc ob q hx=>by
  obtain ⟨o',e1⟩:=a.there c ob q hx
  exact b.there c o' e1 hx
 tups:=λc xs q=>b.tups c xs (a.tups c xs q)
 frzs:=λc ob xs q=>b.frzs c ob xs (a.frzs c ob xs q)
 tbls:=λc ps q=>by
  obtain ⟨m1,e1⟩:=a.tbls c ps q
  obtain ⟨m2,e2⟩:=b.tbls c _ e1
  exact ⟨m1++m2,by rw [e2,Array.append_assoc]⟩
theorem Un.kept(k:∀ b u,h.get? b=U7 u->h'.get? b=U7 u):Un fs ex H H h h':=
 ⟨λb ob q _ _ _=>k b ob q,λb ob q _ _ _=>⟨ob.slots,k b ob q⟩,λ_ _ _ n _=>n,λb ob q _=>⟨ob,k b ob q⟩,λ_ _ q=>q,λ_ _ _ q=>q,λ_ ps q=>⟨#[],by rw [q];simp⟩⟩
theorem Un.refl:Un fs ex H H h h:=Un.kept λ_ _ q=>q
theorem Un.laid(k:∀ b u,h.get? b=U7 u->h'.get? b=U7 u)(hp:h.objs.size<=a)(hn:H a=UA):Un fs ex H (upd H a o) h h' where
 keep:=λb u q _ _ _=>k b u q
 slot:=λb u q _ _ _=>⟨u.slots,k b u q⟩
 free:=λb u q n _=>by rw [z0 (Vt (Vj (UT q) hp))];exact n
 there:=λb u q _=>⟨u,k b u q⟩
 tups:=λb xs q=>by rw [z0 (qv q hn)];exact q
 frzs:=λb u xs q=>by rw [z0 (qv q hn)];exact q
 tbls:=λb ps q=>⟨#[],by rw [z0 (qv q hn),q];simp⟩
theorem Un.write(mu:Mut (H x))(he:e=x∨H e=U7 (.own x))(k:∀ b u,b≠e->h.get? b=U7 u->h'.get? b=U7 u)(heo:∃ u,h'.get? e=U7 u):Un fs ex H (upd H x o) h h':=by
 have hx:∀ b,H b=UA->b≠x:=λb n z=>by subst z;rw [n] at mu;exact mu
 have hb:∀ b,H b=UA->b≠e:=λb n z=>by
  subst z
  rcases he with r | r
  ·exact hx b n r
  ·rw [n] at r;cases r
 have hm:∀ b u,H b=U7 u->¬ Mut (U7 u)->b≠x:=λb u q nm z=>by subst z;rw [q] at mu;exact nm mu
 refine ⟨λb u q n _ _=>k b u (hb b n) q,λb u q n _ _=>⟨u.slots,k b u (hb b n) q⟩,λb u q n _=>by rw [z0 (hx b n)];exact n,λb u q _=>?_,
  λb xs q=>by rw [z0 (hm b _ q λz=>z)];exact q,λb u xs q=>by rw [z0 (hm b _ q λz=>z)];exact q,λb ps q=>⟨#[],by rw [z0 (hm b _ q λz=>z),q];simp⟩⟩
 by_cases hbe:b=e
 ·subst hbe;exact heo
 ·exact ⟨u,k b u hbe q⟩
theorem Un.mono(u:Un fs ex H H1 h h1)(hs:∀ b∈fs,b∈fs')(hx:∀ b∈ex,b∈ex'):Un fs' ex' H H1 h h1:=
 ⟨λb ob q n hb he=>u.keep b ob q n (λz=>hb (hs b z)) λz=>he (hx b z),λ_ _ q n _ he=>u.any q n λz=>he (hx _ z),λb ob q n he=>u.free b ob q n λz=>he (hx b z),λb ob q he=>u.there b ob q λz=>he (hx b z),u.tups,u.frzs,u.tbls⟩
end
noncomputable def trk(h:V1)(H:Hp):List UL:=(VM h.objs.size).filter λa=>(H a).isSome
noncomputable def Dq(h:V1)(H:Hp):V1:=PySem.W.hideAll h (trk h H)
theorem KP(h:V1)(H:Hp):(Dq h H).objs.size=h.objs.size:=PySem.W.hideAll_size _ _
theorem MJ{h:V1}{H:Hp}{b:UL}{o:WK}(e:h.get? b=U7 o)(n:H b=UA):(Dq h H).get? b=U7 o:=
 PySem.W.hideAll_get _ e λhm=>by
  have q:(H b).isSome=true:=(W0.mp hm).2
  rw [n] at q;simp at q
theorem Oq{h:V1}{H:Hp}{b:UL}{o:WK}(e:(Dq h H).get? b=U7 o):h.get? b=U7 o/\H b=UA:=by
 have e':h.get? b=U7 o:=PySem.W.of_hideAll (trk h H) e
 refine ⟨e',?_⟩
 cases q:H b with
 | none=>rfl
 | some x=>
  have hm:b∈trk h H:=W0.mpr ⟨List.mem_range.mpr (UT e'),by simp [q]⟩
  have z:(Dq h H).get? b=UA:=YO (trk h H) hm
  rw [z] at e;cases e
end L2
namespace L2
open PySem PySem.Spec PyProof.Rows
structure Mod(K:UF)(mg:Vk->Option UB)(base:V1):Prop where
 kin:K.In base
 glob:base.Ns V2 mg
 blt:∃ mb,base.Ns builtinsNs mb/\∀ x:Vk,x≠"__name__"->mb x=Wu x
 nolimit:base.NoLimit
structure Cx where
 prog:Vn
 w:Vz
 K:UF
 mg:Vk->Option UB
 base:V1
 A:VG
 N:List Vk
 s₀:UG
 H₀:Hp
 env:Env
 outer:List Env
 stack:List Env
 ex:List UL
 fn:Vk->Bool
 calm:Bool
 pn:List (UL×WK)
 xe:UB->UG->Prop
noncomputable def frs(l:List Env):List UL:=l.filterMap (·.frame)
abbrev Cx.fs(X:Cx):List UL:=frs X.outer
noncomputable def Vis(sc:Zf)(x:Vk):Prop:=sc.names.lookup x=U7 .local∨sc.names.lookup x=U7 .cell∨sc.names.lookup x=U7 .free
noncomputable def Loc(sc:Zf)(x:Vk):Prop:=sc.names.lookup x=U7 .local∨sc.names.lookup x=U7 .cell
noncomputable def Ug(env:Env)(h:V1)(m:Vk->Option UB)(x:Vk)(u:UB):Prop:=
 (env.kindOf x=U7 .local/\m x=U7 u)∨((env.kindOf x=U7 .cell∨env.kindOf x=U7 .free)/\∃ c,env.cells.lookup x=U7 c/\h.IsCell c (U7 u))
noncomputable def stV:UB->Option V
 | .int i _=>U7 (.int i)
 | .str x _=>U7 (.str x)
 | _=>UA
noncomputable def OT:List UB->Option (List V)
 | []=>U7 []
 | v::r=>match stV v,OT r with
  | some x,U7 xs=>U7 (x::xs)
  | _,_=>UA
noncomputable def stO:WK->Option (List V)
 | ⟨.type c,UA,.seq its _,_⟩=>if c= "tuple"/\its.size<=Vc then OT its.toList else UA
 | _=>UA
noncomputable def Sb(K:UF)(H:Hp)(b:UL)(o:WK):Prop:=(H b=UA∨∃ u,H b=U7 (.frz o u))/\∀ vs,K.lookup b=U7 o->stO o=U7 vs->H b=U7 (.frz o (.tup vs))
theorem GC:∀ {us:List UB} {vs:List V},OT us=U7 vs->Vals vs us
 | [],vs,e=>by cases e;exact .nil
 | u::us,vs,e=>by
  unfold OT at e
  split at e
  ·rename_i x xs h1 h2
   cases e
   refine .cons ?_ (GC h2)
   unfold stV at h1
   split at h1
   ·cases h1;exact ⟨_,rfl⟩
   ·cases h1;exact ⟨_,rfl⟩
   ·cases h1
  ·cases e
theorem RB{P:Vn}{w:Vz}{H:Hp}{h:V1}{b:UL}{o:WK}{vs:List V}(e:h.get? b=U7 o)(q:stO o=U7 vs):ObjOk P w H h b (.tup vs):=by
 unfold stO at q
 split at q
 ·rename_i c its n sl
  split at q
  ·rename_i hc
   obtain ⟨rfl,hz⟩:=hc
   have r:=GC q
   have hl:vs.length<=Vc:=by rw [r.length];simpa using hz
   exact ⟨⟨hl,tv e rfl⟩,its.toList,r,_,e,rfl,n,by simp⟩
  ·cases q
 ·cases q
structure Cx.Ok(X:Cx):Prop where
 mod:Mod X.K X.mg X.base
 kind:X.env.scope.kind= .function
 glob:X.env.globals=V2
 blt:X.env.builtins=builtinsNs
 above:X.s₀.heap.objs.size<=X.env.locals
 inj:∀ x y c,X.env.cells.lookup x=U7 c->X.env.cells.lookup y=U7 c->x=y
 has:∀ x,(X.env.kindOf x=U7 .cell∨X.env.kindOf x=U7 .free)->∃ c,X.env.cells.lookup x=U7 c
 cab:∀ x c,X.fn x=true->X.env.cells.lookup x=U7 c->X.s₀.heap.objs.size<=c
 hd:X.calm=true->X.A.handled=UA
 frames:X.A.frames=U7 X.stack
 stk:X.stack=X.outer∨(X.stack=X.env::X.outer/\X.env.frame=U7 X.env.locals)
 exf:∀ b∈X.ex,b≠X.env.locals/\∀ x c,X.env.cells.lookup x=U7 c->c≠b
 bs:∀ b o,X.base.get? b=U7 o->X.s₀.heap.get? b=U7 o/\Sb X.K X.H₀ b o
 bsz:X.base.objs.size<=X.s₀.heap.objs.size
 noex:∀ b o,X.base.get? b=U7 o->b∉X.ex
 exfs:∀ b∈X.ex,b∉X.fs
 funs:X.s₀.heap.FunFrames X.base X.outer
 frf:∀ b∈X.fs,X.H₀ b=UA
structure Inv(X:Cx)(pins:List (UL×WK))(σ:List (Option V))(H:Hp)(s:UG):Prop where
 ok:X.Ok
 os:s.os=X.s₀.os
 bare:Za s.gens
 base:Un X.fs X.ex X.H₀ H X.s₀.heap s.heap
 loc:∃ m,s.heap.Ns X.env.locals m/\∀ (i:Nat) (x:Vk) (v:V),X.N[i]? =U7 x->σ[i]? =U7 (U7 v)->Vis X.env.scope x->∃ u,RelV v u/\Ug X.env s.heap m x u
 cell:∀ x c,X.env.cells.lookup x=U7 c->∃ v,s.heap.IsCell c v
 free:H X.env.locals=UA
 freeC:∀ x c,X.env.cells.lookup x=U7 c->H c=UA
 pin:∀ p∈X.pn++pins,s.heap.get? p.1=U7 p.2/\H p.1=UA/\p.1≠X.env.locals/\p.1∉X.fs/\∀ v,p.2.data≠.cell v
 hok:HOk X.prog X.w H s.heap
 len:σ.length=X.N.length
section
variable{X:Cx}{pins:List (UL×WK)}{σ:List (Option V)}{H H':Hp}{s:UG}{h':V1}
theorem Cx.Ok.nofr(ok:X.Ok){b:UL}{o:WK}(e:X.base.get? b=U7 o):b∉X.fs:=λhb=>by
 have:=(ok.funs.mem hb).1
 rw [e] at this;cases this
theorem Inv.bs(I:Inv X pins σ H s):∀ b o,X.base.get? b=U7 o->s.heap.get? b=U7 o/\Sb X.K H b o:=λb o e=>by
 obtain ⟨h1,h2,h3⟩:=I.ok.bs b o e
 have h4:∀ vs,X.K.lookup b=U7 o->stO o=U7 vs->H b=U7 (.frz o (.tup vs)):=λvs k q=>I.base.frzs b o _ (h3 vs k q)
 rcases h2 with h2 | ⟨u,h2⟩
 ·exact ⟨I.base.keep b o h1 h2 (I.ok.nofr e) (I.ok.noex b o e),.inl (I.base.free b o h1 h2 (I.ok.noex b o e)),h4⟩
 ·have q:=I.base.frzs b o u h2
  exact ⟨(I.hok b _ q).1,.inr ⟨u,q⟩,h4⟩
theorem Inv.bk(I:Inv X pins σ H s):∀ b o,X.base.get? b=U7 o->s.heap.get? b=U7 o:=λb o e=>(I.bs b o e).1
theorem Inv.mod(I:Inv X pins σ H s):Mod X.K X.mg X.base:=I.ok.mod
theorem Inv.kIn(I:Inv X pins σ H s):X.K.In s.heap:=I.ok.mod.kin.keeps I.bk
theorem Inv.lt(I:Inv X pins σ H s):X.env.locals < s.heap.objs.size:=let ⟨_,hn,_⟩:=I.loc;hn.lt
theorem Inv.sz(I:Inv X pins σ H s):X.s₀.heap.objs.size<=s.heap.objs.size:=UU I.ok.above (Zb I.lt)
theorem Inv.nofs(I:Inv X pins σ H s){a:UL}(h:s.heap.objs.size<=a):a∉X.fs:=λhb=>by
 obtain ⟨_,o,ho,_⟩:=I.ok.funs.mem hb
 exact absurd (Vj (UT ho) (UU I.sz h)) (Wo _)
theorem Inv.cne(I:Inv X pins σ H s):∀ x c,X.env.cells.lookup x=U7 c->c≠X.env.locals:=λx c e z=>by
 obtain ⟨v,o,ho,hd⟩:=I.cell x c e
 obtain ⟨m,⟨o',es,ep,ho',hd',_⟩,_⟩:=I.loc
 rw [z,ho'] at ho;cases ho;rw [hd'] at hd;cases hd
theorem Inv.funs(I:Inv X pins σ H s):s.heap.FunFrames X.base X.outer:=by
 have all:∀ (l:List Env),(∀ b∈frs l,b∈X.fs)->X.s₀.heap.FunFrames X.base l->s.heap.FunFrames X.base l:=by
  intro l
  induction l with
  | nil=>intro _ _;trivial
  | cons env r ih=>
   intro hs hl
   obtain ⟨hk,⟨L,o,hf,hn,ho,hd⟩,hr⟩:=hl
   have hL:L∈X.fs:=hs L (by unfold frs;rw [Wz,hf];exact UN)
   obtain ⟨sl,e⟩:=I.base.slot L o ho (I.ok.frf L hL) hL λz=>I.ok.exfs L z hL
   exact ⟨hk,⟨L,_,hf,hn,e,hd⟩,ih (λb hb=>hs b (by unfold frs;rw [Wz,hf];exact UQ _ hb)) hr⟩
 exact all X.outer (λ_ hb=>hb) I.ok.funs
theorem Inv.stack(I:Inv X pins σ H s):s.heap.FunFrames X.base X.stack:=by
 rcases I.ok.stk with e | ⟨e,hf⟩
 ·rw [e];exact I.funs
 ·rw [e]
  obtain ⟨m,hn,_⟩:=I.loc
  refine .cons (by rw [I.ok.kind];decide) hf hn ?_ I.funs
  exact V1.get?_none_of_le (UU I.ok.bsz I.ok.above)
theorem Inv.stkSub(I:Inv X pins σ H s):∀ b∈frs X.stack,b∈X.env.locals::X.fs:=λb hb=>by
 rcases I.ok.stk with e | ⟨e,hf⟩
 ·rw [e] at hb;exact UQ _ hb
 ·rw [e] at hb
  unfold frs at hb
  rw [Wz,hf] at hb
  exact hb
theorem Inv.stkFree(I:Inv X pins σ H s):∀ b∈frs X.stack,H b=UA:=λb hb=>by
 rcases Vl.mp (I.stkSub b hb) with e | hb
 ·rw [e];exact I.free
 ·obtain ⟨_,o,ho,_⟩:=I.ok.funs.mem hb
  exact I.base.free b o ho (I.ok.frf b hb) λz=>I.ok.exfs b z hb
theorem Inv.step{g':Array GenState}{t':Nat}{d':Drawn}{ch:List UL}(I:Inv X pins σ H s)
  (hch:∀ b∈ch,(b∈X.ex∨X.s₀.heap.objs.size<=b)/\b≠X.env.locals/\(∀ x c,X.env.cells.lookup x=U7 c->c≠b)/\∀ p∈X.pn++pins,p.1≠b)
  (keep:∀ b o,b≠X.env.locals->b∉X.fs->b∉ch->s.heap.get? b=U7 o->H b=UA->h'.get? b=U7 o)
  (slot:∀ b o,b≠X.env.locals->b∈X.fs->b∉ch->s.heap.get? b=U7 o->H b=UA->∃ sl,h'.get? b=U7 {o with slots:=sl}) (free:∀ b o,b∉ch->s.heap.get? b=U7 o->H b=UA->H' b=UA)
  (there:∀ b o,b∉ch->s.heap.get? b=U7 o->∃ o',h'.get? b=U7 o')
  (tups:∀ b xs,H b=U7 (.tup xs)->H' b=U7 (.tup xs)) (frzs:∀ b o u,H b=U7 (.frz o u)->H' b=U7 (.frz o u)) (tbls:∀ b ps,H b=U7 (.tbl ps)->∃ more,H' b=U7 (.tbl (ps++more)))
  (ns:∀ m,s.heap.Ns X.env.locals m->h'.Ns X.env.locals m) (hok:HOk X.prog X.w H' h') (hg:Za g'):
  Inv X pins σ H' {s with heap:=h',gens:=g',drawn:=d',toks:=t'}:=by
 have neL:∀ b o,X.s₀.heap.get? b=U7 o->b≠X.env.locals:=λb o e=>Vt (Vj (UT e) I.ok.above)
 have neC:∀ b o,X.s₀.heap.get? b=U7 o->b∉X.ex->b∉ch:=λb o e hx hb=>by
  rcases (hch b hb).1 with z | z
  ·exact hx z
  ·exact absurd (Vj (UT e) z) (Wo _)
 have cellK:∀ x c,X.env.cells.lookup x=U7 c->∀ v,s.heap.IsCell c v->h'.IsCell c v:=λx c e v ⟨o,ho,hd⟩=>by
  have nch:c∉ch:=λz=>(hch c z).2.2.1 x c e rfl
  by_cases hc:c∈X.fs
  ·obtain ⟨sl,q⟩:=slot c o (I.cne x c e) hc nch ho (I.freeC x c e)
   exact ⟨_,q,hd⟩
  ·exact ⟨o,keep c o (I.cne x c e) hc nch ho (I.freeC x c e),hd⟩
 refine ⟨I.ok,I.os,hg,⟨λb o e n hb hx=>?_,λb o e n hb hx=>?_,λb o e n hx=>?_,λb o e hx=>?_,λb xs e=>tups b xs (I.base.tups b xs e),λb o xs e=>frzs b o xs (I.base.frzs b o xs e),λb ps e=>?_⟩,?_,λx c e=>?_,?_,λx c e=>?_,λp hp=>?_,hok,I.len⟩
 ·exact keep b o (neL b o e) hb (neC b o e hx) (I.base.keep b o e n hb hx) (I.base.free b o e n hx)
 ·obtain ⟨sl,e1⟩:=I.base.slot b o e n hb hx
  obtain ⟨sl',e2⟩:=slot b _ (neL b o e) hb (neC b o e hx) e1 (I.base.free b o e n hx)
  exact ⟨sl',e2⟩
 ·obtain ⟨o',e1⟩:=I.base.there b o e hx
  exact free b o' (neC b o e hx) e1 (I.base.free b o e n hx)
 ·obtain ⟨o',e1⟩:=I.base.there b o e hx
  exact there b o' (neC b o e hx) e1
 ·obtain ⟨m1,e1⟩:=I.base.tbls b ps e
  obtain ⟨m2,e2⟩:=tbls b _ e1
  exact ⟨m1++m2,by rw [e2,Array.append_assoc]⟩
 ·obtain ⟨m,hn,hl⟩:=I.loc
  refine ⟨m,ns m hn,λi x v e1 e2 e3=>?_⟩
  obtain ⟨u,r,l⟩:=hl i x v e1 e2 e3
  refine ⟨u,r,?_⟩
  rcases l with l | ⟨k,c,e,z⟩
  ·exact .inl l
  ·exact .inr ⟨k,c,e,cellK x c e _ z⟩
 ·obtain ⟨v,z⟩:=I.cell x c e
  exact ⟨v,cellK x c e v z⟩
 ·obtain ⟨m,⟨o,_,_,ho,_⟩,_⟩:=I.loc
  exact free _ o (λz=>(hch _ z).2.1 rfl) ho I.free
 ·obtain ⟨v,o,ho,hd⟩:=I.cell x c e
  exact free c o (λz=>(hch c z).2.2.1 x c e rfl) ho (I.freeC x c e)
 ·obtain ⟨e,n,ne,nf,d⟩:=I.pin p hp
  have nch:p.1∉ch:=λz=>(hch p.1 z).2.2.2 p hp rfl
  exact ⟨keep p.1 p.2 ne nf nch e n,free p.1 p.2 nch e n,ne,nf,d⟩
theorem Inv.un{t':Nat}(I:Inv X pins σ H s)(u:Un X.fs [] H H' s.heap h')(hok:HOk X.prog X.w H' h'):Inv X pins σ H' {s with heap:=h',toks:=t'}:=by
 obtain ⟨m,⟨o,es,ep,ho,r⟩,_⟩:=id I.loc
 obtain ⟨sl,hL⟩:=u.any ho I.free (by simp)
 exact I.step (g':=s.gens) (d':=s.drawn) (ch:=[]) (λ_ z=>nomatch z) (λb o _ hb _ e n=>u.keep b o e n hb (by simp)) (λb o _ hb _ e n=>u.slot b o e n hb (by simp)) (λb o _ e n=>u.free b o e n (by simp)) (λb o _ e=>u.there b o e (by simp)) u.tups u.frzs u.tbls (λm' hm=>by
  obtain ⟨o',es',ep',ho',r'⟩:=hm
  rw [ho] at ho';cases ho'
  exact ⟨_,es',ep',hL,r'⟩) hok I.bare
theorem Inv.call{g':Array GenState}{t':Nat}{d':Drawn}{ch:List UL}(I:Inv X pins σ H s)(u:Un (frs X.stack) ch H H' s.heap h')(hok:HOk X.prog X.w H' h')(hg:Za g')
  (hch:∀ b∈ch,(b∈X.ex∨X.s₀.heap.objs.size<=b)/\b≠X.env.locals/\(∀ x c,X.env.cells.lookup x=U7 c->c≠b)/\∀ p∈X.pn++pins,p.1≠b):
  Inv X pins σ H' {s with heap:=h',gens:=g',drawn:=d',toks:=t'}:=by
 obtain ⟨m,⟨o,es,ep,ho,r⟩,_⟩:=id I.loc
 obtain ⟨sl,hL⟩:=u.any ho I.free λz=>(hch _ z).2.1 rfl
 exact I.step (ch:=ch) hch (λb o hL hb hc e n=>u.keep b o e n (λz=>(Vl.mp (I.stkSub b z)).elim hL hb) hc) (λb o _ _ hc e n=>u.any e n hc) (λb o hc e n=>u.free b o e n hc) (λb o hc e=>u.there b o e hc) u.tups u.frzs u.tbls (λm' hm=>by
  obtain ⟨o',es',ep',ho',r'⟩:=hm
  rw [ho] at ho';cases ho'
  exact ⟨_,es',ep',hL,r'⟩) hok hg
theorem Inv.turned{t':Nat}{it:UL}(I:Inv X pins σ H s)(k:∀ b o,b≠it->s.heap.get? b=U7 o->h'.get? b=U7 o)(hn:H it=UA)(hL:it≠X.env.locals)
  (h1:it∈X.ex∨X.s₀.heap.objs.size<=it) (h2:∀ x c,X.env.cells.lookup x=U7 c->c≠it) (h3:∀ p∈X.pn++pins,p.1≠it):Inv X pins σ H {s with heap:=h',toks:=t'}:=by
 have nit:∀ b u,H b=U7 u->b≠it:=λb u e z=>by rw [z,hn] at e;cases e
 refine I.step (g':=s.gens) (d':=s.drawn) (ch:=[it]) (λb hb=>?_) (λb o _ _ hc e _=>k b o (λz=>hc (by simp [z])) e) (λb o _ _ hc e _=>⟨o.slots,k b o (λz=>hc (by simp [z])) e⟩) (λ_ _ _ _ n=>n)
  (λb o hc e=>⟨o,k b o (λz=>hc (by simp [z])) e⟩) (λ_ _ e=>e) (λ_ _ _ e=>e) (λb ps e=>⟨#[],by rw [e];simp⟩) (λm hm=>?_) (λb u e=>?_) I.bare
 ·have e:b=it:=by simpa using hb
  subst e
  exact ⟨h1,hL,h2,h3⟩
 ·obtain ⟨o,es,ep,ho,r⟩:=hm
  exact ⟨o,es,ep,k _ o (Wv hL) ho,r⟩
 ·refine (I.hok b u e).stay (λc v hc q=>k c v ?_ q) (λ_ q=>q) λ_ _ q=>q
  rcases hc with z | z
  ·rw [z];exact nit b u e
  ·exact nit c _ z
theorem Inv.tok(I:Inv X pins σ H s)(t:Nat):Inv X pins σ H {s with toks:=t}:=I.un (h':=s.heap) (t':=t) Un.refl I.hok
theorem Inv.kept{t':Nat}(I:Inv X pins σ H s)(k:∀ b u,s.heap.get? b=U7 u->h'.get? b=U7 u):Inv X pins σ H {s with heap:=h',toks:=t'}:=I.un (Un.kept k) (I.hok.kept k)
theorem Inv.laid{a:UL}{o:HO}{t':Nat}(I:Inv X pins σ H s)(k:∀ b u,s.heap.get? b=U7 u->h'.get? b=U7 u)(hp:s.heap.objs.size<=a)(new:ObjOk X.prog X.w (upd H a o) h' a o):
 Inv X pins σ (upd H a o) {s with heap:=h',toks:=t'}:=I.un (Un.laid k hp (I.hok.fresh hp)) (I.hok.laid k hp new)
theorem Inv.write{x e:UL}{o:HO}{t':Nat}(I:Inv X pins σ H s)(mu:Mut (H x))(he:e=x∨H e=U7 (.own x))(k:∀ b u,b≠e->s.heap.get? b=U7 u->h'.get? b=U7 u)(heo:∃ u,h'.get? e=U7 u)
 (new:ObjOk X.prog X.w (upd H x o) h' x o):Inv X pins σ (upd H x o) {s with heap:=h',toks:=t'}:=I.un (Un.write mu he k heo) (I.hok.write mu he k heo new)
theorem Inv.pins_of{pins':List (UL×WK)}(I:Inv X pins σ H s)(h:∀ p∈pins',s.heap.get? p.1=U7 p.2/\H p.1=UA/\p.1≠X.env.locals/\p.1∉X.fs/\∀ v,p.2.data≠.cell v):Inv X pins' σ H s:=
 ⟨I.ok,I.os,I.bare,I.base,I.loc,I.cell,I.free,I.freeC,λp hp=>(VT.mp hp).elim (λz=>I.pin p (XX _ z)) (h p),I.hok,I.len⟩
theorem FZ{N:List Vk}(hN:N.Nodup){i j:Nat}{x:Vk}(a:N[i]? =U7 x)(b:N[j]? =U7 x):i=j:=by
 obtain ⟨h1,e1⟩:=UV.mp a
 obtain ⟨h2,e2⟩:=UV.mp b
 exact (List.getElem_inj hN).mp (e1.trans e2.symm)
theorem Lu{M:Model}{A:VG}{E:UB->UG->Prop}{i:Nat}{x:Vk}{v:V}{u:UB}{Q:Unit->UG->Prop}(I:Inv X pins σ H s)(hN:X.N.Nodup)(hi:X.N[i]? =U7 x)(hx:Loc X.env.scope x)(r:RelV v u)
  (h:∀ s',Inv X pins (σ.set i (U7 v)) H s'->(∃ a,Wq a s.heap s'.heap/\(a=X.env.locals∨X.env.cells.lookup x=U7 a))->Q () s') (hf:X.fn x=true∨X.env.scope.names.lookup x=U7 .local:=by first | exact .inl rfl | exact .inr rfl | assumption):UZ M A (storeName X.env x u) Q E s:=by
 obtain ⟨m,hn,hl⟩:=id I.loc
 have hcls:(X.env.scope.kind == .class || (X.env.scope.kind == .module && X.env.locals != X.env.globals))=false:=by rw [I.ok.kind];rfl
 have hiσ:i < σ.length:=by rw [I.len];exact (UV.mp hi).1
 have cne:=I.cne
 have tracked:∀ {a:UL} {h':V1},(∃ o,s.heap.get? a=U7 o/\H a=UA)->Wq a s.heap h'->HOk X.prog X.w H h':=λ{a h'} ha hs b ob e=>by
  obtain ⟨_,_,hfree⟩:=ha
  refine (I.hok b ob e).stay (λc w' hc q=>(hs.2 c ?_).trans q) (λ_ q=>q) λ_ _ q=>q
  rintro rfl
  rcases hc with rfl | hc
  ·rw [hfree] at e;cases e
  ·rw [hfree] at hc;cases hc
 rcases hx with hk | hk
 ·refine wpAny_storeName_local hk hn (λh' hn' hs=>?_) hcls
  obtain ⟨oL,_,_,hoL,_⟩:=id hn
  refine h _ ⟨I.ok,I.os,I.bare,⟨λb o e n hb hx=>?_,λb o e n hb hx=>?_,I.base.free,λb o e hx=>?_,I.base.tups,I.base.frzs,I.base.tbls⟩,⟨_,hn',λj y v' e1 e2 e3=>?_⟩,λy c e=>?_,I.free,I.freeC,λp hp=>?_,tracked ⟨oL,hoL,I.free⟩ hs,by simpa using I.len⟩ ⟨_,hs,.inl rfl⟩
  ·exact (hs.2 b (Vt (Vj (UT e) I.ok.above))).trans (I.base.keep b o e n hb hx)
  ·obtain ⟨sl,e1⟩:=I.base.slot b o e n hb hx
   exact ⟨sl,(hs.2 b (Vt (Vj (UT e) I.ok.above))).trans e1⟩
  ·obtain ⟨o',e1⟩:=I.base.there b o e hx
   exact ⟨o',(hs.2 b (Vt (Vj (UT e) I.ok.above))).trans e1⟩
  ·by_cases hj:j=i
   ·subst hj
    rw [hi] at e1;cases e1
    rw [List.getElem?_set_self hiσ] at e2
    cases e2
    exact ⟨u,r,.inl ⟨hk,by simp⟩⟩
   ·rw [List.getElem?_set_ne (Wv hj)] at e2
    obtain ⟨u',r',q⟩:=hl j y v' e1 e2 e3
    refine ⟨u',r',?_⟩
    rcases q with ⟨k,e⟩ | ⟨k,c,e,z⟩
    ·refine .inl ⟨k,?_⟩
     have:y≠x:=λe=>hj (FZ hN e1 (e ▸ hi))
     simp [this,e]
    ·exact .inr ⟨k,c,e,z.sameBut hs (cne y c e)⟩
  ·obtain ⟨w',z⟩:=I.cell y c e
   exact ⟨w',z.sameBut hs (cne y c e)⟩
  ·obtain ⟨e,n,ne,nf,d⟩:=I.pin p hp
   exact ⟨(hs.2 p.1 ne).trans e,n,ne,nf,d⟩
 ·have hfn:X.fn x=true:=by
    rcases hf with z | z
    ·exact z
    ·rw [z] at hk;cases hk
  obtain ⟨c,hc⟩:=I.ok.has x (.inl hk)
  obtain ⟨w',z⟩:=I.cell x c hc
  refine wpAny_storeName_cell I.ok.kind hk hc z (λh' hc' hs=>?_)
  obtain ⟨oc,hoc,hocd⟩:=id z
  refine h {s with heap:=h'} ⟨I.ok,I.os,I.bare,⟨λb o e n hb hx=>?_,λb o e n hb hx=>?_,I.base.free,λb o e hx=>?_,I.base.tups,I.base.frzs,I.base.tbls⟩,⟨m,hn.sameBut hs (Wv (cne x c hc)),λj y v' e1 e2 e3=>?_⟩,λy c' e=>?_,I.free,I.freeC,λp hp=>?_,tracked ⟨oc,hoc,I.freeC x c hc⟩ hs,by simpa using I.len⟩ ⟨c,hs,.inr hc⟩
  ·exact (hs.2 b (Vt (Vj (UT e) (I.ok.cab x c hfn hc)))).trans (I.base.keep b o e n hb hx)
  ·obtain ⟨sl,e1⟩:=I.base.slot b o e n hb hx
   exact ⟨sl,(hs.2 b (Vt (Vj (UT e) (I.ok.cab x c hfn hc)))).trans e1⟩
  ·obtain ⟨o',e1⟩:=I.base.there b o e hx
   exact ⟨o',(hs.2 b (Vt (Vj (UT e) (I.ok.cab x c hfn hc)))).trans e1⟩
  ·by_cases hj:j=i
   ·subst hj
    rw [hi] at e1;cases e1
    rw [List.getElem?_set_self hiσ] at e2
    cases e2
    exact ⟨u,r,.inr ⟨.inl hk,c,hc,hc'⟩⟩
   ·rw [List.getElem?_set_ne (Wv hj)] at e2
    obtain ⟨u',r',q⟩:=hl j y v' e1 e2 e3
    refine ⟨u',r',?_⟩
    rcases q with q | ⟨k,c',e,z'⟩
    ·exact .inl q
    ·refine .inr ⟨k,c',e,z'.sameBut hs ?_⟩
     rintro rfl
     exact hj (FZ hN e1 (I.ok.inj _ _ _ e hc ▸ hi))
  ·by_cases hcc:c'=c
   ·subst hcc;exact ⟨_,hc'⟩
   ·obtain ⟨w2,z2⟩:=I.cell y c' e
    exact ⟨w2,z2.sameBut hs hcc⟩
  ·obtain ⟨e,n,ne,nf,d⟩:=I.pin p hp
   refine ⟨(hs.2 p.1 ?_).trans e,n,ne,nf,d⟩
   intro q
   rw [q,hoc] at e
   have q':oc=p.2:=Vx e
   exact d w' (by rw [<- q'];exact hocd)
theorem Ht{M:Model}{A:VG}{E:UB->UG->Prop}{i:Nat}{x:Vk}{v:V}{u:UB}{Q:Unit->UG->Prop}(I:Inv X pins σ H s)(hN:X.N.Nodup)(hi:X.N[i]? =U7 x)(hx:Loc X.env.scope x)(r:RelV v u)
  (h:∀ s',Inv X pins (σ.set i (U7 v)) H s'->Q () s') (hf:X.fn x=true∨X.env.scope.names.lookup x=U7 .local:=by first | exact .inl rfl | exact .inr rfl | assumption):UZ M A (storeName X.env x u) Q E s:=
 Lu I hN hi hx r (λs' I' _=>h s' I') hf
theorem Inv.call'{s':UG}{ch:List UL}(I:Inv X pins σ H s)(ho:s'.os=s.os)(u:Un (frs X.stack) ch H H' s.heap s'.heap)(hok:HOk X.prog X.w H' s'.heap)(hg:Za s'.gens)
  (hch:∀ b∈ch,(b∈X.ex∨X.s₀.heap.objs.size<=b)/\b≠X.env.locals/\(∀ x c,X.env.cells.lookup x=U7 c->c≠b)/\∀ p∈X.pn++pins,p.1≠b):Inv X pins σ H' s':=by
 obtain ⟨h',g',d',t',o'⟩:=s'
 have e:o'=s.os:=ho
 subst e
 exact I.call (g':=g') (t':=t') (d':=d') u hok hg hch
end
abbrev XK:=UB->Option UL->Hp->Prop
abbrev St:=List (Option V)
abbrev VK:=V->Hp->Prop
abbrev TE:=St->Hp->VK->Prop
abbrev TT:=St->Hp->(Bool->Hp->Prop)->Prop
abbrev TA:=St->Hp->(List V->Hp->Prop)->Prop
structure Ends where
 nx:St->Hp->Prop
 rt:VK
 bk:St->Hp->Prop:=λ_ _=>False
 ct:St->Hp->Prop:=λ_ _=>False
abbrev TS:=Ends->St->Hp->Prop
noncomputable def EP(X:Cx)(pins:List (UL×WK))(σ:St)(Q:VK)(u:UB)(s':UG):Prop:=∃ v H',Inv X pins σ H' s'/\RelV v u/\Q v H'
noncomputable def TP(X:Cx)(pins:List (UL×WK))(σ:St)(Q:Bool->Hp->Prop)(b:Bool)(s':UG):Prop:=∃ H',Inv X pins σ H' s'/\Q b H'
noncomputable def AP(X:Cx)(pins:List (UL×WK))(σ:St)(Q:List V->Hp->Prop)(us:List UB)(s':UG):Prop:=∃ vs H',Inv X pins σ H' s'/\Vals vs us/\Q vs H'
noncomputable def SP(X:Cx)(pins:List (UL×WK))(D:Ends)(f:Flow)(s':UG):Prop:=
 match f with
 | .next=>∃ σ' H',Inv X pins σ' H' s'/\D.nx σ' H'
 | .brk=>∃ σ' H',Inv X pins σ' H' s'/\D.bk σ' H'
 | .cont=>∃ σ' H',Inv X pins σ' H' s'/\D.ct σ' H'
 | .ret u=>∃ v σ' H',Inv X pins σ' H' s'/\RelV v u/\D.rt v H'
noncomputable def PE(X:Cx)(e:Vw)(t:TE):Prop:=
 ∀ (pins:List (UL×WK)) (s:UG) (σ:St) (H:Hp) (Q:VK),Inv X pins σ H s->t σ H Q->UZ (Vh X.prog X.w) X.A (VN e X.env) (EP X pins σ Q) X.xe s
noncomputable def PT(X:Cx)(e:Vw)(t:TT):Prop:=
 ∀ (pins:List (UL×WK)) (s:UG) (σ:St) (H:Hp) (Q:Bool->Hp->Prop),Inv X pins σ H s->t σ H Q->UZ (Vh X.prog X.w) X.A (isTrue e X.env (VN e X.env)) (TP X pins σ Q) X.xe s
noncomputable def PW(X:Cx)(e:Vw)(t:TT):Prop:=
 ∀ (whole:Sem UB) (pins:List (UL×WK)) (s:UG) (σ:St) (H:Hp) (Q:Bool->Hp->Prop),Inv X pins σ H s->t σ H Q->UZ (Vh X.prog X.w) X.A (isTrue e X.env whole) (TP X pins σ Q) X.xe s
theorem PW.pt{X:Cx}{e:Vw}{t:TT}(h:PW X e t):PT X e t:=h _
noncomputable def PA(X:Cx)(es:List Vw)(t:TA):Prop:=
 ∀ (pos:Xz) (pins:List (UL×WK)) (s:UG) (σ:St) (H:Hp) (Q:List V->Hp->Prop),Inv X pins σ H s->t σ H Q->UZ (Vh X.prog X.w) X.A (spliced (VC pos (UJ es X.env))) (AP X pins σ Q) X.xe s
noncomputable def PS(X:Cx)(st:VW)(t:TS):Prop:=
 ∀ (pins:List (UL×WK)) (s:UG) (σ:St) (H:Hp) (D:Ends),Inv X pins σ H s->t D σ H->UZ (Vh X.prog X.w) X.A (exec st X.env) (SP X pins D) X.xe s
noncomputable def PSs(X:Cx)(st:List VW)(t:TS):Prop:=
 ∀ (pins:List (UL×WK)) (s:UG) (σ:St) (H:Hp) (D:Ends),Inv X pins σ H s->t D σ H->UZ (Vh X.prog X.w) X.A (execs st X.env) (SP X pins D) X.xe s
theorem thn{α:Type}{t:Sem α}{Q Q':α->UG->Prop}{M:Model}{A:VG}{E:UB->UG->Prop}{s:UG}(h:UZ M A t Q E s)(hQ:∀ a s,Q a s->Q' a s):UZ M A t Q' E s:=W6 h hQ λ_ _ x=>x
end L2
namespace L2
open PySem PySem.Spec PyProof.Rows
section
variable{X:Cx}
noncomputable def Dv(i:Nat):TE:=λσ H Q=>∃ v,σ[i]? =U7 (U7 v)/\Q v H
noncomputable def tC(v:V):TE:=λ_ H Q=>Q v H
theorem yk{i:Nat}{x:Vk}{pos:Xz}(hN:X.N[i]? =U7 x)(hv:Vis X.env.scope x)(hd:(x == ("__debug__":Vk))=false:=by decide)(hcd:(x == ("__classdict__":Vk))=false:=by decide):PE X (.Name x pos) (Dv i):=by
 intro pins s σ H Q I h
 obtain ⟨v,e,h⟩:=h
 obtain ⟨m,hn,hl⟩:=I.loc
 obtain ⟨u,r,l⟩:=hl i x v hN e hv
 have fin:EP X pins σ Q u s:=⟨v,H,I,r,h⟩
 rcases l with ⟨hk,hm⟩ | ⟨hk,c,hc,hcell⟩
 ·exact wpAny_Name (wpAny_loadName_local I.ok.kind hk hn hm fin) hd
 ·rcases hk with hk | hk
  ·exact wpAny_Name (wpAny_loadName_cell I.ok.kind hk hc hcell fin) hd
  ·exact wpAny_Name (wpAny_loadName_free I.ok.kind hk hc hcell fin hcd) hd
theorem BO{i j pos}:PE X (.Constant (.int i) j pos) (tC (.int i)):=λ_ _ _ H _ I h=>wpAny_Constant_int ⟨.int i,H,I.tok _,⟨_,rfl⟩,h⟩
theorem Tq{b j pos}:PE X (.Constant (.bool b) j pos) (tC (.bl b)):=λ_ _ _ H _ I h=>Constant_bool ⟨.bl b,H,I,rfl,h⟩
theorem QY{j pos}:PE X (.Constant .none j pos) (tC .non):=λ_ _ _ H _ I h=>Constant_none ⟨.non,H,I,rfl,h⟩
theorem Sd{x j pos}:PE X (.Constant (.str x) j pos) (tC (.str x)):=λ_ _ _ H _ I h=>Calls.Constant_str ⟨.str x,H,I.tok _,⟨_,rfl⟩,h⟩
noncomputable def Gl(X:Cx)(x:Vk):Prop:=X.env.kindOf x=U7 .globalImplicit
theorem EF{E:UB->UG->Prop}{pins:List (UL×WK)}{s:UG}{σ:St}{H:Hp}{x:Vk}{u:UB}{pos:Xz}{Q:UB->UG->Prop}(I:Inv X pins σ H s)(hg:Gl X x)(hm:X.mg x=U7 u)(h:Q u s)
  (hd:(x == ("__debug__":Vk))=false:=by decide):UZ (Vh X.prog X.w) X.A (VN (.Name x pos) X.env) Q E s:=
 Calls.Name_function_global I.ok.kind hg (Calls.loadGlobal_global (by rw [I.ok.glob];exact I.mod.glob.keeps I.bk) hm h) hd
theorem oj{E:UB->UG->Prop}{pins:List (UL×WK)}{s:UG}{σ:St}{H:Hp}{x:Vk}{u:UB}{pos:Xz}{Q:UB->UG->Prop}(I:Inv X pins σ H s)(hg:Gl X x)(hm:X.mg x=UA)(hv:Wu x=U7 u)(h:Q u s)
  (hn:x≠"__name__":=by decide) (hd:(x == ("__debug__":Vk))=false:=by decide):UZ (Vh X.prog X.w) X.A (VN (.Name x pos) X.env) Q E s:=by
 obtain ⟨mb,h1,h2⟩:=I.mod.blt
 exact Calls.Name_function_global I.ok.kind hg (Calls.loadGlobal_builtin (by rw [I.ok.glob];exact I.mod.glob.keeps I.bk) hm (by rw [I.ok.blt];exact h1.keeps I.bk) ((h2 x hn).trans hv) h) hd
theorem Ox{x:Vk}{v:V}{u:UB}{pos:Xz}(hg:Gl X x)(hm:X.mg x=U7 u)(r:RelV v u)(hd:(x == ("__debug__":Vk))=false:=by decide):PE X (.Name x pos) (tC v):=
 λ_ _ _ H _ I h=>EF I hg hm ⟨v,H,I,r,h⟩ hd
theorem PM{x:Vk}{v:V}{u:UB}{pos:Xz}(hg:Gl X x)(hm:X.mg x=UA)(hv:Wu x=U7 u)(r:RelV v u)(hn:x≠"__name__":=by decide)(hd:(x == ("__debug__":Vk))=false:=by decide):PE X (.Name x pos) (tC v):=
 λ_ _ _ H _ I h=>oj I hg hm hv ⟨v,H,I,r,h⟩ hn hd
variable{a b:Vw}{ta tb:TE}{pos:Xz}
noncomputable def tB(t:TE):TT:=λσ H Q=>t σ H λx H1=>∃ c,x= .bl c/\Q c H1
theorem Rx{e:Vw}{t:TE}(h:PE X e t)(he:∀ whole,isTrue e X.env whole=(do let v <- whole;standAt e.pos;holding [v] (truthy v)):=by intro _;rfl):PT X e (tB t):=by
 intro pins s σ H Q I hw
 refine isTrue_plain (thn (h pins s σ H _ I hw) λv s1 ⟨x,H1,I1,r1,q1⟩=>?_) (he _)
 obtain ⟨d,rfl,q⟩:=q1
 cases r1
 exact Ww ⟨H1,I1,q⟩
variable{tA tB':TT}{rest:List Vw}
noncomputable def Ux(t u:TT):TT:=λσ H Q=>t σ H λc H1=>if c=true then u σ H1 Q else Q false H1
noncomputable def tOr(t u:TT):TT:=λσ H Q=>t σ H λc H1=>if c=true then Q true H1 else u σ H1 Q
noncomputable def Ub(t:TT):TT:=λσ H Q=>t σ H λc H1=>Q (!c) H1
theorem Pl(ha:PT X a tA):PW X (.BoolOp .And [a] pos) tA:=by
 intro wh pins s σ H Q I h
 refine isTrue_and (thn (ha pins s σ H Q I h) λc s1 e=>?_)
 cases c with
 | true=>exact isTrue_and_nil e
 | false=>exact e
theorem R7(ha:PT X a tA):PW X (.BoolOp .Or [a] pos) tA:=by
 intro wh pins s σ H Q I h
 refine isTrue_or (thn (ha pins s σ H Q I h) λc s1 e=>?_)
 cases c with
 | false=>exact isTrue_or_nil e
 | true=>exact e
theorem QN(ha:PT X a tA)(hb:PW X (.BoolOp .And (b::rest) pos) tB'):PW X (.BoolOp .And (a::b::rest) pos) (Ux tA tB'):=by
 intro wh pins s σ H Q I h
 refine isTrue_and (thn (ha pins s σ H _ I h) λc s1 ⟨H1,I1,q1⟩=>?_)
 cases c with
 | true=>exact hb wh pins s1 σ H1 Q I1 q1
 | false=>exact ⟨H1,I1,q1⟩
theorem Ti(ha:PT X a tA)(hb:PW X (.BoolOp .Or (b::rest) pos) tB'):PW X (.BoolOp .Or (a::b::rest) pos) (tOr tA tB'):=by
 intro wh pins s σ H Q I h
 refine isTrue_or (thn (ha pins s σ H _ I h) λc s1 ⟨H1,I1,q1⟩=>?_)
 cases c with
 | true=>exact ⟨H1,I1,q1⟩
 | false=>exact hb wh pins s1 σ H1 Q I1 q1
theorem QT(ha:PT X a tA):PT X (.UnaryOp .Not a pos) (Ub tA):=by
 intro pins s σ H Q I h
 exact isTrue_not (ha pins s σ H (λc H1=>Q (!c) H1) I h)
noncomputable def SH(ta tb:TE):TE:=λσ H Q=>ta σ H λx H1=>∃ c,x= .bl c/\if c=true then tb σ H1 Q else Q (.bl false) H1
noncomputable def Us(ta tb:TE):TE:=λσ H Q=>ta σ H λx H1=>∃ c,x= .bl c/\if c=true then Q (.bl true) H1 else tb σ H1 Q
noncomputable def SG(ta:TE):TE:=λσ H Q=>ta σ H λx H1=>∃ c,x= .bl c/\Q (.bl (!c)) H1
theorem Rr{op}{t:TE}(h:PE X a t):PE X (.BoolOp op [a] pos) t:=λpins s σ H Q I hw=>BoolOp_one (h pins s σ H Q I hw)
theorem Rp(ha:PE X a ta)(hb:PE X (.BoolOp .And (b::rest) pos) tb):PE X (.BoolOp .And (a::b::rest) pos) (SH ta tb):=by
 intro pins s σ H Q I h
 refine BoolOp_and (thn (ha pins s σ H _ I h) λv s1 ⟨x,H1,I1,r1,q1⟩=>?_)
 obtain ⟨c,rfl,q1⟩:=q1
 cases r1
 refine Ww ?_
 cases c with
 | true=>exact hb pins s1 σ H1 Q I1 q1
 | false=>exact ⟨.bl false,H1,I1,rfl,q1⟩
theorem TB(ha:PE X a ta)(hb:PE X (.BoolOp .Or (b::rest) pos) tb):PE X (.BoolOp .Or (a::b::rest) pos) (Us ta tb):=by
 intro pins s σ H Q I h
 refine BoolOp_or (thn (ha pins s σ H _ I h) λv s1 ⟨x,H1,I1,r1,q1⟩=>?_)
 obtain ⟨c,rfl,q1⟩:=q1
 cases r1
 refine Ww ?_
 cases c with
 | false=>exact hb pins s1 σ H1 Q I1 q1
 | true=>exact ⟨.bl true,H1,I1,rfl,q1⟩
theorem QB(ha:PE X a ta):PE X (.UnaryOp .Not a pos) (SG ta):=by
 intro pins s σ H Q I h
 refine UnaryOp_ (thn (ha pins s σ H _ I h) λv s1 ⟨x,H1,I1,r1,q1⟩=>?_)
 obtain ⟨c,rfl,q1⟩:=q1
 cases r1
 exact not_of (Ww ⟨.bl (!c),H1,I1,rfl,q1⟩)
noncomputable def tIf(t:TT)(ta tb:TE):TE:=λσ H Q=>t σ H λc H1=>if c=true then ta σ H1 Q else tb σ H1 Q
theorem FQ{c:Vw}(hc:PT X c tA)(ha:PE X a ta)(hb:PE X b tb):PE X (.IfExp c a b pos) (tIf tA ta tb):=by
 intro pins s σ H Q I h
 refine wpAny_IfExp (thn (hc pins s σ H _ I h) λd s1 ⟨H1,I1,q1⟩=>?_)
 cases d with
 | true=>exact ha pins s1 σ H1 Q I1 q1
 | false=>exact hb pins s1 σ H1 Q I1 q1
end
end L2
namespace L2
open PySem PySem.Spec PyProof.Rows
noncomputable def SqL(K:UF)(H:Hp)(a:UL)(xs:List V):Prop:=
 Rd H a (.lst xs)∨
  ∃ (o:WK) (its:Array UB) (n:Nat),K.lookup a=U7 o/\o.cls= .type "list"/\o.dict=UA/\o.data= .seq its n/\its.size<=Vc/\Vals xs its.toList
noncomputable def SqT(K:UF)(H:Hp)(a:UL)(xs:List V):Prop:=
 Rd H a (.tup xs)∨
  ∃ (o:WK) (its:Array UB) (n:Nat),K.lookup a=U7 o/\o.cls= .type "tuple"/\o.data= .seq its n/\its.size<=Vc/\Vals xs its.toList
noncomputable def U0:UB->Option V
 | .none=>U7 .non
 | .bool b=>U7 (.bl b)
 | .int i _=>U7 (.int i)
 | .str x _=>U7 (.str x)
 | .bytes b _=>U7 (.byt b)
 | .float b _=>U7 (.flt b)
 | .ref a=>U7 (.ref a)
 | .type n=>U7 (.ty n)
 | _=>UA
theorem RelV.abs{x:V}{u:UB}(r:RelV x u):U0 u=U7 x:=by
 cases x with
 | non=>cases r;rfl
 | bl _=>cases r;rfl
 | int _=>obtain ⟨t,rfl⟩:=r;rfl
 | str _=>obtain ⟨t,rfl⟩:=r;rfl
 | byt _=>obtain ⟨t,rfl⟩:=r;rfl
 | flt _=>obtain ⟨t,rfl⟩:=r;rfl
 | ref _=>cases r;rfl
 | ty _=>cases r;rfl
theorem RelV.inj{x y:V}{u:UB}(r:RelV x u)(q:RelV y u):x=y:=Vx (r.abs.symm.trans q.abs)
theorem Vals.inj:∀ {xs ys:List V} {us:List UB},Vals xs us->Vals ys us->xs=ys
 | _,_,_,.nil,.nil=>rfl
 | _,_,_,.cons r t,.cons r' t'=>by rw [r.inj r',Vals.inj t t']
section
variable{X:Cx}{pins:List (UL×WK)}{σ:St}{H:Hp}{s:UG}{a:UL}{xs ys:List V}
theorem SqL.of{K:UF}(h:H a=U7 (.lst xs)):SqL K H a xs:=.inl (.inl h)
theorem Inv.list(I:Inv X pins σ H s)(h:SqL X.K H a xs):∃ its:List UB,Vals xs its/\PlainL s.heap a its.toArray/\xs.length<=Vc:=by
 rcases h with h | ⟨o,its,n,hk,hc,hd,hs,hz,r⟩
 ·obtain ⟨z,its,n,r,e⟩:=h.ok I.hok
  exact ⟨its,r,⟨_,n,e,rfl,rfl,rfl⟩,z⟩
 ·refine ⟨its.toList,r,⟨o,n,I.kIn a o hk,hc,hd,by simpa using hs⟩,?_⟩
  have e:=r.length
  simp only [Yk] at e
  omega
theorem Inv.tuple(I:Inv X pins σ H s)(h:SqT X.K H a xs):∃ its:List UB,Vals xs its/\Yg s.heap a its.toArray/\xs.length<=Vc:=by
 rcases h with h | ⟨o,its,n,hk,hc,hs,hz,r⟩
 ·obtain ⟨z,its,r,p⟩:=h.ok I.hok
  exact ⟨its,r,p,z.1⟩
 ·refine ⟨its.toList,r,⟨o,I.kIn a o hk,hc,n,by simpa using hs⟩,?_⟩
  have e:=r.length
  simp only [Yk] at e
  omega
theorem Inv.list_inj(I:Inv X pins σ H s)(h:SqL X.K H a xs)(h':SqL X.K H a ys):xs=ys:=by
 obtain ⟨its,r,⟨o,n,e,_,_,d⟩,_⟩:=I.list h
 obtain ⟨its',r',⟨o',n',e',_,_,d'⟩,_⟩:=I.list h'
 rw [e] at e';cases e'
 rw [d] at d'
 injection d' with d1 _
 have:its=its':=by simpa using congrArg Array.toList d1
 subst this
 exact r.inj r'
theorem Inv.tuple_inj(I:Inv X pins σ H s)(h:SqT X.K H a xs)(h':SqT X.K H a ys):xs=ys:=by
 obtain ⟨its,r,⟨o,e,_,n,d⟩,_⟩:=I.tuple h
 obtain ⟨its',r',⟨o',e',_,n',d'⟩,_⟩:=I.tuple h'
 rw [e] at e';cases e'
 rw [d] at d'
 injection d' with d1 _
 have:its=its':=by simpa using congrArg Array.toList d1
 subst this
 exact r.inj r'
end
section
variable{X:Cx}{st:VW}{rest:List VW}{t u:TS}{e:Vw}{te:TE}{pos:Xz}
noncomputable def tNext:TS:=λD σ H=>D.nx σ H
noncomputable def TR(t u:TS):TS:=λD σ H=>t {D with nx:=u D} σ H
theorem OO:PSs X [] tNext:=λ_ _ σ H _ I h=>YW ⟨σ,H,I,h⟩
theorem N2(h1:PS X st t)(h2:PSs X rest u):PSs X (st::rest) (TR t u):=by
 intro pins s σ H D I h
 refine wpAny_execs_cons (thn (h1 pins s σ H {D with nx:=u D} I h) λf s1 q=>?_)
 cases f with
 | next=>
  obtain ⟨σ',H',I',q⟩:=q
  exact h2 pins s1 σ' H' D I' q
 | ret v=>exact q
 | brk=>exact q
 | cont=>exact q
theorem Qf(h1:PS X st t):PSs X [st] t:=by
 intro pins s σ H D I h
 refine wpAny_execs_cons (thn (h1 pins s σ H D I h) λf s1 q=>?_)
 cases f with
 | next=>exact YW q
 | ret v=>exact q
 | brk=>exact q
 | cont=>exact q
theorem Inv.quiet{pins:List (UL×WK)}{σ:St}{H:Hp}{s:UG}(I:Inv X pins σ H s):interactive X.env=false:=by simp [interactive,I.ok.kind]
noncomputable def T4(te:TE):TS:=λD σ H=>te σ H λ_ H1=>D.nx σ H1
theorem pe(he:PE X e te)(hs:W7 e UA pos.line X.env=pure false:=by rfl):PS X (.Expr e pos) (T4 te):=by
 intro pins s σ H D I h
 exact wpAny_Expr_any (thn (he pins s σ H _ I h) λv s1 ⟨x,H1,I1,r1,q1⟩=>⟨σ,H1,I1,q1⟩) I.quiet hs
noncomputable def Uz(te:TE):TS:=λD σ H=>te σ H D.rt
theorem r9(he:PE X e te):PS X (.Return (U7 e) pos) (Uz te):=by
 intro pins s σ H D I h
 exact wpAny_Return_some (thn (he pins s σ H _ I h) λv s1 ⟨x,H1,I1,r1,q1⟩=>⟨x,σ,H1,I1,r1,q1⟩)
noncomputable def TL(c:TT)(t u:TS):TS:=λD σ H=>c σ H λb H1=>if b=true then t D σ H1 else u D σ H1
theorem Tf{c:Vw}{a b:List VW}{tc:TT}(hc:PT X c tc)(ha:PSs X a t)(hb:PSs X b u):PS X (.If c a b pos) (TL tc t u):=by
 intro pins s σ H D I h
 refine wpAny_If (thn (hc pins s σ H _ I h) λd s1 ⟨H1,I1,q1⟩=>?_)
 cases d with
 | true=>exact ha pins s1 σ H1 D I1 q1
 | false=>exact hb pins s1 σ H1 D I1 q1
end
abbrev TG:=V->St->Hp->(St->Hp->Prop)->Prop
abbrev TGs:=List V->St->Hp->(St->Hp->Prop)->Prop
noncomputable def PG(X:Cx)(target:Vw)(t:TG):Prop:=
 ∀ (pins:List (UL×WK)) (s:UG) (σ:St) (H:Hp) (v:V) (u:UB) (Q:St->Hp->Prop),Inv X pins σ H s->RelV v u->t v σ H Q->
  UZ (Vh X.prog X.w) X.A (assign target X.env u) (λ_ s'=>∃ σ' H',Inv X pins σ' H' s'/\Q σ' H') X.xe s
noncomputable def PGs(X:Cx)(ts:List Vw)(t:TGs):Prop:=
 ∀ (pins:List (UL×WK)) (s:UG) (σ:St) (H:Hp) (vs:List V) (us:List UB) (Q:St->Hp->Prop),Inv X pins σ H s->Vals vs us->t vs σ H Q->
  UZ (Vh X.prog X.w) X.A (assignInOrder ((YI ts X.env).map (·.2)) us) (λ_ s'=>∃ σ' H',Inv X pins σ' H' s'/\Q σ' H') X.xe s
section
variable{X:Cx}{pos:Xz}
noncomputable def Bg(i:Nat):TG:=λv σ H Q=>Q (σ.set i (U7 v)) H
theorem ph{i:Nat}{x:Vk}(hN:X.N.Nodup)(hi:X.N[i]? =U7 x)(hx:Loc X.env.scope x)(hf:X.fn x=true∨X.env.scope.names.lookup x=U7 .local:=by first | exact .inl rfl | exact .inr rfl | assumption):PG X (.Name x pos) (Bg i):=by
 intro pins s σ H v u Q I r h
 exact wpAny_assign_Name (Ht I hN hi hx r (λs' I'=>⟨_,H,I',h⟩) hf)
noncomputable def gNil:TGs:=λvs σ H Q=>vs=[]/\Q σ H
noncomputable def GI(t:TG)(u:TGs):TGs:=λvs σ H Q=>∃ v r,vs=v::r/\t v σ H λσ' H'=>u r σ' H' Q
theorem JY:PGs X [] gNil:=by
 intro pins s σ H vs us Q I r h
 obtain ⟨e,h⟩:=h
 subst e
 cases r
 exact assignInOrder_nil ⟨σ,H,I,h⟩
theorem Ar{e:Vw}{es:List Vw}{t:TG}{u:TGs}(h1:PG X e t)(h2:PGs X es u)
  (hs:(YI (e::es) X.env).map (·.2)=assign e X.env::(YI es X.env).map (·.2):=by rfl):PGs X (e::es) (GI t u):=by
 intro pins s σ H vs us Q I r h
 obtain ⟨v,vr,e1,h⟩:=h
 subst e1
 cases r with
 | cons r rr=>
  rw [hs]
  refine assignInOrder_cons (thn (h1 pins s σ H _ _ _ I r h) λ_ s1 ⟨σ1,H1,I1,q1⟩=>?_)
  exact h2 pins s1 σ1 H1 _ _ Q I1 rr q1
noncomputable def Sg(K:UF)(n:Nat)(t:TGs):TG:=λv σ H Q=>∃ a xs,v= .ref a/\SqT K H a xs/\xs.length=n/\t xs σ H Q
theorem Oi{es:List Vw}{k:Nat}{t:TGs}{n:Nat}(hc:X.calm=true)(h:PGs X es t)
  (hn:(YI es X.env).length=n:=by rfl) (hst:(YI es X.env).findIdx? (·.1)=UA:=by rfl):PG X (.Tuple es k pos) (Sg X.K n t):=by
 intro pins s σ H v u Q I r hw
 obtain ⟨a,xs,e1,hq,hl,hw⟩:=hw
 subst e1
 cases r
 obtain ⟨its,rv,ht,hz⟩:=I.tuple hq
 refine assign_Tuple_tuple (I.ok.hd hc) ht (by simp [hn,<- hl,rv.length]) hst λh' hx=>?_
 have I1:Inv X pins σ H {s with heap:=h'}:=I.kept (t':=s.toks) λb o e=>hx b o (Vt (UT e)) e
 exact h pins _ σ H xs _ Q I1 (by simpa using rv) hw
noncomputable def SJ(te:TE)(g:TG):TS:=λD σ H=>te σ H λx H1=>g x σ H1 D.nx
theorem R9{tg e:Vw}{te:TE}{g:TG}(he:PE X e te)(hg:PG X tg g)(hs:swapsWithSole [tg] e pos.line X.env=pure false:=by rfl)(hw:swappedStores [tg] e X.env=pure UA:=by rfl)
  (h1:(YI [tg] X.env).map (·.2)=[assign tg X.env]:=by rfl):PS X (.Assign [tg] e pos) (SJ te g):=by
 intro pins s σ H D I h
 refine wpAny_Assign_stores (thn (he pins s σ H _ I h) λv s1 ⟨x,H1,I1,r1,q1⟩=>?_) hs hw
 rw [h1]
 exact thn (hg pins s1 σ H1 x v _ I1 r1 q1) λ_ s2 q=>q
theorem sk{i:Nat}{x:Vk}{e:Vw}{te:TE}{pos':Xz}(hN:X.N.Nodup)(hi:X.N[i]? =U7 x)(hx:Loc X.env.scope x)(he:PE X e te)(hs:W7 e (U7 (.Name x pos')) pos.line X.env=pure false:=by rfl)(hf:X.fn x=true∨X.env.scope.names.lookup x=U7 .local:=by first | exact .inl rfl | exact .inr rfl | assumption):
  PS X (.Assign [.Name x pos'] e pos) (SJ te (Bg i)):=by
 intro pins s σ H D I h
 refine wpAny_Assign_Name (thn (he pins s σ H _ I h) λv s1 ⟨y,H1,I1,r1,q1⟩=>?_) hs
 exact Ht I1 hN hi hx r1 (λs2 I2=>⟨_,H1,I2,q1⟩) hf
end
section
variable{X:Cx}{pos:Xz}
noncomputable def Sf(c:TT)(tb:TS):TS:=λD σ H=>∃ W:Nat->St->Hp->Prop,(∃ m,W m σ H)/\∀ m σ H,W m σ H->
 c σ H λb H1=>if b=true then ∃ N:St->Hp->Prop,(∀ σ' H',N σ' H'->∃ m',m' < m/\W m' σ' H')/\tb {D with nx:=N,ct:=N,bk:=D.nx} σ H1 else D.nx σ H1
theorem MI{c:Vw}{body:List VW}{tc:TT}{tb:TS}(hp:Yz (Vh X.prog X.w) X.A X.env X.xe)(hc:PT X c tc)(hb:PSs X body tb):PS X (.While c body [] pos) (Sf tc tb):=by
 intro pins s σ H D I h
 obtain ⟨W,⟨m0,w0⟩,turn⟩:=h
 refine wpAny_While (codeAny_whileLoop (λn s'=>∃ σ' H',Inv X pins σ' H' s'/\W n σ' H') ?_ m0 ⟨σ,H,I,w0⟩)
 rintro n s1 ⟨σ1,H1,I1,w1⟩
 refine Xe hp (thn (hc pins s1 σ1 H1 _ I1 (turn n σ1 H1 w1)) λb s2 ⟨H2,I2,q2⟩=>?_)
 cases b with
 | true=>
  obtain ⟨N,hN,q2⟩:=q2
  rw [if_pos rfl]
  refine Xe hp (thn (hb pins s2 σ1 H2 _ I2 q2) λf s3 q3=>?_)
  cases f with
  | next=>
   obtain ⟨σ3,H3,I3,n3⟩:=q3
   obtain ⟨m',hm,w3⟩:=hN σ3 H3 n3
   exact ⟨m',hm,σ3,H3,I3,w3⟩
  | cont=>
   obtain ⟨σ3,H3,I3,n3⟩:=q3
   obtain ⟨m',hm,w3⟩:=hN σ3 H3 n3
   exact ⟨m',hm,σ3,H3,I3,w3⟩
  | brk=>exact q3
  | ret v=>exact q3
 | false=>
  rw [if_neg UY]
  exact YW ⟨σ1,H2,I2,q2⟩
end
structure It where
 go:Nat->Hp->Prop
 yld:Nat->Hp->V->Hp->Prop
 stop:Nat->Hp->Prop
noncomputable def E6(X:Cx)(pins:List (UL×WK))(H:Hp)(b:UL):Prop:=
 H b=UA/\b≠X.env.locals/\b∉X.fs/\(b∈X.ex∨X.s₀.heap.objs.size<=b)/\(∀ x c,X.env.cells.lookup x=U7 c->c≠b)/\∀ p∈X.pn++pins,p.1≠b
theorem Inv.fpOk{X:Cx}{pins:List (UL×WK)}{σ:St}{H H':Hp}{s:UG}{b:UL}(I:Inv X pins σ H s)(hb:s.heap.objs.size<=b)(hn:H' b=UA):E6 X pins H' b:=by
 refine ⟨hn,Wr (Vj I.lt hb),I.nofs hb,.inr (UU I.sz hb),λx c e z=>?_,λp hp z=>?_⟩
 ·obtain ⟨v,q⟩:=I.cell x c e
  exact absurd (Vj q.lt (by rw [z];exact hb)) (Wo _)
 ·exact absurd (Vj (UT (I.pin p hp).1) (by rw [z];exact hb)) (Wo _)
structure Turn(P:Vn)(w:Vz)(K:UF)(tg:Vw)(J:It)(fp:List UL)(it:UL)(tn:Nat->V1->Prop):Prop where
 mem:it∈fp
 obj:∀ i h,tn i h->∀ b∈fp,∃ o,h.get? b=U7 o/\∀ v,o.data≠.cell v
 keep:∀ i h h',tn i h->(∀ b∈fp,∀ o,h.get? b=U7 o->h'.get? b=U7 o)->tn i h'
 item:∀ (X:Cx),X.prog=P->X.w=w->X.K=K->X.calm=true->∀ (i:Nat) (pins:List (UL×WK)) (s:UG) (σ:St) (H:Hp) (E:UB->UG->Prop),Inv X pins σ H s->(∀ b∈fp,E6 X pins H b)->tn i s.heap->J.go i H->
  UZ (Vh P w) X.A (Zq (.ref it)) (λr s1=>∃ u,r=U7 u/\
   UZ (Vh P w) X.A (YX tg (.ref it) u) (λ_ s2=>∃ x H',Inv X pins σ H' s2/\RelV x u/\J.yld i H x H'/\tn (i+1) s2.heap/\∀ b∈fp,H' b=UA) E s1) E s
 done:∀ (X:Cx),X.prog=P->X.w=w->X.K=K->X.calm=true->∀ (i:Nat) (pins:List (UL×WK)) (s:UG) (σ:St) (H:Hp) (E:UB->UG->Prop),Inv X pins σ H s->(∀ b∈fp,E6 X pins H b)->tn i s.heap->J.stop i H->
  UZ (Vh P w) X.A (Zq (.ref it)) (λr s1=>r=UA/\Inv X pins σ H s1) E s
 self:∀ (A:VG) (i:Nat) (s:UG) (Q:UB->UG->Prop) (E:UB->UG->Prop),tn i s.heap->Q (.ref it) s->UZ (Vh P w) A (pyIter (.ref it)) Q E s
abbrev TI:=St->Hp->(It->Hp->Prop)->Prop
noncomputable def PIE(X:Cx)(pins:List (UL×WK))(σ:St)(tg:Vw)(R:It->Hp->Prop)(itv:UB)(s2:UG):Prop:=
 ∃ (it:UL) (fp:List UL) (tn:Nat->V1->Prop) (J:It) (H':Hp),itv= .ref it/\Inv X pins σ H' s2/\Turn X.prog X.w X.K tg J fp it tn/\tn 0 s2.heap/\(∀ b∈fp,E6 X pins H' b)/\R J H'
noncomputable def PI(X:Cx)(tg iter:Vw)(wi:TI):Prop:=
 ∀ (pins:List (UL×WK)) (s:UG) (σ:St) (H:Hp) (R:It->Hp->Prop),Inv X pins σ H s->wi σ H R->
  UZ (Vh X.prog X.w) X.A (VN iter X.env) (λv s1=>UZ (Vh X.prog X.w) X.A (pyIter v) (PIE X pins σ tg R) X.xe s1) X.xe s
theorem K5{M:Model}{A:VG}{E:UB->UG->Prop}{s:UG}{tg:Vw}{it:UL}{u:UB}{o:WK}{n:String}{vs:Array UB}{Q:Unit->UG->Prop}(ho:s.heap.get? it=U7 o)(hc:o.cls= .type n)(hd:o.data= .fields vs)
  (hn:["enumerate","zip","dict_itemiterator","dict_reverseitemiterator","odict_iterator","itertools.zip_longest","itertools.pairwise"].contains n=false) (hQ:Q () s):UZ M A (YX tg (.ref it) u) Q E s:=by
 unfold YX
 cases tg<;>first
  | exact UK hQ
  | (cases u<;>first
      | exact UK hQ
      | (refine U9 (wpAny_load ho ?_)
         rw [hc,hd]
         show UZ M A (if (["enumerate","zip","dict_itemiterator","dict_reverseitemiterator","odict_iterator","itertools.zip_longest","itertools.pairwise"].contains n && vs[0]? == U7 (XR _))=true then _ else _) Q E s
         rw [if_neg (by intro h;rw [hn,Bool.false_and] at h;cases h)]
         exact UK hQ))
noncomputable def Itl(K:UF)(a:UL):It:=
 ⟨λi H=>∃ xs x,SqL K H a xs/\xs[i]? =U7 x,λi H x H'=>H'=H/\∀ xs,SqL K H a xs->xs[i]? =U7 x,λi H=>∃ xs,SqL K H a xs/\xs.length<=i⟩
noncomputable def Itt(K:UF)(a:UL):It:=
 ⟨λi H=>∃ xs x,SqT K H a xs/\xs[i]? =U7 x,λi H x H'=>H'=H/\∀ xs,SqT K H a xs->xs[i]? =U7 x,λi H=>∃ xs,SqT K H a xs/\xs.length<=i⟩
noncomputable def Itr(lo:Int)(n:Nat):It:=⟨λi _=>i < n,λi H x H'=>H'=H/\x= .int (lo+i),λi _=>n<=i⟩
theorem KJ{P:Vn}{w:Vz}{K:UF}{tg:Vw}(a it:UL):Turn P w K tg (Itl K a) [it] it (λi h=>h.IsListIter it a i) where
 mem:=by simp
 obj:=λi h st b hb=>by
  have e:b=it:=by simpa using hb
  subst e
  obtain ⟨o,e,c,d⟩:=st
  exact ⟨o,e,λv z=>by rw [d] at z;cases z⟩
 keep:=λi h h' st k=>st.at λo e=>k it (by simp) o e
 item:=by
  intro X hP hw hK hc i pins s σ H E I hf st hg
  subst hP hw hK
  obtain ⟨xs,x,hq,hx⟩:=hg
  obtain ⟨its,rv,p,hz⟩:=I.list hq
  obtain ⟨u,hu,ru⟩:=rv.get hx
  obtain ⟨f0,f1,f2,f3,f4,f5⟩:=hf it (by simp)
  refine wpAny_pyNext_list_item st p.isList (x:=u) (by simpa using hu) λh' st' sb=>?_
  have I1:Inv X pins σ H {s with heap:=h'}:=I.turned (t':=s.toks) (λb o hb e=>(sb.2 b hb).trans e) f0 f1 f3 f4 f5
  obtain ⟨o,e,c,d⟩:=id st'
  exact ⟨u,rfl,K5 (s:={s with heap:=h'}) e c d (by decide) ⟨x,H,I1,ru,⟨rfl,λys hy=>by rw [I.list_inj hy hq];exact hx⟩,st',λb hb=>(hf b hb).1⟩⟩
 done:=by
  intro X hP hw hK hc i pins s σ H E I hf st hg
  subst hP hw hK
  obtain ⟨xs,hq,hx⟩:=hg
  obtain ⟨its,rv,p,hz⟩:=I.list hq
  obtain ⟨f0,f1,f2,f3,f4,f5⟩:=hf it (by simp)
  have hl:=rv.length
  exact wpAny_pyNext_list_end (I.ok.hd hc) st p.isList (by simp;omega) λh' eb=>⟨rfl,I.turned (t':=s.toks) (λb o hb e=>eb b o hb e) f0 f1 f3 f4 f5⟩
 self:=λ_ _ _ _ _ st h=>wpAny_pyIter_listiter st h
theorem Ja{P:Vn}{w:Vz}{K:UF}{tg:Vw}(a it:UL):Turn P w K tg (Itt K a) [it] it (λi h=>h.IsTupleIter it a i) where
 mem:=by simp
 obj:=λi h st b hb=>by
  have e:b=it:=by simpa using hb
  subst e
  obtain ⟨o,e,c,d⟩:=st
  exact ⟨o,e,λv z=>by rw [d] at z;cases z⟩
 keep:=λi h h' st k=>st.at λo e=>k it (by simp) o e
 item:=by
  intro X hP hw hK hc i pins s σ H E I hf st hg
  subst hP hw hK
  obtain ⟨xs,x,hq,hx⟩:=hg
  obtain ⟨its,rv,p,hz⟩:=I.tuple hq
  obtain ⟨u,hu,ru⟩:=rv.get hx
  obtain ⟨f0,f1,f2,f3,f4,f5⟩:=hf it (by simp)
  refine wpAny_pyNext_tuple_item st (show s.heap.IsTuple a its.toArray from p) (x:=u) (by simpa using hu) λh' st' sb=>?_
  have I1:Inv X pins σ H {s with heap:=h'}:=I.turned (t':=s.toks) (λb o hb e=>(sb.2 b hb).trans e) f0 f1 f3 f4 f5
  obtain ⟨o,e,c,d⟩:=id st'
  exact ⟨u,rfl,K5 (s:={s with heap:=h'}) e c d (by decide) ⟨x,H,I1,ru,⟨rfl,λys hy=>by rw [I.tuple_inj hy hq];exact hx⟩,st',λb hb=>(hf b hb).1⟩⟩
 done:=by
  intro X hP hw hK hc i pins s σ H E I hf st hg
  subst hP hw hK
  obtain ⟨xs,hq,hx⟩:=hg
  obtain ⟨its,rv,p,hz⟩:=I.tuple hq
  obtain ⟨f0,f1,f2,f3,f4,f5⟩:=hf it (by simp)
  have hl:=rv.length
  exact wpAny_pyNext_tuple_end (I.ok.hd hc) st (show s.heap.IsTuple a its.toArray from p) (by simp;omega) λh' eb=>⟨rfl,I.turned (t':=s.toks) (λb o hb e=>eb b o hb e) f0 f1 f3 f4 f5⟩
 self:=λ_ _ _ _ _ st h=>wpAny_pyIter_tupleiter st h
theorem Jk{P:Vn}{w:Vz}{K:UF}{tg:Vw}(it:UL)(lo:Int)(n:Nat):Turn P w K tg (Itr lo n) [it] it (λi h=>IsRangeIter h it (lo+(i:Nat) * 1) ((n:Int) - (i:Nat)) 1) where
 mem:=by simp
 obj:=λi h st b hb=>by
  have e:b=it:=by simpa using hb
  subst e
  exact ⟨_,st,λv z=>by
   have z':Data.fields _=Data.cell v:=z
   cases z'⟩
 keep:=λi h h' st k=>k it (by simp) _ st
 item:=by
  intro X hP hw hK hc i pins s σ H E I hf st hg
  subst hP hw hK
  obtain ⟨f0,f1,f2,f3,f4,f5⟩:=hf it (by simp)
  have W:=Walks.range (prog:=X.prog) (w:=X.w) (I.ok.hd hc) it lo 1 n
  refine W.item i s _ _ hg st λv h' tk hv st' kk=>?_
  obtain ⟨t,rfl⟩:=hv
  have I1:Inv X pins σ H {s with heap:=h',toks:=tk}:=I.turned (λb o hb e=>kk b o (by simpa using hb) e) f0 f1 f3 f4 f5
  refine ⟨_,rfl,K5 (s:={s with heap:=h',toks:=tk}) (n:="range_iterator") st' rfl rfl (by decide) ⟨.int (lo+i),H,I1,⟨t,?_⟩,⟨rfl,rfl⟩,st',λb hb=>(hf b hb).1⟩⟩
  rw [Int.mul_one]
 done:=by
  intro X hP hw hK hc i pins s σ H E I hf st hg
  subst hP hw hK
  obtain ⟨f0,f1,f2,f3,f4,f5⟩:=hf it (by simp)
  exact wpAny_pyNext_range_end (I.ok.hd hc) st (by have:n<=i:=hg;omega) λh' eb=>⟨rfl,I.turned (t':=s.toks) (λb o hb e=>eb b o hb e) f0 f1 f3 f4 f5⟩
 self:=λ_ _ _ _ _ st h=>wpAny_pyIter_rangeiter st h
end L2
namespace L2
open PySem PySem.Spec PyProof.Rows
section
variable{X:Cx}{tg:Vw}
noncomputable def SY(K:UF)(tl:TE):TI:=λσ H R=>tl σ H λx H1=>∃ a,x= .ref a/\(∃ xs,SqL K H1 a xs)/\R (Itl K a) H1
noncomputable def TU(K:UF)(tl:TE):TI:=λσ H R=>tl σ H λx H1=>∃ a,x= .ref a/\(∃ xs,SqT K H1 a xs)/\R (Itt K a) H1
theorem J8{l:Vw}{tl:TE}(hl:PE X l tl):PI X tg l (SY X.K tl):=by
 intro pins s σ H R I h
 refine thn (hl pins s σ H _ I h) λv s1 ⟨x,H1,I1,r1,q1⟩=>?_
 obtain ⟨a,e,⟨xs,hq⟩,q⟩:=q1
 subst e
 cases r1
 obtain ⟨its,rv,p,hz⟩:=I1.list hq
 refine wpAny_pyIter_list p.isList ?_
 refine ⟨s1.heap.objs.size,[s1.heap.objs.size],_,_,H1,rfl,I1.kept (t':=s1.toks) λb o e=>UH _ e,KJ a _,⟨_,US _ rfl,rfl,rfl⟩,λb hb=>?_,q⟩
 have e:b=s1.heap.objs.size:=by simpa using hb
 subst e
 exact I1.fpOk (UI _) (I1.hok.fresh (UI _))
theorem Iv{l:Vw}{tl:TE}(hl:PE X l tl):PI X tg l (TU X.K tl):=by
 intro pins s σ H R I h
 refine thn (hl pins s σ H _ I h) λv s1 ⟨x,H1,I1,r1,q1⟩=>?_
 obtain ⟨a,e,⟨xs,hq⟩,q⟩:=q1
 subst e
 cases r1
 obtain ⟨its,rv,p,hz⟩:=I1.tuple hq
 refine wpAny_pyIter_tuple (show s1.heap.IsTuple a its.toArray from p) ?_
 refine ⟨s1.heap.objs.size,[s1.heap.objs.size],_,_,H1,rfl,I1.kept (t':=s1.toks) λb o e=>UH _ e,Ja a _,⟨_,US _ rfl,rfl,rfl⟩,λb hb=>?_,q⟩
 have e:b=s1.heap.objs.size:=by simpa using hb
 subst e
 exact I1.fpOk (UI _) (I1.hok.fresh (UI _))
theorem M8{pins:List (UL×WK)}{σ:St}{H:Hp}{s:UG}{R:It->Hp->Prop}{E:UB->UG->Prop}{lo hi:Int}{t u v:Tok}{tk:Nat}(I:Inv X pins σ H s)(h1:-(2 ^ 62)<=lo)(h2:lo < 2 ^ 62)(h3:-(2 ^ 62)<=hi)(h4:hi < 2 ^ 62)
  (q:R (Itr lo (hi - lo).toNat) H):UZ (Vh X.prog X.w) X.A (pyIter (.ref s.heap.objs.size)) (PIE X pins σ tg R) E {s with heap:=s.heap.push {cls:=.type "range",data:=.fields #[.int lo t,.int hi u,.int 1 v]},toks:=tk}:=by
 refine wpAny_pyIter_range (IsRange.new ..) (small_one h1 h2 h3 h4) ?_
 have I1:Inv X pins σ H {s with heap:=s.heap.push {cls:=.type "range",data:=.fields #[.int lo t,.int hi u,.int 1 v]},toks:=tk}:=I.kept λb o e=>UH _ e
 refine ⟨(s.heap.push {cls:=.type "range",data:=.fields #[.int lo t,.int hi u,.int 1 v]}).objs.size,[(s.heap.push {cls:=.type "range",data:=.fields #[.int lo t,.int hi u,.int 1 v]}).objs.size],_,_,H,rfl,
  I1.kept (t':=tk) λb o e=>UH _ e,Jk _ lo (hi - lo).toNat,?_,λb hb=>?_,q⟩
 ·have e1:lo+((0:Nat):Int) * 1=lo:=by simp
  have e2:(((hi - lo).toNat:Nat):Int) - ((0:Nat):Int)=Vo.Range.rangeSize lo hi 1:=by rw [rangeSize_one];split<;>omega
  show IsRangeIter _ _ (lo+((0:Nat):Int) * 1) ((((hi - lo).toNat:Nat):Int) - ((0:Nat):Int)) 1
  rw [e1,e2]
  exact US _ rfl
 ·have e:b=(s.heap.push {cls:=.type "range",data:=.fields #[.int lo t,.int hi u,.int 1 v]}).objs.size:=by simpa using hb
  subst e
  exact I1.fpOk (UI _) (I1.hok.fresh (UI _))
noncomputable def T8(ta:TA):TI:=λσ H R=>ta σ H λvs H1=>∃ j:Int,vs=[.int j]/\-(2 ^ 62)<=j/\j < 2 ^ 62/\R (Itr 0 j.toNat) H1
theorem L8{a:Vw}{ta:TA}{p pos:Xz}(hg:Gl X "range")(hm:X.mg "range" =UA)(ha:PA X [a] ta)(hs:UJ [a] X.env=[(false,VN a X.env)]:=by rfl):PI X tg (.Call (.Name "range" p) [a] [] pos) (T8 ta):=by
 intro pins s σ H R I h
 refine Call_ (oj I hg hm boot_range (Wg (thn (ha pos pins s σ H _ I h) λus s1 ⟨vs,H1,I1,r1,q1⟩=>?_) hs rfl))
 obtain ⟨j,e,q1,q2,q⟩:=q1
 subst e
 cases r1 with
 | cons r rr=>
  cases rr
  obtain ⟨t,rfl⟩:=r
  exact call_range_1 (M8 I1 (by omega) (by omega) q1 q2 (by simpa using q))
noncomputable def Uh(wi:TI)(g:TG)(tb:TS):TS:=λD σ H=>wi σ H λJ H1=>∃ W:Nat->Nat->St->Hp->Prop,(∃ m,W 0 m σ H1)/\∀ i m σ H,W i m σ H->
 (J.stop i H/\D.nx σ H)∨(J.go i H/\∃ N:St->Hp->Prop,(∀ σ' H',N σ' H'->∃ m',m' < m/\W (i+1) m' σ' H')/\∀ x H',J.yld i H x H'->g x σ H' λσ2 H2=>tb {D with nx:=N,ct:=N,bk:=D.nx} σ2 H2)
noncomputable def Fl(fp:List UL)(h:V1):List (UL×WK):=fp.filterMap λb=>(h.get? b).map λo=>(b,o)
theorem ug{fp:List UL}{h:V1}{b:UL}{o:WK}(hb:b∈fp)(e:h.get? b=U7 o):(b,o)∈Fl fp h:=List.mem_filterMap.mpr ⟨b,hb,by rw [e];rfl⟩
theorem L3{fp:List UL}{h:V1}{p:UL×WK}(hp:p∈Fl fp h):p.1∈fp/\h.get? p.1=U7 p.2:=by
 obtain ⟨b,hb,e⟩:=List.mem_filterMap.mp hp
 cases q:h.get? b with
 | none=>rw [q] at e;cases e
 | some o=>
  rw [q] at e
  have e':(b,o)=p:=Vx e
  subst e'
  exact ⟨hb,q⟩
theorem Inv.pinned{pins:List (UL×WK)}{σ:St}{H:Hp}{s:UG}{fp:List UL}(I:Inv X pins σ H s)(hf:∀ b∈fp,E6 X pins H b)(ho:∀ b∈fp,∃ o,s.heap.get? b=U7 o/\∀ v,o.data≠.cell v):Inv X (pins++Fl fp s.heap) σ H s:=
 I.pins_of λp hp=>(VT.mp hp).elim (λz=>I.pin p (Vp _ z)) λz=>by
  obtain ⟨hb,e⟩:=L3 z
  obtain ⟨f0,f1,f2,_⟩:=hf p.1 hb
  obtain ⟨o,e',d⟩:=ho p.1 hb
  rw [e] at e';cases e'
  exact ⟨e,f0,f1,f2,d⟩
theorem Inv.unpinned{pins pl:List (UL×WK)}{σ:St}{H:Hp}{s:UG}(I:Inv X (pins++pl) σ H s):Inv X pins σ H s:=I.pins_of λp hp=>I.pin p (Vp _ (XX _ hp))
theorem Js{iter:Vw}{body:List VW}{wi:TI}{g:TG}{tb:TS}{pos:Xz}(hp:Yz (Vh X.prog X.w) X.A X.env X.xe)(hc:X.calm=true)(hi:PI X tg iter wi)(hg:PG X tg g)(hb:PSs X body tb)
  (hs:∀ x,Xh iter X.env x=pure x:=by intro _;rfl):PS X (.For tg iter body [] pos) (Uh wi g tb):=by
 intro pins s σ H D I h
 refine wpAny_For (thn (hi pins s σ H _ I h) λv s1 h1=>thn h1 λitv s2 h2=>?_) hs
 obtain ⟨it,fp,tn,J,H2,e,I2,T,st2,f2,W,⟨m0,w0⟩,turn⟩:=h2
 subst e
 have stat:∀ {H':Hp},(∀ b∈fp,H' b=UA)->∀ b∈fp,E6 X pins H' b:=λhn b hb=>⟨hn b hb,(f2 b hb).2⟩
 refine codeAny_forLoop_any (λn s'=>∃ i σ' H',Inv X pins σ' H' s'/\tn i s'.heap/\(∀ b∈fp,H' b=UA)/\W i n σ' H') ?_ m0 ⟨0,σ,H2,I2,st2,λb hb=>(f2 b hb).1,w0⟩
 rintro n s3 ⟨i,σ3,H3,I3,st3,fr3,w3⟩
 rcases turn i n σ3 H3 w3 with ⟨stop,qn⟩ | ⟨go,N,hN,step⟩
 ·refine Xe hp (thn (T.done X rfl rfl rfl hc i pins s3 σ3 H3 X.xe I3 (stat fr3) st3 stop) λr s4 ⟨hr,I4⟩=>?_)
  subst hr
  exact YW ⟨σ3,H3,I4,qn⟩
 ·refine Xe hp (thn (T.item X rfl rfl rfl hc i pins s3 σ3 H3 X.xe I3 (stat fr3) st3 go) λr s4 ⟨u,hr,h4⟩=>?_)
  subst hr
  refine Xe hp (thn h4 λ_ s5 ⟨x,H5,I5,r5,y5,st5,fr5⟩=>?_)
  have I5':=I5.pinned (stat fr5) (T.obj _ _ st5)
  refine Xe hp (thn (hg _ s5 σ3 H5 x u _ I5' r5 (step x H5 y5)) λ_ s6 ⟨σ6,H6,I6,q6⟩=>?_)
  refine Xe hp (thn (hb _ s6 σ6 H6 _ I6 q6) λf s7 q7=>?_)
  have again:∀ {σ7:St} {H7:Hp},Inv X (pins++Fl fp s5.heap) σ7 H7 s7->N σ7 H7->∃ m,m < n/\∃ i σ' H',Inv X pins σ' H' s7/\tn i s7.heap/\(∀ b∈fp,H' b=UA)/\W i m σ' H':=λ{σ7 H7} I7 n7=>by
   obtain ⟨m',hm,w7⟩:=hN σ7 H7 n7
   refine ⟨m',hm,i+1,σ7,H7,I7.unpinned,T.keep _ _ _ st5 λb hb o e=>(I7.pin (b,o) (Vp _ (Vp _ (ug hb e)))).1,λb hb=>?_,w7⟩
   obtain ⟨o,e,d⟩:=T.obj _ _ st5 b hb
   exact (I7.pin (b,o) (Vp _ (Vp _ (ug hb e)))).2.1
  cases f with
  | next=>obtain ⟨σ7,H7,I7,n7⟩:=q7;exact again I7 n7
  | cont=>obtain ⟨σ7,H7,I7,n7⟩:=q7;exact again I7 n7
  | brk=>obtain ⟨σ7,H7,I7,q7⟩:=q7;exact ⟨σ7,H7,I7.unpinned,q7⟩
  | ret v=>obtain ⟨x7,σ7,H7,I7,r7,q7⟩:=q7;exact ⟨x7,σ7,H7,I7.unpinned,r7,q7⟩
end
end L2
namespace L2
open PySem PySem.Spec PyProof.Rows
abbrev R2:=V->V->Hp->VK->Prop
noncomputable def OpR(X:Cx)(f:UB->UB->Sem UB)(r:R2):Prop:=
 ∀ (pins:List (UL×WK)) (s:UG) (σ:St) (H:Hp) (x y:V) (v u:UB) (Q:VK),Inv X pins σ H s->RelV x v->RelV y u->r x y H Q->
  UZ (Vh X.prog X.w) X.A (f v u) (EP X pins σ Q) X.xe s
noncomputable def UnR(X:Cx)(f:UB->Sem UB)(r:V->Hp->VK->Prop):Prop:=
 ∀ (pins:List (UL×WK)) (s:UG) (σ:St) (H:Hp) (x:V) (v:UB) (Q:VK),Inv X pins σ H s->RelV x v->r x H Q->
  UZ (Vh X.prog X.w) X.A (f v) (EP X pins σ Q) X.xe s
noncomputable def CallR(X:Cx)(f:UB)(r:List V->Hp->VK->Prop):Prop:=
 ∀ (pins:List (UL×WK)) (s:UG) (σ:St) (H:Hp) (xs:List V) (us:List UB) (Q:VK),Inv X pins σ H s->Vals xs us->r xs H Q->
  UZ (Vh X.prog X.w) X.A (call f us) (EP X pins σ Q) X.xe s
noncomputable def tOp(r:R2)(ta tb:TE):TE:=λσ H Q=>ta σ H λx H1=>tb σ H1 λy H2=>r x y H2 Q
noncomputable def tUn(r:V->Hp->VK->Prop)(ta:TE):TE:=λσ H Q=>ta σ H λx H1=>r x H1 Q
noncomputable def rI(C:Int->Int->Prop)(g:Int->Int->V):R2:=λx y H Q=>∃ i j,x= .int i/\y= .int j/\C i j/\Q (g i j) H
noncomputable def rI0(g:Int->Int->V):R2:=λx y H Q=>∃ i j,x= .int i/\y= .int j/\Q (g i j) H
noncomputable def rU(g:Int->V):V->Hp->VK->Prop:=λx H Q=>∃ i,x= .int i/\Q (g i) H
section
variable{X:Cx}{a b c:Vw}{ta tb tc:TE}{pos:Xz}
theorem QZ(ha:PE X a ta)(hb:PE X b tb){pins:List (UL×WK)}{s:UG}{σ:St}{H:Hp}{R:V->V->Hp->Prop}(I:Inv X pins σ H s)
  (h:ta σ H λx H1=>tb σ H1 λy H2=>R x y H2) {Q:UB->UG->Prop} {f:UB->UB->Sem UB}
  (hf:∀ v u s2 x y H2,Inv X pins σ H2 s2->RelV x v->RelV y u->R x y H2->UZ (Vh X.prog X.w) X.A (f v u) Q X.xe s2):
  UZ (Vh X.prog X.w) X.A (VN a X.env) (λv s₁=>UZ (Vh X.prog X.w) X.A (VN b X.env) (λu s₂=>UZ (Vh X.prog X.w) X.A (f v u) Q X.xe s₂) X.xe s₁) X.xe s:=by
 refine thn (ha pins s σ H _ I h) λv s1 ⟨x,H1,I1,r1,q1⟩=>?_
 refine thn (hb pins s1 σ H1 _ I1 q1) λu s2 ⟨y,H2,I2,r2,q2⟩=>?_
 exact hf v u s2 x y H2 I2 r1 r2 q2
theorem Mx{op:Operator}{r:R2}(ho:OpR X (WN op) r)(ha:PE X a ta)(hb:PE X b tb):PE X (.BinOp a op b pos) (tOp r ta tb):=by
 intro pins s σ H Q I h
 exact wpAny_BinOp (QZ ha hb I h λv u s2 x y H2 I2 rx ry q=>ho pins s2 σ H2 x y v u Q I2 rx ry q)
theorem SN{op:UnaryOp}{r:V->Hp->VK->Prop}(ho:UnR X (unaryOp op) r)(ha:PE X a ta):PE X (.UnaryOp op a pos) (tUn r ta):=by
 intro pins s σ H Q I h
 exact UnaryOp_ (thn (ha pins s σ H _ I h) λv s1 ⟨x,H1,I1,r1,q1⟩=>ho pins s1 σ H1 x v Q I1 r1 q1)
theorem opI{f:UB->UB->Sem UB}{C:Int->Int->Prop}{g:Int->Int->Int}
  (rule:∀ (i j:Int) (t u:Tok) (s:UG) (Q:UB->UG->Prop) (E:UB->UG->Prop),C i j->Q (.int (g i j) s.toks) {s with toks:=s.toks+1}->UZ (Vh X.prog X.w) X.A (f (.int i t) (.int j u)) Q E s):
  OpR X f (rI C λi j=>.int (g i j)):=by
 intro pins s σ H x y v u Q I rx ry h
 obtain ⟨i,j,rfl,rfl,hc,q⟩:=h
 obtain ⟨t,rfl⟩:=rx
 obtain ⟨t',rfl⟩:=ry
 exact rule i j t t' s _ _ hc ⟨.int (g i j),H,I.tok _,⟨_,rfl⟩,q⟩
theorem SK{f:UB->UB->Sem UB}{g:Int->Int->Int}
  (rule:∀ (i j:Int) (t u:Tok) (s:UG) (Q:UB->UG->Prop) (E:UB->UG->Prop),Q (.int (g i j) s.toks) {s with toks:=s.toks+1}->UZ (Vh X.prog X.w) X.A (f (.int i t) (.int j u)) Q E s):
  OpR X f (rI0 λi j=>.int (g i j)):=by
 intro pins s σ H x y v u Q I rx ry h
 obtain ⟨i,j,rfl,rfl,q⟩:=h
 obtain ⟨t,rfl⟩:=rx
 obtain ⟨t',rfl⟩:=ry
 exact rule i j t t' s _ _ ⟨.int (g i j),H,I.tok _,⟨_,rfl⟩,q⟩
theorem Rg{f:UB->UB->Sem UB}{g:Int->Int->Bool}
  (rule:∀ (i j:Int) (t u:Tok) (s:UG) (Q:UB->UG->Prop) (E:UB->UG->Prop),Q (.bool (g i j)) s->UZ (Vh X.prog X.w) X.A (f (.int i t) (.int j u)) Q E s):
  OpR X f (rI0 λi j=>.bl (g i j)):=by
 intro pins s σ H x y v u Q I rx ry h
 obtain ⟨i,j,rfl,rfl,q⟩:=h
 obtain ⟨t,rfl⟩:=rx
 obtain ⟨t',rfl⟩:=ry
 exact rule i j t t' s _ _ ⟨.bl (g i j),H,I,rfl,q⟩
noncomputable def Uv(i j:Int):Prop:=0<=j/\j<=1000000/\i.natAbs < 2 ^ 64
theorem op_add:OpR X (WN .Add) (rI0 λi j=>.int (i+j)):=SK λ_ _ _ _ _ _ _ q=>add_int q
theorem RG:OpR X (WN .Sub) (rI0 λi j=>.int (i - j)):=SK λ_ _ _ _ _ _ _ q=>sub_int q
theorem Ri:OpR X (WN .Mod) (rI (λ_ j=>0 < j) λi j=>.int (i % j)):=opI λi j _ _ _ _ _ hc q=>by
 have h1:(0:Int) < j:=hc
 exact mod_int' (by omega) (by rw [Int.fmod_eq_emod_of_nonneg i (by omega)];exact q)
theorem Sv:OpR X (WN .Pow) (rI Uv λi j=>.int (i ^ j.toNat)):=opI λ_ _ _ _ _ _ _ hc q=>pow_int_small hc.1 hc.2.1 hc.2.2 q
theorem unI{f:UB->Sem UB}{g:Int->Int}
  (rule:∀ (i:Int) (t:Tok) (s:UG) (Q:UB->UG->Prop) (E:UB->UG->Prop),Q (.int (g i) s.toks) {s with toks:=s.toks+1}->UZ (Vh X.prog X.w) X.A (f (.int i t)) Q E s):
  UnR X f (rU λi=>.int (g i)):=by
 intro pins s σ H x v Q I rx h
 obtain ⟨i,rfl,q⟩:=h
 obtain ⟨t,rfl⟩:=rx
 exact rule i t s _ _ ⟨.int (g i),H,I.tok _,⟨_,rfl⟩,q⟩
theorem R4:UnR X (unaryOp .USub) (rU λi=>.int (-i)):=unI λ_ _ _ _ _ q=>neg_int q
end
noncomputable def Th:V->V->Bool
 | .non,.non=>true | .non,.int _=>true | .int _,.non=>true | .non,.bl _=>true | .bl _,.non=>true | .non,.str _=>true | .str _,.non=>true
 | .int _,.int _=>true | .bl _,.bl _=>true | .str _,.str _=>true | .byt _,.byt _=>true
 | .int _,.str _=>true | .str _,.int _=>true | .bl _,.str _=>true | .str _,.bl _=>true
 | _,_=>false
noncomputable def rEq:R2:=λx y H Q=>Th x y=true/\Q (.bl (decide (x=y))) H
noncomputable def rNe:R2:=λx y H Q=>Th x y=true/\Q (.bl (!decide (x=y))) H
theorem B2{i j:Int}:decide (V.int i=V.int j)=(i == j):=by
 rw [YY]
 simp
theorem EX{i j:Bool}:decide (V.bl i=V.bl j)=(i == j):=by
 rw [YY]
 simp
theorem BE{i j:Vk}:decide (V.str i=V.str j)=(i == j):=by
 rw [YY]
 simp
theorem JT{i j:Array UInt8}:decide (V.byt i=V.byt j)=(i.toList == j.toList):=by
 rw [YY]
 cases i
 cases j
 simp
section
variable{X:Cx}{a b c:Vw}{ta tb tc:TE}{pos:Xz}
theorem j5{pins:List (UL×WK)}{σ:St}{H:Hp}{s:UG}{Q:VK}{k k':Bool}(I:Inv X pins σ H s)(q:Q (.bl k) H)(e:k=k'):EP X pins σ Q (.bool k') s:=by
 subst e
 exact ⟨.bl k,H,I,rfl,q⟩
theorem op_eq:OpR X (VZ .Eq) rEq:=by
 intro pins s σ H x y v u Q I rx ry h
 obtain ⟨hs,q⟩:=h
 cases x with
 | non=>
  cases rx
  cases y with
  | non=>cases ry;exact PySem.EqNone.eq_none_none (j5 I q (by simp))
  | bl j=>cases ry;exact PySem.EqNone.eq_none_bool (j5 I q (by simp))
  | int j=>obtain ⟨t',rfl⟩:=ry;exact PySem.EqNone.eq_none_int (j5 I q (by simp))
  | str j=>obtain ⟨t',rfl⟩:=ry;exact PySem.EqNone.eq_none_str (j5 I q (by simp))
  | _=>exact absurd (show false=true from hs) UY
 | bl i=>
  cases rx
  cases y with
  | non=>cases ry;exact PySem.EqNone.eq_bool_none (j5 I q (by simp))
  | bl j=>cases ry;exact eq_bool (j5 I q EX)
  | str j=>obtain ⟨t',rfl⟩:=ry;exact PySem.EqMixed.eq_bool_str (j5 I q (by simp))
  | _=>exact absurd (show false=true from hs) UY
 | int i=>
  obtain ⟨t,rfl⟩:=rx
  cases y with
  | non=>cases ry;exact PySem.EqNone.eq_int_none (j5 I q (by simp))
  | int j=>obtain ⟨t',rfl⟩:=ry;exact eq_int (j5 I q B2)
  | str j=>obtain ⟨t',rfl⟩:=ry;exact PySem.EqMixed.eq_int_str (j5 I q (by simp))
  | _=>exact absurd (show false=true from hs) UY
 | str i=>
  obtain ⟨t,rfl⟩:=rx
  cases y with
  | non=>cases ry;exact PySem.EqNone.eq_str_none (j5 I q (by simp))
  | bl j=>cases ry;exact PySem.EqMixed.eq_str_bool (j5 I q (by simp))
  | int j=>obtain ⟨t',rfl⟩:=ry;exact PySem.EqMixed.eq_str_int (j5 I q (by simp))
  | str j=>obtain ⟨t',rfl⟩:=ry;exact eq_str (j5 I q BE)
  | _=>exact absurd (show false=true from hs) UY
 | byt i=>
  obtain ⟨t,rfl⟩:=rx
  cases y with
  | byt j=>obtain ⟨t',rfl⟩:=ry;exact PySem.W.eq_bytes (j5 I q JT)
  | _=>exact absurd (show false=true from hs) UY
 | _=>cases y<;>exact absurd (show false=true from hs) UY
theorem op_ne:OpR X (VZ .NotEq) rNe:=by
 intro pins s σ H x y v u Q I rx ry h
 obtain ⟨hs,q⟩:=h
 cases x with
 | non=>
  cases rx
  cases y with
  | non=>cases ry;exact PySem.EqNone.ne_none_none (j5 I q (by simp))
  | bl j=>cases ry;exact PySem.EqNone.ne_none_bool (j5 I q (by simp))
  | int j=>obtain ⟨t',rfl⟩:=ry;exact PySem.EqNone.ne_none_int (j5 I q (by simp))
  | str j=>obtain ⟨t',rfl⟩:=ry;exact PySem.EqNone.ne_none_str (j5 I q (by simp))
  | _=>exact absurd (show false=true from hs) UY
 | bl i=>
  cases rx
  cases y with
  | non=>cases ry;exact PySem.EqNone.ne_bool_none (j5 I q (by simp))
  | bl j=>cases ry;exact ne_bool (j5 I q (congrArg not EX))
  | str j=>obtain ⟨t',rfl⟩:=ry;exact PySem.EqMixed.ne_bool_str (j5 I q (by simp))
  | _=>exact absurd (show false=true from hs) UY
 | int i=>
  obtain ⟨t,rfl⟩:=rx
  cases y with
  | non=>cases ry;exact PySem.EqNone.ne_int_none (j5 I q (by simp))
  | int j=>obtain ⟨t',rfl⟩:=ry;exact ne_int (j5 I q (congrArg not B2))
  | str j=>obtain ⟨t',rfl⟩:=ry;exact PySem.EqMixed.ne_int_str (j5 I q (by simp))
  | _=>exact absurd (show false=true from hs) UY
 | str i=>
  obtain ⟨t,rfl⟩:=rx
  cases y with
  | non=>cases ry;exact PySem.EqNone.ne_str_none (j5 I q (by simp))
  | bl j=>cases ry;exact PySem.EqMixed.ne_str_bool (j5 I q (by simp))
  | int j=>obtain ⟨t',rfl⟩:=ry;exact PySem.EqMixed.ne_str_int (j5 I q (by simp))
  | str j=>obtain ⟨t',rfl⟩:=ry;exact ne_str (j5 I q (congrArg not BE))
  | _=>exact absurd (show false=true from hs) UY
 | byt i=>
  obtain ⟨t,rfl⟩:=rx
  cases y with
  | byt j=>obtain ⟨t',rfl⟩:=ry;exact PySem.W.ne_bytes (j5 I q (congrArg not JT))
  | _=>exact absurd (show false=true from hs) UY
 | _=>cases y<;>exact absurd (show false=true from hs) UY
theorem SQ:OpR X (VZ .Lt) (rI0 λi j=>.bl (decide (i < j))):=Rg λ_ _ _ _ _ _ _ q=>lt_int q
theorem SI:OpR X (VZ .LtE) (rI0 λi j=>.bl (decide (i<=j))):=Rg λ_ _ _ _ _ _ _ q=>le_int q
theorem Tv:OpR X (VZ .Gt) (rI0 λi j=>.bl (decide (j < i))):=Rg λ_ _ _ _ _ _ _ q=>gt_int q
theorem Rf:OpR X (VZ .Is) (λx y H Q=>y= .non/\Q (.bl (decide (x= .non))) H):=by
 intro pins s σ H x y v u Q I rx ry h
 obtain ⟨rfl,q⟩:=h
 cases ry
 refine is_none_gen (j5 I q ?_)
 cases x<;>first
  | (cases rx;rfl)
  | (obtain ⟨t,rfl⟩:=rx;rfl)
theorem Po:OpR X (VZ .IsNot) (λx y H Q=>y= .non/\Q (.bl (!decide (x= .non))) H):=by
 intro pins s σ H x y v u Q I rx ry h
 obtain ⟨rfl,q⟩:=h
 cases ry
 refine isnot_none_gen (j5 I q ?_)
 cases x<;>first
  | (cases rx;rfl)
  | (obtain ⟨t,rfl⟩:=rx;rfl)
theorem OpR.or{f:UB->UB->Sem UB}{r r':R2}(h:OpR X f r)(h':OpR X f r'):OpR X f (λx y H Q=>r x y H Q∨r' x y H Q):=by
 intro pins s σ H x y v u Q I rx ry q
 rcases q with q | q
 ·exact h pins s σ H x y v u Q I rx ry q
 ·exact h' pins s σ H x y v u Q I rx ry q
theorem iw(b:Vw){op:CmpOp}(h:op≠.In:=by decide)(h2:op≠.NotIn:=by decide):Xs op b=false:=by
 have e1:(op == CmpOp.In)=false:=by cases op<;>first | rfl | exact absurd rfl h
 have e2:(op == CmpOp.NotIn)=false:=by cases op<;>first | rfl | exact absurd rfl h2
 cases b<;>simp [Xs,e1,e2]
theorem PN{op:CmpOp}{r:R2}(ho:OpR X (VZ op) r)(ha:PE X a ta)(hb:PE X b tb)(hm:Xs op b=false):PE X (.Compare a [op] [b] pos) (tOp r ta tb):=by
 intro pins s σ H Q I h
 exact wpAny_Compare1 (QZ ha hb I h λv u s2 x y H2 I2 rx ry q=>ho pins s2 σ H2 x y v u Q I2 rx ry q) hm
noncomputable def yd(t:TE):TT:=λσ H Q=>t σ H λx H'=>∃ k,x= .bl k/\Q k H'
theorem Pu{op:CmpOp}{r:R2}(ho:OpR X (VZ op) r)(ha:PE X a ta)(hb:PE X b tb)(hm:Xs op b=false):PT X (.Compare a [op] [b] pos) (yd (tOp r ta tb)):=by
 intro pins s σ H Q I h
 refine wpAny_isTrue_Compare1 (thn (ha pins s σ H _ I h) λv s1 ⟨x,H1,I1,r1,q1⟩=>thn (hb pins s1 σ H1 _ I1 q1) λu s2 ⟨y,H2,I2,r2,q2⟩=>
  thn (ho pins s2 σ H2 x y v u _ I2 r1 r2 q2) λc s3 ⟨z,H3,I3,r3,k,e,q3⟩=>?_) hm
 subst e
 cases r3
 exact Ww ⟨H3,I3,q3⟩
noncomputable def N0(r r':R2)(ta tb tc:TE):TE:=λσ H Q=>ta σ H λx H1=>tb σ H1 λy H2=>r x y H2 λz H3=>∃ k,z= .bl k/\
 (if k=true then tc σ H3 λw' H4=>r' y w' H4 Q else Q (.bl false) H3)
theorem M5{op op':CmpOp}{r r':R2}(ho:OpR X (VZ op) r)(ho':OpR X (VZ op') r')(ha:PE X a ta)(hb:PE X b tb)(hc:PE X c tc)
  (hm:lastMarks [op,op'] [b,c]=false:=by with_unfolding_all rfl):PT X (.Compare a [op,op'] [b,c] pos) (yd (N0 r r' ta tb tc)):=by
 intro pins s σ H Q I h
 refine isTrue_chain (thn (ha pins s σ H _ I h) λv s1 ⟨x,H1,I1,r1,q1⟩=>test_link (thn (hb pins s1 σ H1 _ I1 q1) λu s2 ⟨y,H2,I2,r2,q2⟩=>
  thn (ho pins s2 σ H2 x y v u _ I2 r1 r2 q2) λd s3 ⟨z,H3,I3,r3,k,e,q3⟩=>?_)) hm
 subst e
 cases r3
 refine Ww ?_
 cases k with
 | false=>
  obtain ⟨k',e',q'⟩:=q3
  cases e'
  exact ite_ff ⟨H3,I3,q'⟩
 | true=>
  refine ite_tt (test_last (thn (hc pins s3 σ H3 _ I3 q3) λw' s4 ⟨z',H4,I4,r4,q4⟩=>thn (ho' pins s4 σ H4 y z' u w' _ I4 r2 r4 q4) λd' s5 ⟨z2,H5,I5,r5,k2,e2,q5⟩=>?_))
  subst e2
  cases r5
  exact Ww ⟨H5,I5,q5⟩
theorem Cj:(Vc:Nat) < 2 ^ 63:=by rw [Y0];decide
theorem Jw:OpR X (WN .Add) (λx y H Q=>∃ i j,x= .str i/\y= .str j/\i.length+j.length<=Vc/\Q (.str (i++j)) H):=by
 intro pins s σ H x y v u Q I rx ry h
 obtain ⟨i,j,rfl,rfl,hz,q⟩:=h
 obtain ⟨t,rfl⟩:=rx
 obtain ⟨t',rfl⟩:=ry
 exact add_str (λt' tk=>⟨.str (i++j),H,I.tok _,⟨_,rfl⟩,q⟩) hz
theorem Av{x:V}{us:List UB}(r:Vals [x] us):∃ u,us=[u]/\RelV x u:=by
 cases r with
 | cons r1 r2=>cases r2;exact ⟨_,rfl,r1⟩
theorem Tz{x y:V}{us:List UB}(r:Vals [x,y] us):∃ u w',us=[u,w']/\RelV x u/\RelV y w':=by
 cases r with
 | cons r1 r2=>
  cases r2 with
  | cons r3 r4=>cases r4;exact ⟨_,_,rfl,r1,r3⟩
theorem Li:CallR X (.type "int") (λxs H Q=>(∃ i,xs=[.int i]/\Q (.int i) H)∨∃ k,xs=[.bl k]/\Q (.int (if k then 1 else 0)) H):=by
 intro pins s σ H xs us Q I r h
 rcases h with ⟨i,rfl,q⟩ | ⟨k,rfl,q⟩
 ·obtain ⟨u,rfl,t,rfl⟩:=Av r
  exact call_int_int ⟨.int i,H,I,⟨_,rfl⟩,q⟩
 ·obtain ⟨u,rfl,r1⟩:=Av r
  cases r1
  exact call_int_bool ⟨.int (if k then 1 else 0),H,I.tok _,⟨_,rfl⟩,q⟩
end
end L2
namespace L2
open PySem PySem.Spec PyProof.Rows
structure ObjM(h:V1)(x dx C:UL)(mA:Vk->Option UB):Prop where
 obj:h.get? x=U7 (PySem.W.instObj C dx)
 ns:h.Ns1 dx mA
 ne:dx≠x
theorem LN{h:V1}{dx:UL}{mA:Vk->Option UB}(n:h.Ns1 dx mA):∃ od,h.get? dx=U7 od/\∀ name,PySem.W.lookIn name od=U7 (mA name):=by
 obtain ⟨o,es,ep,ho,hd,hk,_,hm⟩:=n
 refine ⟨o,ho,λname=>?_⟩
 have e:=hm name
 unfold nsFind findBy at e
 rw [<- Array.find?_toList] at e
 unfold PySem.W.lookIn
 rw [hd]
 dsimp only
 split
 ·rename_i y q
  rw [q] at e
  exact congrArg U7 e
 ·rename_i q
  rw [q] at e
  have a:es.toList.any (·.refKey)=false:=by
   rw [List.any_eq_false]
   intro y hy
   obtain ⟨z,t,hkey⟩:=hk y (Array.mem_toList_iff.mp hy)
   simp [DictEntry.refKey,hkey]
  have a':¬ es.toList.any (·.refKey)=true:=by rw [a];exact UY
  rw [if_neg a']
  exact congrArg U7 e
theorem ObjM.look{h:V1}{x dx C:UL}{mA:Vk->Option UB}(I:ObjM h x dx C mA):∃ od,PySem.W.InstAt h x (PySem.W.instObj C dx) C (U7 od)/\∀ name,PySem.W.lookIn name od=U7 (mA name):=
 let ⟨od,ho,hl⟩:=LN I.ns
 ⟨od,⟨I.obj,rfl,rfl,ho⟩,hl⟩
section
variable{P:Vn}{w:Vz}{H H':Hp}{h h':V1}{a C dx:UL}{fs fs':List (Vk×V)}
theorem Pp(hok:HOk P w H h)(e:H a=U7 (.ins C dx fs)):∃ mA,ObjM h a dx C mA/\(∀ f,RelO (fs.lookup f) (mA f))/\PySem.Within mA (fs.map (·.1))/\fs.length<=1000/\H dx=U7 (.own a):=by
 obtain ⟨d,z,ne,ob,mA,n,r,q⟩:=(show ObjOk P w H h a (.ins C dx fs) from hok a _ e)
 exact ⟨mA,⟨ob,n,ne⟩,r,q,z,d⟩
end
structure Cls(K:UF)(C:UL):Prop where
 pg:PySem.W.plainGet K C Vk.empty=true
 hd:PySem.W.hasDictIn K C=true
 po:PySem.W.plainOver K C=true
 sa:PySem.W.findIn K (.ref C) "__setattr__" =U7 (U7 (.builtin "object.__setattr__"))
theorem Cls.get{K:UF}{C:UL}(c:Cls K C)(f:Vk):PySem.W.plainGet K C f=true:=c.pg
section
variable{X:Cx}{pins:List (UL×WK)}{σ:St}{H:Hp}{s:UG}{A:VG}{E:UB->UG->Prop}{Q:UB->UG->Prop}{c:UB}{b:Bool}
inductive TyOf (K:UF) (H:Hp):V->UB->Prop where
 | non:TyOf K H .non (.type "NoneType")
 | bl (x:Bool):TyOf K H (.bl x) (.type "bool")
 | int (i:Int):TyOf K H (.int i) (.type "int")
 | str (x:Vk):TyOf K H (.str x) (.type "str")
 | flt (x:UInt64):TyOf K H (.flt x) (.type "float")
 | lst {a:UL} {xs:List V} (e:H a=U7 (.lst xs)):TyOf K H (.ref a) (.type "list")
 | frz {a:UL} {o:WK} {xs:List V} (e:H a=U7 (.frz o (.lst xs))):TyOf K H (.ref a) (.type "list")
 | tup {a:UL} {xs:List V} (e:Rd H a (.tup xs)):TyOf K H (.ref a) (.type "tuple")
 | dK {a:UL} {kvs:List (Key×V)} (e:H a=U7 (.dK kvs)):TyOf K H (.ref a) (.type "dict")
 | dT {a:UL} {kvs:List (List Key×V)} {ep:Nat} (e:H a=U7 (.dT kvs ep)):TyOf K H (.ref a) (.type "dict")
 | ins {a C dx:UL} {fs:List (Vk×V)} (e:H a=U7 (.ins C dx fs)) (cl:Cls K C) (ha:PySem.W.findIn K (.ref C) "__class__" =U7 (U7 (.builtin "object.__class__")))
  (hn:PySem.W.specialIn K (.builtin "object.__class__") "__get__" =U7 (U7 (.builtin "getset_descriptor.__get__"))) (htk:PySem.W.takesIn K (.builtin "object.__class__")=U7 true)
  (hm:PySem.W.mroIn K C (.type "object")=U7 true):TyOf K H (.ref a) (.ref C)
theorem KY{x:V}{u t:UB}(I:Inv X pins σ H s)(rx:RelV x u)(ty:TyOf X.K H x t)(e:Zg X.K t c=U7 b)(h:∀ tk,Q (.bool b) {s with toks:=tk}):
  UZ (Vh X.prog X.w) A (call (.builtin "isinstance") [u,c]) Q E s:=by
 cases ty with
 | non=>cases (show u=Vq from rx);exact Wl PySem.W.kitx_none I.kIn XY e (λz=>nomatch z) h
 | bl y=>cases (show u=UB.bool y from rx);exact Wl PySem.W.kitx_bool I.kIn XY e (λz=>nomatch z) h
 | int i=>obtain ⟨t,q⟩:=(show ∃ t,u=UB.int i t from rx);cases q;exact Wl PySem.W.kitx_int I.kIn XY e (λz=>nomatch z) h
 | str y=>obtain ⟨t,q⟩:=(show ∃ t,u=UB.str y t from rx);cases q;exact Wl PySem.W.kitx_str I.kIn XY e (λz=>nomatch z) h
 | flt y=>obtain ⟨t,q⟩:=(show ∃ t,u=UB.float y t from rx);cases q;exact Wl PySem.W.kitx_float I.kIn XY e (λz=>nomatch z) h
 | @lst a xs ea=>
  cases (show u=VD a from rx)
  obtain ⟨_,_,n,_,h1⟩:=(show ObjOk X.prog X.w H s.heap a (.lst xs) from I.hok a _ ea)
  exact Wl PySem.W.kitx_list I.kIn ⟨_,h1,rfl⟩ e (λz=>nomatch z) h
 | @frz a ob xs ea=>
  cases (show u=VD a from rx)
  obtain ⟨_,_,_,n,_,h1⟩:=(show ObjOk X.prog X.w H s.heap a (.frz ob (.lst xs)) from I.hok a _ ea)
  exact Wl PySem.W.kitx_list I.kIn ⟨_,h1,rfl⟩ e (λz=>nomatch z) h
 | @tup a xs ea=>
  cases (show u=VD a from rx)
  obtain ⟨_,_,_,p⟩:=(show ObjOk X.prog X.w H s.heap a (.tup xs) from ea.ok I.hok)
  obtain ⟨o,h1,h2,_⟩:=p
  exact Wl PySem.W.kitx_tuple I.kIn ⟨o,h1,h2⟩ e (λz=>nomatch z) h
 | @dK a kvs ea=>
  cases (show u=VD a from rx)
  obtain ⟨_,_,vs,_,p⟩:=(show ObjOk X.prog X.w H s.heap a (.dK kvs) from I.hok a _ ea)
  obtain ⟨o,es,ep,h1,h2,_⟩:=p
  exact Wl PySem.W.kitx_dict I.kIn ⟨o,h1,h2.1⟩ e (λz=>nomatch z) h
 | @dT a kvs ep ea=>
  cases (show u=VD a from rx)
  obtain ⟨_,_,xs,_,o,es,h1,h2,_⟩:=(show ObjOk X.prog X.w H s.heap a (.dT kvs ep) from I.hok a _ ea)
  exact Wl PySem.W.kitx_dict I.kIn ⟨o,h1,h2.1⟩ e (λz=>nomatch z) h
 | @ins a C dx fs ea cl ha hn htk hm=>
  cases (show u=VD a from rx)
  obtain ⟨mA,O,_⟩:=Pp I.hok ea
  obtain ⟨od,J,_⟩:=O.look
  exact Wl (PySem.W.kitx_own (cl.get _) cl.hd ha hn htk hm) I.kIn J e (λz=>nomatch z) h
end
end L2
namespace L2
open PySem PySem.Spec PyProof.Rows
structure Room(k:Nat)(A:VG):Prop where
 hd:A.handled=UA
 dp:A.depth+3 * k+5 < recursionLimit
 un:A.units+16 * k+200 < Yh
theorem Room.deeper{k:Nat}{A:VG}(r:Room (k+1) A)(env:Env):Room k (A.deeper env):=
 ⟨r.hd,by have:=r.dp;show A.depth+1+3 * k+5 < _;omega,by have:=r.un;show A.units+3+16 * k+200 < _;omega⟩
theorem Room.depth{k:Nat}{A:VG}(r:Room k A):A.depth < recursionLimit:=by have:=r.dp;omega
theorem Room.units{k:Nat}{A:VG}(r:Room k A):A.units+64 < Yh:=by have:=r.un;omega
noncomputable def tNil:TA:=λ_ H Q=>Q [] H
noncomputable def GB(ta:TE)(tr:TA):TA:=λσ H Q=>ta σ H λx H1=>tr σ H1 λxs H2=>Q (x::xs) H2
section
variable{X:Cx}{e:Vw}{es:List Vw}{te:TE}{t:TA}{pos:Xz}
theorem xw:PA X [] tNil:=λ_ _ _ _ H Q I h=>Xi ⟨[],H,I,.nil,h⟩
theorem we(ha:PE X e te)(hr:PA X es t)(hs:UJ (e::es) X.env=(false,VN e X.env)::UJ es X.env:=by rfl):PA X (e::es) (GB te t):=by
 intro pos pins s σ H Q I h
 rw [hs]
 show UZ _ _ (spliced ((false,VN e X.env)::VC pos (UJ es X.env))) _ _ s
 refine WX (thn (ha pins s σ H _ I h) λu s1 ⟨x,H1,I1,r1,q1⟩=>?_)
 exact thn (hr pos pins s1 σ H1 _ I1 q1) λus s2 ⟨xs,H2,I2,r2,q2⟩=>⟨x::xs,H2,I2,.cons r1 r2,q2⟩
noncomputable def Uj(t:TA):TE:=λσ H Q=>t σ H λxs H1=>xs.length<=Vc/\∀ p,H1 p=UA->Q (.ref p) (upd H1 p (.tup xs))
noncomputable def U3(t:TA):TE:=λσ H Q=>t σ H λxs H1=>xs.length<=Vc/\∀ p,H1 p=UA->Q (.ref p) (upd H1 p (.lst xs))
theorem M6{x1}(h:PA X es t):PE X (.Tuple es x1 pos) (Uj t):=by
 intro pins s σ H Q I hq
 refine wpAny_Tuple_spliced (thn (h pos pins s σ H _ I hq) λus s1 ⟨xs,H1,I1,r,z,q⟩=>⟨by rw [<- r.length];exact z,?_⟩)
 have hf:H1 s1.heap.objs.size=UA:=I1.hok.fresh (UI _)
 refine ⟨.ref s1.heap.objs.size,upd H1 s1.heap.objs.size (.tup xs),I1.laid (t':=s1.toks) (λb u e=>UH _ e) (UI _) ?_,rfl,q _ hf⟩
 exact ⟨⟨z,tv (US _ rfl) rfl⟩,us,r,⟨_,US _ rfl,rfl,_,rfl⟩⟩
theorem N1(h:PA X es t):PE X (.List es pos) (U3 t):=by
 intro pins s σ H Q I hq
 refine wpAny_List_spliced (thn (h pos pins s σ H _ I hq) λus s1 ⟨xs,H1,I1,r,z,q⟩=>⟨by rw [<- r.length];exact z,?_⟩)
 have hf:H1 s1.heap.objs.size=UA:=I1.hok.fresh (UI _)
 refine ⟨.ref s1.heap.objs.size,upd H1 s1.heap.objs.size (.lst xs),I1.laid (t':=s1.toks) (λb u e=>UH _ e) (UI _) ?_,rfl,q _ hf⟩
 exact ⟨z,us,0,r,US _ rfl⟩
end
abbrev Sp:=List V->Hp->VK->XK->Prop
abbrev CXT:=List Env->Hp->UG->XK->UB->UG->Prop
structure Env0(P:Vn)(w:Vz)(K:UF)(mg:Vk->Option UB)(base:V1)(A:VG)(outer:List Env)(s:UG)(H:Hp):Prop where
 frames:A.frames=U7 outer
 mod:Mod K mg base
 bs:∀ b o,base.get? b=U7 o->s.heap.get? b=U7 o/\Sb K H b o
 bsz:base.objs.size<=s.heap.objs.size
 funs:s.heap.FunFrames base outer
 frf:∀ b∈frs outer,H b=UA
 hok:HOk P w H s.heap
 bare:Za s.gens
noncomputable def CE(outer:List Env)(P:Vn)(w:Vz)(H:Hp)(s:UG)(Q:VK)(u:UB)(s':UG):Prop:=
 ∃ v H',s'.os=s.os/\Za s'.gens/\Un (frs outer) [] H H' s.heap s'.heap/\HOk P w H' s'.heap/\RelV v u/\Q v H'
noncomputable def CR(CX:CXT)(outer:List Env)(P:Vn)(w:Vz)(H:Hp)(s:UG)(Q:VK)(E:XK)(r:Result)(s':UG):Prop:=
 match r with
 | .ok (.ret u)=>CE outer P w H s Q u s'
 | .ok _=>False
 | .error e=>CX outer H s E e s'
structure FnOk(P:Vn)(w:Vz)(K:UF)(mg:Vk->Option UB)(base:V1)(CX:CXT)(k:Nat)(f:UL)(fd:Yn)(ps:List Vk)(sp:Sp):Prop where
 len:∀ vs H Q E,sp vs H Q E->vs.length=ps.length
 run:∀ (A:VG) (outer:List Env) (s:UG) (H:Hp) (args:Args) (us:List UB) (vs:List V) (Q:VK) (E:XK),Room k A->Env0 P w K mg base A outer s H->BindsTo s fd args (ps.zip us)->Vals vs us->sp vs H Q E->
  Yu (Vh P w) A (.call (.ref f) args) (CR CX outer P w H s Q E) s
section
variable{X:Cx}{pins:List (UL×WK)}{σ:St}{H:Hp}{s s':UG}
theorem Inv.env0(I:Inv X pins σ H s):Env0 X.prog X.w X.K X.mg X.base X.A X.stack s H:=
 ⟨I.ok.frames,I.ok.mod,I.bs,UU I.ok.bsz I.sz,I.stack,I.stkFree,I.hok,I.bare⟩
theorem Inv.after{Q:VK}{u:UB}(I:Inv X pins σ H s)(h:CE X.stack X.prog X.w H s Q u s'):EP X pins σ Q u s':=by
 obtain ⟨v,H',os,bare,un,hok,r,q⟩:=h
 obtain ⟨hh,g,d,t,os'⟩:=s'
 obtain rfl:os'=s.os:=os
 exact ⟨v,H',I.call (h':=hh) (g':=g) (d':=d) (t':=t) (ch:=[]) un hok bare (λb z=>absurd z (by simp)),r,q⟩
end
noncomputable def Binds(K:UF)(fd:Yn)(ps:List Vk)(ds:List UB):Prop:=
 ∀ (s:UG) (us:List UB),K.In s.heap->(us++ds).length=ps.length->BindsTo s fd ⟨us,[]⟩ (ps.zip (us++ds))
theorem Binds.all{K:UF}{fd:Yn}{ps:List Vk}(h:∀ us:List UB,us.length=ps.length->Zh fd ⟨us,[]⟩=pure (ps.zip us)):Binds K fd ps []:=λs us _ hl=>by
 rw [V3] at hl ⊢
 exact .of_eq (h us hl)
structure FnScope(N P:List Vk)(sc:Zf):Prop where
 kind:sc.kind= .function
 co:sc.isCoroutine=false
 gen:sc.isGenerator=false
 nd:N.Nodup
 pre:N.take P.length=P
 par:∀ x∈P,sc.names.lookup x=U7 .local∨sc.names.lookup x=U7 .cell
 nofree:∀ y∈sc.names,y.2≠.free
theorem DU{YJ:Vk->Option WH}{x:Vk}:∀ {binds:List (Vk×UB)} {m:Vk->Option UB},(∀ v,(x,v)∉binds)->bindL YJ binds m x=m x
 | [],_,_=>rfl
 | (n,v)::r,m,h=>by
  unfold bindL
  rw [DU λw hw=>h w (UQ _ hw)]
  split
  ·have:x≠n:=by rintro rfl;exact h v UN
   simp [this]
  ·rfl
theorem DF{YJ:Vk->Option WH}{x:Vk}:∀ {binds:List (Vk×UB)} {m:Vk->Option UB},(∀ v,(x,v)∉binds)->bindC YJ binds m x=m x
 | [],_,_=>rfl
 | (n,v)::r,m,h=>by
  unfold bindC
  rw [DF λw hw=>h w (UQ _ hw)]
  split
  ·rfl
  ·have:x≠n:=by rintro rfl;exact h v UN
   simp [this]
theorem DM{YJ:Vk->Option WH}{x:Vk}{v:UB}:∀ {P:List Vk} {vs:List UB} {i:Nat} {m:Vk->Option UB},P.Nodup->P[i]? =U7 x->vs[i]? =U7 v->YJ x=U7 .local->
  bindL YJ (P.zip vs) m x=U7 v
 | [],_,_,_,_,h,_,_=>by simp at h
 | _::_,[],_,_,_,_,h,_=>by simp at h
 | p::P,w::vs,0,m,nd,h1,h2,hk=>by
  simp at h1 h2;subst h1;subst h2
  show bindL YJ ((p,w)::P.zip vs) m p=_
  unfold bindL
  rw [DU λv hv=>(W1.mp nd).1 (List.of_mem_zip hv).1,if_pos hk]
  simp
 | p::P,w::vs,i+1,m,nd,h1,h2,hk=>by
  show bindL YJ ((p,w)::P.zip vs) m x=_
  unfold bindL
  exact DM (i:=i) (W1.mp nd).2 (by simpa using h1) (by simpa using h2) hk
theorem Ec{YJ:Vk->Option WH}{x:Vk}{v:UB}:∀ {P:List Vk} {vs:List UB} {i:Nat} {m:Vk->Option UB},P.Nodup->P[i]? =U7 x->vs[i]? =U7 v->YJ x≠U7 .local->
  bindC YJ (P.zip vs) m x=U7 v
 | [],_,_,_,_,h,_,_=>by simp at h
 | _::_,[],_,_,_,_,h,_=>by simp at h
 | p::P,w::vs,0,m,nd,h1,h2,hk=>by
  simp at h1 h2;subst h1;subst h2
  show bindC YJ ((p,w)::P.zip vs) m p=_
  unfold bindC
  rw [DF λv hv=>(W1.mp nd).1 (List.of_mem_zip hv).1,if_neg hk]
  simp
 | p::P,w::vs,i+1,m,nd,h1,h2,hk=>by
  show bindC YJ ((p,w)::P.zip vs) m x=_
  unfold bindC
  exact Ec (i:=i) (W1.mp nd).2 (by simpa using h1) (by simpa using h2) hk
noncomputable def bf(N:List Vk)(vs:List V):St:=vs.map U7++UW (N.length - vs.length) UA
noncomputable def sy(CX:CXT)(P:Vn)(w:Vz)(K:UF)(mg:Vk->Option UB)(base:V1)(N:List Vk)(qual:Vk)(scope:Zf)(f:UL)(cd:UB)(A:VG)(outer:List Env)(s:UG)(H:Hp)(E:XK):Cx where
 prog:=P
 w:=w
 K:=K
 mg:=mg
 base:=base
 A:=A.deeper (Zi qual scope s.heap.objs.size f cd)
 N:=N
 s₀:=s
 H₀:=H
 env:=Zi qual scope s.heap.objs.size f cd
 outer:=outer
 stack:=Zi qual scope s.heap.objs.size f cd::outer
 ex:=[]
 calm:=true
 fn:=λ_=>true
 pn:=[]
 xe:=λe s'=>UZ (Vh P w) (A.deeper (Zi qual scope s.heap.objs.size f cd)) (leaving (Zi qual scope s.heap.objs.size f cd) e) (λ_ s''=>CX outer H s E e s'') (λe' s''=>CX outer H s E e' s'') s'
theorem GR{sc:Zf}{n:Nat}{x:Vk}(h:sc.names.lookup x=U7 .cell):∃ c,(cellsFrom n sc.names []).lookup x=U7 c:=by
 have q:=PySem.W.cellsFrom_some sc.names n [] (.inl h)
 exact Xt.mp q
theorem Ls{CX:CXT}{P:Vn}{w:Vz}{K:UF}{mg:Vk->Option UB}{base:V1}{N ps:List Vk}{qual:Vk}{scope:Zf}{f:UL}{cd:UB}{A:VG}{outer:List Env}{s s1:UG}{H:Hp}{E:XK}{us:List UB}{vs:List V}
  (S:FnScope N ps scope) (hd:A.handled=UA) (e0:Env0 P w K mg base A outer s H) (hl:vs.length=ps.length) (r:Vals vs us)
  (x:InCallC s s.heap.objs.size (bindL (Zi qual scope s.heap.objs.size f cd).kindOf (ps.zip us) λ_=>UA) (cellsFrom (s.heap.objs.size+1) scope.names []) (bindC (Zi qual scope s.heap.objs.size f cd).kindOf (ps.zip us) λ_=>UA) s1):
  Inv (sy CX P w K mg base N qual scope f cd A outer s H E) [] (bf N vs) H s1:=by
 have hpl:ps.length<=N.length:=by have:=congrArg Xj S.pre;rw [Ye] at this;omega
 obtain ⟨h1,tk,rfl,hk⟩:=x.done
 have noA:∀ b:UL,b∉(sy CX P w K mg base N qual scope f cd A outer s H E).ex:=λb z=>absurd (show b∈([]:List UL) from z) (by simp)
 refine ⟨⟨e0.mod,S.kind,rfl,rfl,UI _,λy z c h1 h2=>?_,λy hy=>?_,λy c _ h=>?_,λ_=>hd,VG.frames_deeper e0.frames,.inr ⟨rfl,rfl⟩,λb z=>absurd z (noA b),e0.bs,e0.bsz,λb _ _=>noA b,λb z=>absurd z (noA b),e0.funs,e0.frf⟩,
  rfl,e0.bare,Un.kept hk,⟨_,x.toInCall.ns,λi y v h1 h2 h3=>?_⟩,λy c h=>⟨_,x.cell y c h⟩,e0.hok.fresh (UI _),λy c h=>?_,λp hp=>absurd (show p∈([]:List (UL×WK)) from hp) (by simp),e0.hok.kept hk,?_⟩
 ·exact name_of_addr x.apart (WO h1) (WO h2)
 ·have hy:scope.names.lookup y=U7 .cell∨scope.names.lookup y=U7 .free:=hy
  rcases hy with hy | hy
  ·exact GR hy
  ·exact absurd rfl (S.nofree _ (WO hy))
 ·exact Zb (x.above y c (WO h))
 ·have hi:i < vs.length:=by
    unfold bf at h2
    by_cases hi:i < vs.length
    ·exact hi
    ·rw [Vs (by simpa using hi)] at h2
     rw [X1] at h2
     split at h2<;>cases h2
  have ha:vs[i]? =U7 v:=by
   unfold bf at h2
   rw [V4 (by simpa using hi),Vu] at h2
   cases e:vs[i]? with
   | none=>rw [e] at h2;cases h2
   | some a=>rw [e] at h2;cases h2;rfl
  obtain ⟨u,hu,rv⟩:=r.get ha
  have hp:ps[i]? =U7 y:=by
   rw [<- S.pre,List.getElem?_take_of_lt (by omega)];exact h1
  have ndP:ps.Nodup:=by rw [<- S.pre];exact S.nd.sublist (List.take_sublist _ _)
  refine ⟨u,rv,?_⟩
  rcases S.par y (YQ hp) with k | k
  ·exact .inl ⟨k,DM ndP hp hu k⟩
  ·obtain ⟨c,e⟩:=GR (n:=s.heap.objs.size+1) k
   refine .inr ⟨.inl k,c,e,?_⟩
   have q:=x.cell y c e
   rw [Ec ndP hp hu (by show scope.names.lookup y≠_;rw [k];decide)] at q
   exact q
 ·exact e0.hok.fresh (Zb (x.above y c (WO h)))
 ·unfold bf
  show _=N.length
  rw [UC,V8,YF]
  omega
theorem Qr{CX:CXT}{P:Vn}{w:Vz}{K:UF}{mg:Vk->Option UB}{base:V1}{k:Nat}{f:UL}{name qual:Vk}{params:Arguments}{body:List VW}{scope:Zf}{dV kV doc pm cdv ct oc:UB}{an od:Option UL}
  {osl:Array (Option UB)} {N ps:List Vk} {sp:Sp} (lk:K.lookup f=U7 ⟨oc,od,.func (Wh name qual params body scope dV kV doc pm an cdv ct),osl⟩) (hcd:XZ K cdv qual=true) (S:FnScope N ps scope)
  (len:∀ vs H Q E,sp vs H Q E->vs.length=ps.length)
  (hbody:∀ (A:VG) (outer:List Env) (s:UG) (H:Hp) (vs:List V) (Q:VK) (E:XK),Room k (A.deeper (Zi qual scope s.heap.objs.size f cdv))->sp vs H Q E->
    ∃ t,PSs (sy CX P w K mg base N qual scope f cdv A outer s H E) body t/\t {nx:=λ_ H'=>Q .non H',rt:=Q} (bf N vs) H):
  FnOk P w K mg base CX (k+1) f (Wh name qual params body scope dV kV doc pm an cdv ct) ps sp:=by
 refine ⟨len,λA outer s H args us vs Q E hr e0 hb r hsp=>?_⟩
 have hl:=len _ _ _ _ hsp
 have KX:K.In s.heap:=e0.mod.kin.keeps λb o e=>(e0.bs b o e).1
 have lim:s.heap.NoLimit:=e0.mod.nolimit.keeps λb o e=>(e0.bs b o e).1
 have hkind:∀ y∈ps.zip us,scope.names.lookup y.1=U7 .local∨(scope.names.lookup y.1=U7 .cell/\((cellsFrom (s.heap.objs.size+1) scope.names []).lookup y.1).isSome=true):=λ⟨n,v⟩ hy=>by
  rcases S.par n (List.of_mem_zip hy).1 with q | q
  ·exact .inl q
  ·exact .inr ⟨q,PySem.W.cellsFrom_some _ _ _ (.inl q)⟩
 refine codeAny_call_function hr.depth (KX _ _ lk) rfl S.co S.gen rfl (PySem.W.codeRec_of KX hcd) (hb _ _ _ _ ?_)
 refine wpAny_newFunctionEnv_cells S.kind hkind λenv he s1 x=>?_
 subst he
 refine ⟨lim.keeps x.toInCall.keep,codeAny_func ?_⟩
 obtain ⟨t,ht,hq⟩:=hbody A outer s H vs Q E (hr.deeper _) hsp
 have I:Inv (sy CX P w K mg base N qual scope f cdv A outer s H E) [] (bf N vs) H s1:=Ls S hr.hd e0 hl r x
 refine W6 (ht [] s1 (bf N vs) H _ I hq) (λfl s' hs=>?_) λe s' hs=>hs
 have fin:∀ {σ':St} {H':Hp} {v:V} {u:UB},Inv (sy CX P w K mg base N qual scope f cdv A outer s H E) [] σ' H' s'->RelV v u->Q v H'->CE outer P w H s Q u s':=
  λ{σ' H' v u} J rv q=>⟨v,H',J.os,J.bare,J.base,J.hok,rv,q⟩
 cases fl with
 | ret u=>
  obtain ⟨v,σ',H',J,rv,q⟩:=hs
  exact fin J rv q
 | next=>
  obtain ⟨σ',H',J,q⟩:=hs
  exact fin (v:=V.non) (u:=Vq) J rfl q
 | brk=>
  obtain ⟨_,_,_,q⟩:=hs
  exact WY q
 | cont=>
  obtain ⟨_,_,_,q⟩:=hs
  exact WY q
end L2
namespace L2
open PySem PySem.Spec PyProof.Rows
section
variable{X:Cx}{x:Vk}{p pos:Xz}{e:Vw}{es:List Vw}{t:TA}{id T:String}{r:List V->Hp->VK->Prop}
noncomputable def tCB(r:List V->Hp->VK->Prop)(t:TA):TE:=λσ H Q=>t σ H λvs H1=>r vs H1 Q
theorem GK(hc:CallR X (.builtin id) r)(hg:Gl X x)(hm:X.mg x=UA)(hv:Wu x=U7 (.builtin id))(ha:PA X (e::es) t)(hn:x≠"__name__":=by decide)(hdb:(x == ("__debug__":Vk))=false:=by decide)
  (he:UJ (e::es) X.env=(false,VN e X.env)::UJ es X.env:=by rfl) (hpl:(VC pos (UJ es X.env)).any (·.1)=false:=by rfl):PE X (.Call (.Name x p) (e::es) [] pos) (tCB r t):=by
 intro pins s σ H Q I h
 refine W8 (oj I hg hm hv ?_ hn hdb)
 exact PyProof.Rows.callWith_builtin1 (thn (ha pos pins s σ H _ I h) λus s1 ⟨vs,H1,I1,r1,q1⟩=>hc pins s1 σ H1 vs us Q I1 r1 q1) he hpl
theorem Ea(hc:CallR X (.type T) r)(hg:Gl X x)(hm:X.mg x=UA)(hv:Wu x=U7 (.type T))(ha:PA X (e::es) t)(hn:x≠"__name__":=by decide)(hdb:(x == ("__debug__":Vk))=false:=by decide)
  (he:UJ (e::es) X.env=(false,VN e X.env)::UJ es X.env:=by rfl) (hpl:(VC pos (UJ es X.env)).any (·.1)=false:=by rfl):PE X (.Call (.Name x p) (e::es) [] pos) (tCB r t):=by
 intro pins s σ H Q I h
 refine W8 (oj I hg hm hv ?_ hn hdb)
 exact Wg (thn (ha pos pins s σ H _ I h) λus s1 ⟨vs,H1,I1,r1,q1⟩=>hc pins s1 σ H1 vs us Q I1 r1 q1) he hpl
end
end L2
namespace HT
open PySem PyProof.Rows
noncomputable def lexLt:List Int->List Int->Bool
 | [],[]=>false
 | [],_::_=>true
 | _::_,[]=>false
 | x::xs,y::ys=>if x=y then lexLt xs ys else decide (x < y)
theorem lexLt_cons(x y:Int)(xs ys:List Int):lexLt (x::xs) (y::ys)=if x=y then lexLt xs ys else decide (x < y):=rfl
theorem Di:lexLt [] []=false:=rfl
theorem lexLt_nil_cons(y:Int)(ys:List Int):lexLt [] (y::ys)=true:=rfl
theorem lexLt_cons_nil(x:Int)(xs:List Int):lexLt (x::xs) []=false:=rfl
theorem Ml(A:VG)(s:UG)(a:Int)(t:Tok)(c:Int)(u:Tok):∃ e,SeqAt.EqAt A s (.int a t) (.int c u) e/\(e=true↔a=c):=
 ⟨(a == c),SeqAt.EqAt.int_int a t c u,by simp⟩
theorem NU(A:VG)(s:UG)(a:Int)(t:Tok)(c:Int)(u:Tok)(prog:Vn)(w:Vz)(E:UB->UG->Prop)(Q:UB->UG->Prop)(h:Q (.bool (decide (a < c))) s):
  UZ (Vh prog w) A (richCompare .Lt (.int a t) (.int c u)) Q E s:=
 (PyProof.Rows.lt_int h:UZ (Vh prog w) A (VZ .Lt (.int a t) (.int c u)) Q E s)
section
open PySem.SeqAt
open PySem.AutoSeq1 (wpAny_loadPart')
open PySem.MeetsSeq PySem.MeetsSeq2 PySem.MeetsSeq3
theorem tuple_lt_ints(l b:UL)(items items2:Array UB)(n n2:Nat)(dd dd2:Option UL)(sl sl2:Array (Option UB))(ns ms:List Int)(hi:Xk items.toList ns)(hj:Xk items2.toList ms):
  Meets (Vo.«tuple.__lt__» ⟨[.ref l,.ref b],[]⟩)
   (λ_ R s=>s.heap.get? l=U7 {cls:=.type "tuple",dict:=dd,data:=.seq items n,slots:=sl}/\s.heap.get? b=U7 {cls:=.type "tuple",dict:=dd2,data:=.seq items2 n2,slots:=sl2}/\
     R (.ok (.ret (.bool (lexLt ns ms)))) s):=
 .of_wp λprog w A R s h=>by
  obtain ⟨hp,g,d,tk,os⟩:=s;obtain ⟨hl,hb,h⟩:=h
  have f2:=Yo
  have z1:items.size=ns.length:=by rw [<- hi.length];simp
  have z2:items2.size=ms.length:=by rw [<- hj.length];simp
  wp_walk using VH hl,VH hb,wpAny_forIn_list _ (λrest b s'=>b.1=UA/\s'=⟨hp,g,d,tk,os⟩/\∃ (vs ws:List UB) (ns' ms':List Int),rest=vs.zip ws/\
   Xk vs ns'/\Xk ws ms'/\ns'.length+items2.size=ms'.length+items.size/\R (.ok (.ret (.bool (lexLt ns' ms')))) ⟨hp,g,d,tk,os⟩) _
  case turn=>
   rintro ⟨y,x⟩ rest b s' ⟨hb',rfl,vs,ws,ns',ms',hz,hvi,hwi,hlen,hR⟩
   cases hvi with
   | nil=>rw [Y6] at hz;cases hz
   | cons a t hvi'=>
    cases hwi with
    | nil=>rw [List.zip_nil_right] at hz;cases hz
    | cons c u hwi'=>
     rw [Wk] at hz
     injection hz with hyx hrest
     injection hyx with hy hx
     subst hy hx
     rw [lexLt_cons] at hR
     simp only [UM] at hlen
     obtain ⟨e,he,hiff⟩:=Ml A.in1 ⟨hp,g,d,tk,os⟩ a t c u
     refine U9 (he prog w _ _ ?_)
     cases e with
     | true=>
      rw [if_pos (hiff.mp rfl)] at hR
      wp_walk
      exact ⟨rfl,rfl,_,_,_,_,hrest,hvi',hwi',by omega,hR⟩
     | false=>
      rw [if_neg (λq=>absurd (hiff.mpr q) UY)] at hR
      have hri:=NU A.in1 ⟨hp,g,d,tk,os⟩ a t c u prog w
      wp_walk using hri
      exact ⟨_,rfl,by simpa using hR⟩
  case fin=>
   rintro ⟨b1,b2⟩ s' ⟨hb',rfl,vs,ws,ns',ms',hz,hvi,hwi,hlen,hR⟩
   simp only at hb'
   subst hb'
   have hv:lexLt ns' ms'=decide (items.size < items2.size):=by
    cases hvi with
    | nil=>
     cases hwi with
     | nil=>
      simp only [Vm] at hlen
      rw [Di]
      exact (decide_eq_false (by omega)).symm
     | cons c u hw=>
      simp only [Vm,UM] at hlen
      rw [lexLt_nil_cons]
      exact (decide_eq_true (by omega)).symm
    | cons a t hv=>
     cases hwi with
     | nil=>
      simp only [Vm,UM] at hlen
      rw [lexLt_cons_nil]
      exact (decide_eq_false (by omega)).symm
     | cons c u hw=>
      rw [Wk] at hz
      cases hz
   rw [hv] at hR
   wp_walk
   exact ⟨_,rfl,by simpa [Vo.Tuple.tupleCompareSizes] using hR⟩
  case h=>
   exact ⟨rfl,rfl,items.toList,items2.toList,ns,ms,rfl,hi,hj,by omega,h⟩
end
section
variable{prog:Vn}{w:Vz}{A:VG}{E:UB->UG->Prop}{s:UG}
theorem lt_tupInts{l b:UL}{items items2:Array UB}{ns ms:List Int}{Q:UB->UG->Prop}(hl:Yg s.heap l items)(hb:Yg s.heap b items2)(hi:Xk items.toList ns)(hj:Xk items2.toList ms)
  (hu:A.units < Yh) (h:Q (.bool (lexLt ns ms)) s):UZ (Vh prog w) A (VZ .Lt (.ref l) (.ref b)) Q E s:=by
 obtain ⟨⟨cls,dd,data,sl⟩,ho,hc,n,hd⟩:=id hl
 obtain ⟨⟨cls2,dd2,data2,sl2⟩,ho2,hc2,n2,hd2⟩:=id hb
 simp only at hc hd hc2 hd2
 subst hc hd hc2 hd2
 exact richCompare_meets_room (op:=.Lt) ⟨_,ho,rfl⟩ ⟨_,ho2,rfl⟩ XS Y7 (Y1 _ _) (tuple_lt_ints l b items items2 n n2 dd dd2 sl sl2 ns ms hi hj)
  ⟨ho,ho2,show UB.bool (lexLt ns ms)≠YR/\Q (.bool (lexLt ns ms)) s from ⟨(λx=>nomatch x),h⟩⟩ hu
theorem cat_tup{t b:UL}{vs ws:List UB}{Q:UB->UG->Prop}(ht:Yg s.heap t vs.toArray)(hb:Yg s.heap b ws.toArray)(hv:vs≠[])
  (h1:ws=[]->Q (.ref t) s) (h2:ws≠[]->Q (.ref s.heap.objs.size) {s with heap:=s.heap.push {cls:=.type "tuple",data:=.seq (vs++ws).toArray}})
  (hsz:vs.length+ws.length<=Vc):UZ (Vh prog w) A (WN .Add (.ref t) (.ref b)) Q E s:=by
 obtain ⟨⟨cls,dd,data,sl⟩,ho,hc,n,hd⟩:=id ht
 obtain ⟨⟨cls2,dd2,data2,sl2⟩,ho2,hc2,n2,hd2⟩:=id hb
 simp only at hc hd hc2 hd2
 subst hc hd hc2 hd2
 have e:vs.toArray++ws.toArray=(vs++ws).toArray:=by simp
 by_cases hw:ws=[]
 ·exact concat_meets ⟨_,ho,rfl⟩ ⟨_,ho2,rfl⟩ noFill_tuple_add seq_tuple_add Y8 Y2 (Yp _ _)
   (tuple_addW1 t b vs.toArray ws.toArray n n2 dd dd2 sl sl2 (by simpa using hv) (by simp [hw])) ⟨ho,ho2,h1 hw⟩
 ·refine concat_meets ⟨_,ho,rfl⟩ ⟨_,ho2,rfl⟩ noFill_tuple_add seq_tuple_add Y8 Y2 (Yp _ _)
    (tuple_addW2 t b vs.toArray ws.toArray n n2 dd dd2 sl sl2 (by simpa using hv) (by simpa using hw) (by rw [UO,UO];exact hsz)) ⟨ho,ho2,?_⟩
  rw [e]
  exact h2 hw
noncomputable def sIx(n d:Nat):Option Int->Nat
 | none=>d
 | some v=>if v < 0 then (v+(n:Int)).toNat else min v.toNat n
theorem Sr(n d:Nat)(hd:d<=n)(o:Option Int):sIx n d o<=n:=by
 cases o with
 | none=>exact hd
 | some v=>
  show (if v < 0 then (v+(n:Int)).toNat else min v.toNat n)<=n
  by_cases hv:v < 0
  ·rw [if_pos hv];omega
  ·rw [if_neg hv];exact Nat.min_le_right _ _
theorem clip_eq(v:Int)(n d:Nat):(if v < 0 then max (v+(n:Int)) 0 else min v (n:Int))=((sIx n d (U7 v):Nat):Int):=by
 show (if v < 0 then max (v+(n:Int)) 0 else min v (n:Int))=(((if v < 0 then (v+(n:Int)).toNat else min v.toNat n):Nat):Int)
 by_cases hv:v < 0
 ·simp only [if_pos hv];omega
 ·simp only [if_neg hv];omega
theorem IG(lo hi:Option Int)(n:Nat):Yi lo hi 1 (n:Int)=(((sIx n 0 lo:Nat):Int),((sIx n n hi:Nat):Int)):=by
 have h1:¬ ((1:Int) < 0):=by omega
 unfold Yi
 simp only [h1,if_false]
 refine Prod.ext ?_ ?_
 ·cases lo with
  | none=>rfl
  | some v=>exact clip_eq v n 0
 ·cases hi with
  | none=>rfl
  | some v=>exact clip_eq v n n
theorem Ig(i j:Nat):Xd (i:Int) (j:Int) 1=j - i:=by
 unfold Xd
 have h1:(1:Int) > 0:=by omega
 simp only [h1,if_true,Int.ediv_one]
 split<;>omega
theorem BR{v:UB}{o:Option Int}{Q:Option Int->UG->Prop}(p:Zr v o)(h:Q o s):UZ (Vh prog w) A (Vo.Slice.slicePartIndex v) Q E s:=by
 cases p with
 | none=>exact slicePart_none h
 | int i t=>exact slicePart_int h
theorem sliceApplied_gen{sl:UL}{vl vu:UB}{lo hi:Option Int}{n:Nat}{Q:Int×Int×Nat->UG->Prop}(hs:s.heap.IsSliceOf sl vl vu .none)(pl:Zr vl lo)(pu:Zr vu hi)
  (h:Q (((sIx n 0 lo:Nat):Int),1,sIx n n hi - sIx n 0 lo) s):UZ (Vh prog w) A (Vo.Slice.sliceApplied (.ref sl) (pure (n:Int))) Q E s:=by
 obtain ⟨os,hos,hcs,hds⟩:=id hs
 unfold Vo.Slice.sliceApplied Vo.Slice.sliceFields
 refine U9 (U9 (VX hos hds (x:=vl) rfl (U9 (VX hos hds (x:=vu) rfl (U9 (VX hos hds (x:=.none) rfl (UK ?_)))))))
 refine U9 (slicePart_none ?_)
 show UZ _ _ (if ((1:Int) == 0)=true then _ else _) _ _ s
 rw [if_neg (by decide)]
 refine U9 (BR pl (U9 (BR pu (U9 (UK ?_)))))
 show UZ _ _ (match Yi lo hi 1 (n:Int) with | (lo,hi)=>pure (lo,(1:Int),Xd lo hi 1)) _ _ s
 rw [IG lo hi n]
 show UZ _ _ (pure (((sIx n 0 lo:Nat):Int),(1:Int),Xd ((sIx n 0 lo:Nat):Int) ((sIx n n hi:Nat):Int) 1)) _ _ s
 rw [Ig]
 exact UK h
theorem NX(xs:Array UB)(i k:Nat):((VM k).filterMap λ(m:Nat)=>xs[((i:Int)+(m:Int) * 1).toNat]?).toArray=((xs.toList.drop i).take k).toArray:=by
 have e:(λ(m:Nat)=>xs[((i:Int)+(m:Int) * 1).toNat]?)=λm=>xs[i+m]?:=by
  funext m
  have:((i:Int)+(m:Int) * 1).toNat=i+m:=by omega
  rw [this]
 rw [e]
 have:=pick_run xs i k
 rw [List.filterMap_map] at this
 have e2:((λx=>xs[x]?)∘λx=>i+x)=λm=>xs[i+m]?:=rfl
 rw [e2] at this
 rw [this]
theorem getItem_tuple_cut{t sl:UL}{items:Array UB}{vl vu:UB}{lo hi:Option Int}{Q:UB->UG->Prop}(ht:Yg s.heap t items)(hs:s.heap.IsSliceOf sl vl vu .none)(pl:Zr vl lo)(pu:Zr vu hi)
  (hw:¬ (sIx items.size 0 lo=0/\sIx items.size items.size hi=items.size))
  (h:Q (.ref s.heap.objs.size) {s with heap:=s.heap.push {cls:=.type "tuple",data:=.seq ((items.toList.drop (sIx items.size 0 lo)).take (sIx items.size items.size hi - sIx items.size 0 lo)).toArray}})
  (hsz:items.size<=Vc):UZ (Vh prog w) A (getItem (.ref t) (.ref sl)) Q E s:=by
 have htake:sizeOk (.seq ((items.toList.drop (sIx items.size 0 lo)).take (sIx items.size items.size hi - sIx items.size 0 lo)).toArray):=by
  show ((items.toList.drop (sIx items.size 0 lo)).take (sIx items.size items.size hi - sIx items.size 0 lo)).toArray.size<=Vc
  rw [UO,Ye,List.length_drop,Yk]
  omega
 have hj:sIx items.size items.size hi<=items.size:=Sr _ _ (UI _) hi
 obtain ⟨os,hos,hcs,hds⟩:=id hs
 have hTs:s.TypeIs (.ref sl) "slice":=⟨os,hos,hcs⟩
 unfold getItem
 try with_reducible refine WE ?_
 first | refine U9 (UK ?_) | skip
 refine U9 (wpAny_sequenceKey ht.typeIs (by decide) ?_)
 refine U9 (Wi (name:=X8 "__getitem__") ht.typeIs VP
  (Wc VP ht.typeIs entry_tuple_getitem ?_ (args_tuple_getitem _ _)))
 show UZ _ _ (Vo.Tuple.tupleItemsOf (.ref t) >>= _) _ _ s
 refine U9 (tupleItemsOf_ ht ?_)
 refine U9 (X9 hTs ?_)
 rw [if_pos (by decide)]
 refine U9 (sliceApplied_gen hs pl pu ?_)
 have hno:¬ ((((sIx items.size 0 lo:Nat):Int) == 0 && (1:Int) == 1 && (sIx items.size items.size hi - sIx items.size 0 lo) == items.size)=true):=by
  intro q
  rw [Ve,Ve] at q
  have q1:((sIx items.size 0 lo:Nat):Int)=0:=eq_of_beq q.1.1
  have q2:sIx items.size items.size hi - sIx items.size 0 lo=items.size:=eq_of_beq q.2
  exact hw ⟨by omega,by omega⟩
 show UZ _ _ (if (((sIx items.size 0 lo:Nat):Int) == 0 && (1:Int) == 1 && (sIx items.size items.size hi - sIx items.size 0 lo) == items.size)=true then _ else _) _ _ s
 rw [if_neg hno,NX]
 first
  | exact U9 (m:=Xu _) (VI (UK ⟨_,rfl,UK h⟩) htake)
  | exact U9 (m:=Xu _) (VI (U9 (UK (UK ⟨_,rfl,UK h⟩))) htake)
  | exact U9 (U9 (m:=Xu _) (VI (UK (UK ⟨_,rfl,UK h⟩)) htake))
  | exact U9 (U9 (m:=Xu _) (VI (UK ⟨_,rfl,UK h⟩) htake))
end
end HT
namespace L2
open PySem PySem.Spec PyProof.Rows
abbrev TO:=St->Hp->(Option Int->Hp->Prop)->Prop
noncomputable def PO(X:Cx)(e:Option Vw)(t:TO):Prop:=
 ∀ (pins:List (UL×WK)) (s:UG) (σ:St) (H:Hp) (Q:Option Int->Hp->Prop),Inv X pins σ H s->t σ H Q->
  UZ (Vh X.prog X.w) X.A (evalPart e X.env) (λu s'=>∃ o H',Inv X pins σ H' s'/\Zr u o/\Q o H') X.xe s
noncomputable def tNoPart:TO:=λ_ H Q=>Q UA H
noncomputable def SB(t:TE):TO:=λσ H Q=>t σ H λx H1=>∃ i,x= .int i/\Q (U7 i) H1
theorem CM{ns:List Int}:∀ {us:List UB},Vals (ns.map V.int) us->Xk us ns:=by
 induction ns with
 | nil=>intro us r;rw [Y9] at r;cases r;exact .nil
 | cons n ns ih=>
  intro us r
  rw [UR] at r
  cases r with
  | cons r1 r2=>
   obtain ⟨t,e⟩:=r1
   subst e
   exact .cons n t (ih r2)
section
variable{X:Cx}{e:Vw}{te:TE}{lo hi:Option Vw}{tl th:TO}{pos p2:Xz}
theorem Qe:PO X UA tNoPart:=by
 intro pins s σ H Q I h
 rw [evalPart_none]
 exact UK ⟨UA,H,I,.none,h⟩
theorem O8(h:PE X e te):PO X (U7 e) (SB te):=by
 intro pins s σ H Q I hw
 rw [evalPart_some]
 refine thn (h pins s σ H _ I hw) λu s1 ⟨x,H1,I1,r1,q1⟩=>?_
 obtain ⟨i,rfl,q⟩:=q1
 obtain ⟨t,rfl⟩:=r1
 exact ⟨U7 i,H1,I1,.int i t,q⟩
noncomputable def SlR(X:Cx)(r:V->Option Int->Option Int->Hp->VK->Prop):Prop:=
 ∀ (pins:List (UL×WK)) (s:UG) (σ:St) (H:Hp) (x:V) (v vl vu:UB) (lo hi:Option Int) (sl:UL) (Q:VK),Inv X pins σ H s->RelV x v->s.heap.IsSliceOf sl vl vu .none->Zr vl lo->Zr vu hi->r x lo hi H Q->
  ∃ T id,Zj (.type T) "__getitem__" =pure (U7 (.builtin id))/\s.TypeIs v T/\UZ (Vh X.prog X.w) X.A (getItem v (.ref sl)) (EP X pins σ Q) X.xe s
theorem SlR.or{r r':V->Option Int->Option Int->Hp->VK->Prop}(h:SlR X r)(h':SlR X r'):SlR X (λx lo hi H Q=>r x lo hi H Q∨r' x lo hi H Q):=by
 intro pins s σ H x v vl vu lo hi sl Q I rx hs pl pu q
 rcases q with q | q
 ·exact h pins s σ H x v vl vu lo hi sl Q I rx hs pl pu q
 ·exact h' pins s σ H x v vl vu lo hi sl Q I rx hs pl pu q
noncomputable def tSl(r:V->Option Int->Option Int->Hp->VK->Prop)(te:TE)(tl th:TO):TE:=λσ H Q=>te σ H λx H1=>tl σ H1 λl H2=>th σ H2 λu H3=>r x l u H3 Q
theorem NR{r:V->Option Int->Option Int->Hp->VK->Prop}(hr:SlR X r)(he:PE X e te)(hl:PO X lo tl)(hu:PO X hi th):PE X (.Subscript e (.Slice lo hi UA p2) pos) (tSl r te tl th):=by
 intro pins s σ H Q I h
 refine Subscript_ (thn (he pins s σ H _ I h) λv s1 ⟨x,H1,I1,r1,q1⟩=>?_)
 refine wpAny_Slice (thn (hl pins s1 σ H1 _ I1 q1) λvl s2 ⟨l,H2,I2,pl,q2⟩=>thn (hu pins s2 σ H2 _ I2 q2) λvu s3 ⟨u,H3,I3,pu,q3⟩=>?_)
 rw [evalPart_none]
 refine UK ?_
 have I4:Inv X pins σ H3 {s3 with heap:=s3.heap.push {cls:=.type "slice",data:=.fields #[vl,vu,.none]}}:=I3.kept (t':=s3.toks) λb ob q=>UH _ q
 obtain ⟨T,id,hT,ht,hg⟩:=hr pins {s3 with heap:=s3.heap.push {cls:=.type "slice",data:=.fields #[vl,vu,.none]}} σ H3 x v vl vu l u s3.heap.objs.size Q I4 r1 (V1.IsSliceOf.new ..) pl pu q3
 show UZ (Vh X.prog X.w) X.A (subscriptTail e (.Slice lo hi UA p2) v (.ref s3.heap.objs.size)) (EP X pins σ Q) X.xe {s3 with heap:=s3.heap.push {cls:=.type "slice",data:=.fields #[vl,vu,.none]}}
 exact tail_any (ops:=[.ref s3.heap.objs.size,v]) ht hT hg (by with_unfolding_all rfl)
noncomputable def EN(xs:List V)(lo hi:Option Int):List V:=(xs.drop (HT.sIx xs.length 0 lo)).take (HT.sIx xs.length xs.length hi - HT.sIx xs.length 0 lo)
theorem Bd(xs:List V)(lo hi:Option Int):(EN xs lo hi).length<=xs.length:=by
 unfold EN
 rw [Ye,List.length_drop]
 omega
noncomputable def Ui(K:UF):V->Option Int->Option Int->Hp->VK->Prop:=λx lo hi H Q=>∃ a xs,x= .ref a/\SqT K H a xs/\
 ¬ (HT.sIx xs.length 0 lo=0/\HT.sIx xs.length xs.length hi=xs.length)/\∀ p,H p=UA->Q (.ref p) (upd H p (.tup (EN xs lo hi)))
theorem sl_tup:SlR X (Ui X.K):=by
 intro pins s σ H x v vl vu lo hi sl Q I rx hs pl pu h
 obtain ⟨a,xs,rfl,hx,hw,q⟩:=h
 cases rx
 obtain ⟨its,r,ht,hz⟩:=I.tuple hx
 have hlen:its.toArray.size=xs.length:=by rw [UO];exact r.length.symm
 refine ⟨"tuple",_,VP.lookup,ht.typeIs,?_⟩
 refine HT.getItem_tuple_cut ht hs pl pu (by rw [hlen];exact hw) ?_ (by rw [hlen];exact hz)
 rw [hlen]
 refine ⟨.ref s.heap.objs.size,_,I.laid (t':=s.toks) (o:=.tup (EN xs lo hi)) (λb ob q=>UH _ q) (UI _) ?_,rfl,q _ (I.hok.fresh (UI _))⟩
 exact ⟨⟨UU (Bd xs lo hi) hz,tv (US _ rfl) rfl⟩,_,(r.drop (HT.sIx xs.length 0 lo)).take (HT.sIx xs.length xs.length hi - HT.sIx xs.length 0 lo),Yg.new _ _⟩
noncomputable def Qp(K:UF):R2:=λx y H Q=>∃ a b xs ys,x= .ref a/\y= .ref b/\SqT K H a xs/\SqT K H b ys/\xs≠[]/\xs.length+ys.length<=Vc/\
 (ys=[]->Q (.ref a) H)/\(ys≠[]->∀ p,H p=UA->Q (.ref p) (upd H p (.tup (xs++ys))))
theorem Vals.nil_iff{xs:List V}{us:List UB}(r:Vals xs us):us=[]↔xs=[]:=by
 cases r with
 | nil=>simp
 | cons _ _=>simp
theorem op_catT:OpR X (WN .Add) (Qp X.K):=by
 intro pins s σ H x y v u Q I rx ry h
 obtain ⟨a,b,xs,ys,rfl,rfl,ha,hb,hx,hz,q1,q2⟩:=h
 cases rx
 cases ry
 obtain ⟨its,r1,p1,_⟩:=I.tuple ha
 obtain ⟨its2,r2,p2,_⟩:=I.tuple hb
 refine HT.cat_tup p1 p2 (λz=>hx (r1.nil_iff.mp z)) (λz=>⟨.ref a,H,I,rfl,q1 (r2.nil_iff.mp z)⟩) (λz=>?_) (by rw [<- r1.length,<- r2.length];exact hz)
 refine ⟨.ref s.heap.objs.size,_,I.laid (t':=s.toks) (o:=.tup (xs++ys)) (λb ob q=>UH _ q) (UI _) ?_,rfl,q2 (λw=>z (r2.nil_iff.mpr w)) _ (I.hok.fresh (UI _))⟩
 exact ⟨⟨by rw [UC];exact hz,tv (US _ rfl) rfl⟩,_,r1.append r2,Yg.new _ _⟩
end
end L2
namespace L2
open PySem PySem.Spec PyProof.Rows
noncomputable def ixN(n:Nat)(i:Int):Option Nat:=if 0<=i then (if i < n then U7 i.toNat else UA) else if -(n:Int)<=i then U7 (i+n).toNat else UA
noncomputable def atI{α:Type}(xs:List α)(i:Int):Option α:=(ixN xs.length i).bind λj=>xs[j]?
theorem O2{n:Nat}{i:Int}{j:Nat}(h:ixN n i=U7 j):seqIndex? i n=U7 j/\j < n/\-(n:Int)<=i/\i < n:=by
 unfold ixN at h
 by_cases h0:0<=i
 ·rw [if_pos h0] at h
  by_cases h1:i < n
  ·rw [if_pos h1] at h
   have e:i.toNat=j:=Vx h
   exact ⟨by rw [seqIndex_of h0 h1,e],by omega,by omega,h1⟩
  ·rw [if_neg h1] at h;cases h
 ·rw [if_neg h0] at h
  by_cases h1:-(n:Int)<=i
  ·rw [if_pos h1] at h
   have e:(i+n).toNat=j:=Vx h
   exact ⟨by rw [seqIndex_neg (by omega) h1,e],by omega,h1,by omega⟩
  ·rw [if_neg h1] at h;cases h
theorem Ft{α:Type}{xs:List α}{i:Int}{v:α}(h:atI xs i=U7 v):∃ j,seqIndex? i xs.length=U7 j/\xs[j]? =U7 v/\j < xs.length/\-(xs.length:Int)<=i/\i < xs.length:=by
 unfold atI at h
 cases e:ixN xs.length i with
 | none=>rw [e] at h;cases h
 | some j=>
  rw [e] at h
  obtain ⟨h1,h2,h3,h4⟩:=O2 e
  exact ⟨j,h1,h,h2,h3,h4⟩
noncomputable def BF(b:Vw):Prop:=∀ o i,subscripted b false o i=operate [o,i] (getItem o i)
noncomputable def IxR(X:Cx)(r:R2):Prop:=
 ∀ (value slice:Vw) (pins:List (UL×WK)) (s:UG) (σ:St) (H:Hp) (x y:V) (v u:UB) (Q:VK),Inv X pins σ H s->RelV x v->RelV y u->r x y H Q->
  subscripted slice false v u=operate [v,u] (getItem v u)->UZ (Vh X.prog X.w) X.A (subscriptTail value slice v u) (EP X pins σ Q) X.xe s
noncomputable def MtR(X:Cx)(id:String)(r:V->List V->Hp->VK->Prop):Prop:=
 ∀ (pins:List (UL×WK)) (s:UG) (σ:St) (H:Hp) (x:V) (xs:List V) (v:UB) (us:List UB) (Q:VK),Inv X pins σ H s->RelV x v->Vals xs us->r x xs H Q->
  UZ (Vh X.prog X.w) X.A (call (.builtin id) (v::us)) (EP X pins σ Q) X.xe s
section
variable{X:Cx}{a b:Vw}{ta tb:TE}{pos:Xz}
theorem IxR.or{r r':R2}(h:IxR X r)(h':IxR X r'):IxR X (λx y H Q=>r x y H Q∨r' x y H Q):=by
 intro value slice pins s σ H x y v u Q I rx ry q hs
 rcases q with q | q
 ·exact h value slice pins s σ H x y v u Q I rx ry q hs
 ·exact h' value slice pins s σ H x y v u Q I rx ry q hs
theorem NG{r:R2}(hr:IxR X r)(ha:PE X a ta)(hb:PE X b tb)(hs:BF b):PE X (.Subscript a b pos) (tOp r ta tb):=by
 intro pins s σ H Q I h
 exact Subscript_ (QZ ha hb I h λv u s2 x y H2 I2 rx ry q=>hr a b pins s2 σ H2 x y v u Q I2 rx ry q (hs _ _))
noncomputable def S1(K:UF):R2:=λx y H Q=>∃ p xs i v,x= .ref p/\y= .int i/\SqL K H p xs/\atI xs i=U7 v/\Q v H
noncomputable def SL(K:UF):R2:=λx y H Q=>∃ p xs i v,x= .ref p/\y= .int i/\SqT K H p xs/\atI xs i=U7 v/\Q v H
noncomputable def rIxS:R2:=λx y H Q=>∃ z i c,x= .str z/\y= .int i/\z.length<=Vc/\atI z.cps.toList i=U7 c/\Q (.str ⟨#[c]⟩) H
theorem ix_list:IxR X (S1 X.K):=by
 intro value slice pins s σ H x y v u Q I rx ry h hs
 obtain ⟨p,xs,i,z,rfl,rfl,hq,he,q⟩:=h
 cases rx
 obtain ⟨t,rfl⟩:=ry
 obtain ⟨its,r,pl,hz⟩:=I.list hq
 obtain ⟨j,h1,h2,h3,h4,h5⟩:=Ft he
 obtain ⟨w,ew,rw'⟩:=r.get h2
 have hl:=r.length
 have hn:=Cj
 have fin:EP X pins σ Q w s:=⟨z,H,I,rw',q⟩
 by_cases h0:0<=i
 ·have hj:i.toNat=j:=by
    rw [seqIndex_of h0 h5] at h1
    exact Vx h1
  exact item_listR pl.isList h0 (by omega) (by rw [hj];simpa using ew) fin hs
 ·have hj:(i+(its.toArray.size:Int)).toNat=j:=by
    rw [seqIndex_neg (by omega) h4] at h1
    rw [UO,<- hl]
    exact Vx h1
  exact subscriptTail_builtinR (x:=w) pl.isList.typeIs slot_list_getitem.lookup
   (wpAny_getItem_list_neg (Q:=λr s'=>r=w/\EP X pins σ Q r s') pl.isList (by omega) (by rw [UO]<;>omega) (by omega) (by rw [hj];simpa using ew) ⟨rfl,fin⟩) hs
theorem ix_tup:IxR X (SL X.K):=by
 intro value slice pins s σ H x y v u Q I rx ry h hs
 obtain ⟨p,xs,i,z,rfl,rfl,hq,he,q⟩:=h
 cases rx
 obtain ⟨t,rfl⟩:=ry
 obtain ⟨its,r,pl,hz⟩:=I.tuple hq
 obtain ⟨j,h1,h2,h3,h4,h5⟩:=Ft he
 obtain ⟨w,ew,rw'⟩:=r.get h2
 have hl:=r.length
 have hn:=Cj
 have fin:EP X pins σ Q w s:=⟨z,H,I,rw',q⟩
 exact subscriptTail_builtinR (x:=w) pl.typeIs slot_tuple_getitem.lookup
  (getItem_tuple (j:=j) (Q:=λr s'=>r=w/\EP X pins σ Q r s') pl (by omega) (by omega) (by rw [UO,<- hl];exact h1) (by simpa using ew) ⟨rfl,fin⟩) hs
theorem RR:IxR X rIxS:=by
 intro value slice pins s σ H x y v u Q I rx ry h hs
 obtain ⟨z,i,c,rfl,rfl,hz,he,q⟩:=h
 obtain ⟨t,rfl⟩:=rx
 obtain ⟨t',rfl⟩:=ry
 obtain ⟨j,h1,h2,h3,h4,h5⟩:=Ft he
 have hl:z.cps.toList.length=z.length:=by simp [Vk.length]
 rw [hl] at h1 h4 h5
 have hn:=Cj
 exact tail_any (typeIs_str s z t) slot_str_getitem.lookup (getItem_str (c:=c) (by
  have e1:decide (i < -(2 ^ 63:Int))=false:=decide_eq_false (by omega)
  have e2:decide (i≥2 ^ 63)=false:=decide_eq_false (by omega)
  rw [e1,e2,Bool.or_false]) (by rw [h1];simpa using h2) ⟨.str ⟨#[c]⟩,H,I.tok _,⟨_,rfl⟩,q⟩) hs
noncomputable def rIx(K:UF):R2:=λx y H Q=>S1 K x y H Q∨SL K x y H Q∨rIxS x y H Q
theorem Jg:IxR X (rIx X.K):=ix_list.or (ix_tup.or RR)
theorem Fm(lo hi:Option Int)(n:Nat):(Y3 lo hi UA n).1=((HT.sIx n 0 lo:Nat):Int)/\(Y3 lo hi UA n).2.1=((HT.sIx n n hi:Nat):Int)/\(Y3 lo hi UA n).2.2=1:=by
 refine ⟨?_,?_,rfl⟩
 ·cases lo with
  | none=>simp [Y3,HT.sIx]
  | some i=>
   simp only [Y3,HT.sIx,Option.getD_none,show (1:Int) > 0 by decide,if_true]
   by_cases h:i < 0
   ·simp only [h,if_true]<;>omega
   ·simp only [h,if_false]<;>omega
 ·cases hi with
  | none=>simp [Y3,HT.sIx]
  | some i=>
   simp only [Y3,HT.sIx,Option.getD_none,show (1:Int) > 0 by decide,if_true]
   by_cases h:i < 0
   ·simp only [h,if_true]<;>omega
   ·simp only [h,if_false]<;>omega
theorem Dx(its:List UB)(lo hi:Option Int):slicePick its.toArray lo hi UA=((its.drop (HT.sIx its.length 0 lo)).take (HT.sIx its.length its.length hi - HT.sIx its.length 0 lo)).toArray:=by
 obtain ⟨h1,h2,h3⟩:=Fm lo hi its.toArray.size
 unfold slicePick
 rw [h1,h2,h3]
 simp only [sliceRange_one,pick_run,UO]<;>rfl
noncomputable def TV(K:UF):V->Option Int->Option Int->Hp->VK->Prop:=λx lo hi H Q=>∃ a xs,x= .ref a/\SqL K H a xs/\∀ p,H p=UA->Q (.ref p) (upd H p (.lst (EN xs lo hi)))
theorem Ov:SlR X (TV X.K):=by
 intro pins s σ H x v vl vu lo hi sl Q I rx hs pl pu h
 obtain ⟨a,xs,rfl,hx,q⟩:=h
 cases rx
 obtain ⟨its,r,ht,hz⟩:=I.list hx
 have hlen:=r.length
 refine ⟨"list",_,slot_list_getitem.lookup,ht.isList.typeIs,?_⟩
 refine wpAny_getItem_list_slice ht.isList hs pl pu .none (by simp) ?_ (by rw [UO]<;>omega)
 rw [Dx,<- hlen]
 refine ⟨.ref s.heap.objs.size,_,I.laid (t':=s.toks) (o:=.lst (EN xs lo hi)) (λb ob q=>UH _ q) (UI _) ?_,rfl,q _ (I.hok.fresh (UI _))⟩
 exact ⟨UU (Bd xs lo hi) hz,_,0,(r.drop (HT.sIx xs.length 0 lo)).take (HT.sIx xs.length xs.length hi - HT.sIx xs.length 0 lo),US _ rfl⟩
theorem call_len_seq:CallR X (.builtin "len") (λxs H Q=>∃ p ys,xs=[.ref p]/\(SqL X.K H p ys∨SqT X.K H p ys)/\Q (.int ys.length) H):=by
 intro pins s σ H xs us Q I r h
 obtain ⟨p,ys,rfl,hq,q⟩:=h
 obtain ⟨u,rfl,rx⟩:=Av r
 cases rx
 have hn:=Cj
 rcases hq with hq | hq
 ·obtain ⟨its,r',pl,hz⟩:=I.list hq
  have hlen:=r'.length
  exact Calls.call_len_list pl.isList (by simp only [UO]<;>omega) ⟨.int ys.length,H,I.tok _,⟨s.toks+1,by rw [UO,hlen]⟩,q⟩
 ·obtain ⟨its,r',pl,hz⟩:=I.tuple hq
  have hlen:=r'.length
  exact len_tuple pl (by simp only [UO]<;>omega) ⟨.int ys.length,H,I.tok _,⟨s.toks+1,by rw [UO,hlen]⟩,q⟩
theorem E2:CallR X (.builtin "len") (λxs H Q=>∃ z,xs=[.str z]/\z.length<=Vc/\Q (.int z.length) H):=by
 intro pins s σ H xs us Q I r h
 obtain ⟨z,rfl,hz,q⟩:=h
 obtain ⟨u,rfl,t,rfl⟩:=Av r
 have hn:=Cj
 exact len_str (by omega) ⟨.int z.length,H,I.tok _,⟨_,rfl⟩,q⟩
theorem CallR.or{f:UB}{r r':List V->Hp->VK->Prop}(h:CallR X f r)(h':CallR X f r'):CallR X f (λxs H Q=>r xs H Q∨r' xs H Q):=by
 intro pins s σ H xs us Q I rs q
 rcases q with q | q
 ·exact h pins s σ H xs us Q I rs q
 ·exact h' pins s σ H xs us Q I rs q
theorem ET:CallR X (.type "list") (λxs H Q=>∃ p ys,xs=[.ref p]/\(SqL X.K H p ys∨SqT X.K H p ys)/\∀ l,H l=UA->Q (.ref l) (upd H l (.lst ys))):=by
 intro pins s σ H xs us Q I r h
 obtain ⟨p,ys,rfl,hq,q⟩:=h
 obtain ⟨u,rfl,rx⟩:=Av r
 cases rx
 have fin:∀ (its:List UB),Vals ys its->ys.length<=Vc->∀ (h':V1) (c':Nat),(∀ b o',s.heap.get? b=U7 o'->h'.get? b=U7 o')->
   h'.get? s.heap.objs.size=U7 {cls:=.type "list",dict:=UA,data:=.seq its.toArray c',slots:=#[]}->EP X pins σ Q (.ref s.heap.objs.size) {s with heap:=h'}:=λits r' hz h' c' kp e=>
  ⟨.ref s.heap.objs.size,_,I.laid (t':=s.toks) kp (UI _) (show ObjOk X.prog X.w _ h' _ (.lst ys) from ⟨hz,its,c',r',e⟩),rfl,q _ (I.hok.fresh (UI _))⟩
 rcases hq with hq | hq
 ·obtain ⟨its,r',pl,hz⟩:=I.list hq
  have hlen:=r'.length
  obtain ⟨o,ho,hc,n,hd⟩:=pl.isList
  exact call_list_seq p (.inl rfl) ho hc hd (λh' c' kp e=>fin its r' hz h' c' kp e) (by simp only [UO]<;>omega)
 ·obtain ⟨its,r',pl,hz⟩:=I.tuple hq
  have hlen:=r'.length
  obtain ⟨o,ho,hc,n,hd⟩:=pl
  exact call_list_seq p (.inr rfl) ho hc hd (λh' c' kp e=>fin its r' hz h' c' kp e) (by simp only [UO]<;>omega)
theorem rg:CallR X (.type "tuple") (λxs H Q=>∃ p ys,xs=[.ref p]/\((SqL X.K H p ys/\∀ l,H l=UA->Q (.ref l) (upd H l (.tup ys)))∨(SqT X.K H p ys/\Q (.ref p) H))):=by
 intro pins s σ H xs us Q I r h
 obtain ⟨p,ys,rfl,h⟩:=h
 obtain ⟨u,rfl,rx⟩:=Av r
 cases rx
 rcases h with ⟨hq,q⟩ | ⟨hq,q⟩
 ·obtain ⟨its,r',pl,hz⟩:=I.list hq
  have hlen:=r'.length
  refine call_tuple_list pl.isList (λh' kp=>?_) (by simp only [UO]<;>omega)
  have I1:Inv X pins σ H {s with heap:=h'}:=I.kept (t':=s.toks) kp
  have I2:Inv X pins σ (upd H h'.objs.size (.tup ys)) {s with heap:=h'.push {cls:=.type "tuple",data:=.seq its.toArray}}:=
   I1.laid (t':=s.toks) (λb o e=>UH _ e) (UI _) (show ObjOk X.prog X.w _ _ _ (.tup ys) from ⟨⟨hz,tv (US _ rfl) rfl⟩,its,r',Yg.new _ _⟩)
  exact ⟨.ref h'.objs.size,_,I2,rfl,q _ (I1.hok.fresh (UI _))⟩
 ·obtain ⟨its,r',pl,hz⟩:=I.tuple hq
  exact call_tuple_same pl ⟨.ref p,H,I,rfl,q⟩
noncomputable def tyV(K:UF)(T:String)(x:V)(H:Hp):Prop:=match x with
 | .str _=>T= "str"
 | .int _=>T= "int"
 | .ref p=>(T= "list"/\∃ xs,SqL K H p xs)∨(T= "tuple"/\∃ o,K.lookup p=U7 o/\o.cls= .type "tuple"/\o.dict=UA)∨
  (T= "dict"/\((∃ kvs,H p=U7 (.dK kvs))∨∃ kvs ep,H p=U7 (.dT kvs ep)))∨(T= "set"/\∃ S n,H p=U7 (.set S n))
 | _=>False
theorem NO{pins:List (UL×WK)}{σ:St}{H:Hp}{s:UG}{T:String}{x:V}{v:UB}(I:Inv X pins σ H s)(r:RelV x v)(ty:tyV X.K T x H):
  s.TypeIs v T/\∀ a,v= .ref a->∃ ob,s.heap.get? a=U7 ob/\ob.dict=UA:=by
 cases x with
 | str z=>
  obtain ⟨t,rfl⟩:=r
  cases (show T= "str" from ty)
  exact ⟨typeIs_str s z t,λ_ e=>nomatch e⟩
 | int i=>
  obtain ⟨t,rfl⟩:=r
  cases (show T= "int" from ty)
  exact ⟨typeIs_int s i t,λ_ e=>nomatch e⟩
 | ref p=>
  cases r
  rcases ty with ⟨rfl,xs,hq⟩ | ⟨rfl,o,hk,hc,hd⟩ | ⟨rfl,hk⟩ | ⟨rfl,S,n,hk⟩
  ·obtain ⟨its,_,pl,_⟩:=I.list hq
   refine ⟨pl.isList.typeIs,λa e=>?_⟩
   cases e
   obtain ⟨o,n,e,c,hd,_⟩:=pl
   exact ⟨o,e,hd⟩
  ·refine ⟨⟨o,I.kIn p o hk,hc⟩,λa e=>?_⟩
   cases e
   exact ⟨o,I.kIn _ o hk,hd⟩
  ·have z:∃ o,s.heap.get? p=U7 o/\o.ExactDict:=by
     rcases hk with ⟨kvs,hk⟩ | ⟨kvs,ep,hk⟩
     ·obtain ⟨_,_,_,_,o,_,_,e,ex,_⟩:=I.hok p _ hk
      exact ⟨o,e,ex⟩
     ·obtain ⟨_,_,_,_,o,_,e,ex,_⟩:=I.hok p _ hk
      exact ⟨o,e,ex⟩
   obtain ⟨o,e,ex⟩:=z
   refine ⟨⟨o,e,ex.1⟩,λa e2=>?_⟩
   cases e2
   exact ⟨o,e,ex.2.1⟩
  ·obtain ⟨o,_,_,_,e,ex,_⟩:=I.hok p _ hk
   refine ⟨⟨o,e,ex.1⟩,λa e2=>?_⟩
   cases e2
   exact ⟨o,e,ex.2.1⟩
 | _=>exact WY ty
noncomputable def Ue(K:UF)(T:String)(r:V->List V->Hp->VK->Prop)(to:TE):TE:=λσ H Q=>to σ H λx H1=>tyV K T x H1/\r x [] H1 Q
noncomputable def tBM(K:UF)(T:String)(r:V->List V->Hp->VK->Prop)(to:TE)(t:TA):TE:=λσ H Q=>to σ H λx H1=>tyV K T x H1/\t σ H1 λxs H2=>r x xs H2 Q
variable{o e:Vw}{es:List Vw}{to:TE}{t:TA}{name:Vk}{apos cpos:Xz}{T id:String}{r:V->List V->Hp->VK->Prop}
theorem Su(pa:PlainAttrs T)(slot:Slot T name id)(hty:typeOf (.builtin id)=pure (.type "method_descriptor"))(hm:MtR X id r)(ho:PE X o to)
  (hbase:Wd o name X.env (VN o X.env)=VN o X.env:=by rfl) (hline:(apos.endLine == cpos.line)=true:=by rfl):PE X (.Call (.Attribute o name apos) [] [] cpos) (Ue X.K T r to):=by
 intro pins s σ H Q I h
 refine wpAny_Call_method0_late hbase hline (thn (ho pins s σ H _ I h) λv s1 ⟨x,H1,I1,r1,ty,q1⟩=>?_)
 obtain ⟨h1,h2⟩:=NO I1 r1 ty
 exact ⟨T,id,pa,slot,hty,h1,h2,WQ rfl (PySem.evalArgs_none (hm pins s1 σ H1 x [] v [] Q I1 r1 .nil q1))⟩
theorem Eg(pa:PlainAttrs T)(slot:Slot T name id)(hty:typeOf (.builtin id)=pure (.type "method_descriptor"))(hm:MtR X id r)(ho:PE X o to)(ha:PA X (e::es) t)
  (hbase:Wd o name X.env (VN o X.env)=VN o X.env:=by rfl)
  (hfew:((VC cpos (UJ (e::es) X.env)).all (λx=>!x.1) && (YS cpos (X7 [] X.env)).all (λx=>x.1.isSome)
    && decide ((e::es).length+([]:List Xl).length+(if ([]:List Xl).isEmpty then 0 else 1) < 30))=true:=by rfl)
  (hline:(apos.endLine == cpos.line)=true:=by rfl) (hs:UJ (e::es) X.env=(false,VN e X.env)::UJ es X.env:=by rfl) (hplain:(VC cpos (UJ es X.env)).any (·.1)=false:=by rfl):
  PE X (.Call (.Attribute o name apos) (e::es) [] cpos) (tBM X.K T r to t):=by
 intro pins s σ H Q I h
 refine wpAny_Call_method_late hbase hfew hline rfl (thn (ho pins s σ H _ I h) λv s1 ⟨x,H1,I1,r1,ty,q1⟩=>?_)
 obtain ⟨h1,h2⟩:=NO I1 r1 ty
 refine ⟨T,id,pa,slot,hty,h1,h2,?_⟩
 have hA:=ha cpos pins s1 σ H1 _ I1 q1
 rw [hs] at hA ⊢
 refine WQ (by show (false || (VC cpos (UJ es X.env)).any (·.1))=false;rw [hplain]<;>rfl) (YT ?_)
 exact thn hA λus s2 ⟨vs,H2,I2,r2,q2⟩=>hm pins s2 σ H2 x vs v us Q I2 r1 r2 q2
end
end L2
namespace L2
open PySem PySem.Spec PyProof.Rows
noncomputable def MtM(X:Cx)(id:String)(r:V->List V->Hp->VK->Prop):Prop:=
 ∀ (pins:List (UL×WK)) (s:UG) (σ:St) (H:Hp) (x:V) (xs:List V) (v:UB) (us:List UB) (Q:VK),Inv X pins σ H s->RelV x v->Vals xs us->r x xs H Q->
  UZ (Vh X.prog X.w) X.A (call (.builtin id) (v::us)) (EP X pins σ Q) X.xe s
theorem Vals.one:∀ {x:V} {us:List UB},Vals [x] us->∃ u,us=[u]/\RelV x u
 | _,_,.cons r .nil=>⟨_,rfl,r⟩
theorem Vals.zero:∀ {us:List UB},Vals [] us->us=[]
 | _,.nil=>rfl
theorem Vals.dropLast{xs:List V}{us:List UB}(h:Vals xs us):Vals xs.dropLast us.dropLast:=by
 induction h with
 | nil=>exact .nil
 | cons r t ih=>
  cases t with
  | nil=>exact .nil
  | cons q t'=>exact .cons r ih
theorem Vals.eraseIdx:∀ {xs:List V} {us:List UB} (i:Nat),Vals xs us->Vals (xs.eraseIdx i) (us.eraseIdx i)
 | _,_,_,.nil=>.nil
 | _,_,0,.cons _ t=>t
 | _,_,i+1,.cons r t=>.cons r (Vals.eraseIdx i t)
theorem Vals.rep{xs:List V}{us:List UB}(h:Vals xs us):∀ k:Nat,Vals (UW k xs).flatten (UW k us).flatten
 | 0=>.nil
 | k+1=>by
  rw [We,We,WL,WL]
  exact Vals.append h (Vals.rep h k)
theorem IR{α:Type}(l:List α):l.eraseIdx (l.length - 1)=l.dropLast:=by
 induction l with
 | nil=>rfl
 | cons a r ih=>
  cases r with
  | nil=>rfl
  | cons b r=>
   have e:(a::b::r).length - 1=((b::r).length - 1)+1:=by
    have h1:(a::b::r).length=r.length+2:=rfl
    have h2:(b::r).length=r.length+1:=rfl
    omega
   rw [e,List.eraseIdx_cons_succ,ih]
   all_goals rfl
theorem Em{α:Type}:∀ (l:List α) (i:Nat),(l.eraseIdx i).length<=l.length
 | [],_=>UI _
 | _::_,0=>Nat.le_succ _
 | _::r,i+1=>Nat.succ_le_succ (Em r i)
theorem AW(its:List UB):∀ (k:Nat) (acc:List UB),
  Zk (λx1 x2=>x1++x2) acc.toArray (UW k its.toArray)=(acc++(UW k its).flatten).toArray
 | 0,acc=>by simp
 | k+1,acc=>by
  have e:acc.toArray++its.toArray=(acc++its).toArray:=by simp
  have e2:(acc++its)++(UW k its).flatten=acc++(UW (k+1) its).flatten:=by
   rw [We,WL,Vd]
  rw [<- e2,<- AW its k (acc++its),<- e,We,Ws]
section
variable{X:Cx}{pins:List (UL×WK)}{σ:St}{H:Hp}{s:UG}{l b:UL}{xs ys zs:List V}
theorem Inv.lset{its its':List UB}{n:Nat}{f:Array UB->Array UB}{t':Nat}(I:Inv X pins σ H s)(hH:H l=U7 (.lst xs))
  (e:s.heap.get? l=U7 {cls:=.type "list",data:=.seq its.toArray n}) (hf:f its.toArray=its'.toArray) (hv:Vals ys its') (hz:ys.length<=Vc):
  Inv X pins σ (upd H l (.lst ys)) {s with heap:=s.heap.update l (WZ f),toks:=t'}:=by
 have q:=PySem.IsL.update e f
 rw [hf] at q
 refine I.write (x:=l) (e:=l) (by rw [hH];exact trivial) (.inl rfl) (λb' u hb hu=>(V0 s.heap (WZ f) (Wv hb)).trans hu) ⟨_,q⟩ ?_
 exact ⟨hz,its',_,hv,q⟩
theorem Inv.lnew{its:List UB}{t':Nat}(I:Inv X pins σ H s)(hv:Vals ys its)(hz:ys.length<=Vc):
  Inv X pins σ (upd H s.heap.objs.size (.lst ys)) {s with heap:=s.heap.push {cls:=.type "list",data:=.seq its.toArray},toks:=t'}:=
 I.laid (λ_ _ q=>UH _ q) (UI _) ⟨hz,its,0,hv,US _ rfl⟩
theorem Inv.fresh(I:Inv X pins σ H s):H s.heap.objs.size=UA:=I.hok.fresh (UI _)
theorem Inv.lstM(I:Inv X pins σ H s)(hH:H l=U7 (.lst xs)):xs.length<=Vc/\∃ (its:List UB) (n:Nat),Vals xs its/\xs.length=its.length/\s.heap.get? l=U7 {cls:=.type "list",data:=.seq its.toArray n}:=by
 obtain ⟨z,its,n,r,e⟩:=I.hok l _ hH
 exact ⟨z,its,n,r,r.length,e⟩
theorem BX{n:Nat}(h:n<=Vc):VO n=false:=by
 unfold VO
 exact decide_eq_false (by omega)
end
section
variable{X:Cx}
noncomputable def rAppend:V->List V->Hp->VK->Prop:=λx vs H Q=>∃ l xs y,x= .ref l/\vs=[y]/\H l=U7 (.lst xs)/\xs.length < Vc/\Q .non (upd H l (.lst (xs++[y])))
theorem pq:MtM X "list.append" rAppend:=by
 intro pins s σ H x vs v us Q I rx rv h
 obtain ⟨l,xs,y,rfl,rfl,hH,hz,q⟩:=h
 cases rx
 obtain ⟨u,rfl,ru⟩:=rv.one
 obtain ⟨z,its,n,r,hl,e⟩:=I.lstM hH
 refine W9 F.slot_list_append ⟨_,e,rfl⟩ F.entry_list_append (F.args_list_append_2 _ _) (PySem.list_append l its.toArray n u (by rw [UO];omega)) ⟨e,?_⟩
 refine ⟨.non,_,I.lset (its':=its++[u]) hH e (by simp) (r.append (.cons ru .nil)) ?_,rfl,q⟩
 rw [UC,UX]
 omega
noncomputable def rPop:V->List V->Hp->VK->Prop:=λx vs H Q=>∃ l xs y,x= .ref l/\vs=[]/\H l=U7 (.lst xs)/\xs[xs.length - 1]? =U7 y/\Q y (upd H l (.lst xs.dropLast))
theorem QX:MtM X "list.pop" rPop:=by
 intro pins s σ H x vs v us Q I rx rv h
 obtain ⟨l,xs,y,rfl,rfl,hH,hy,q⟩:=h
 cases rx
 have hus:=rv.zero
 subst hus
 obtain ⟨z,its,n,r,hl,e⟩:=I.lstM hH
 obtain ⟨u,hu,ru⟩:=r.get hy
 have hy':its.toArray[its.toArray.size - 1]? =U7 u:=by
  show its.toArray[its.length - 1]? =U7 u
  rw [<- Wf,<- hl]
  exact hu
 refine W9 F.slot_list_pop ⟨_,e,rfl⟩ F.entry_list_pop (F.args_list_pop_1 _) (MeetsSeq.list_pop_last l its.toArray n u hy' (by rw [UO];omega)) ⟨e,?_⟩
 refine ⟨y,_,I.lset (its':=its.dropLast) hH e ?_ r.dropLast ?_,ru,q⟩
 ·show its.toArray.eraseIdxIfInBounds (its.toArray.size - 1)=its.dropLast.toArray
  rw [UO,List.eraseIdxIfInBounds_toArray,IR]
 ·rw [List.length_dropLast]
  omega
noncomputable def rPopAt:V->List V->Hp->VK->Prop:=λx vs H Q=>∃ l xs i k y,x= .ref l/\vs=[.int i]/\H l=U7 (.lst xs)/\-(2 ^ 63)<=i/\i < 2 ^ 63/\seqIndex? i xs.length=U7 k/\xs[k]? =U7 y/\Q y (upd H l (.lst (xs.eraseIdx k)))
theorem Ms:MtM X "list.pop" rPopAt:=by
 intro pins s σ H x vs v us Q I rx rv h
 obtain ⟨l,xs,i,k,y,rfl,rfl,hH,h1,h2,hk,hy,q⟩:=h
 cases rx
 obtain ⟨u,rfl,ru⟩:=rv.one
 obtain ⟨t,rfl⟩:=ru
 obtain ⟨z,its,n,r,hl,e⟩:=I.lstM hH
 obtain ⟨w,hw,rw'⟩:=r.get hy
 refine W9 F.slot_list_pop ⟨_,e,rfl⟩ F.entry_list_pop (F.args_list_pop_2 _ _)
  (MeetsSeq.list_pop_at l its.toArray n i t k w (fitsIndex_both h1 h2) (by rw [UO,<- hl];exact hk) (by rw [<- Wf];exact hw) (by rw [UO];omega)) ⟨e,?_⟩
 refine ⟨y,_,I.lset (its':=its.eraseIdx k) hH e ?_ (r.eraseIdx k) ?_,rw',q⟩
 ·show its.toArray.eraseIdxIfInBounds k=(its.eraseIdx k).toArray
  rw [List.eraseIdxIfInBounds_toArray]
 ·have:=Em xs k
  omega
theorem Fw{α:Type}(xs:List α)(k:Nat):(UW k xs).flatten.length=k * xs.length:=by
 induction k with
 | zero=>simp
 | succ k ih=>rw [We,WL,UC,ih,Nat.succ_mul,Nat.add_comm]
end
end L2
namespace Att
open PySem PySem.W PySem.Calls PyProof.Rows
theorem Bz{P:Params}{h:V1}:∀ (ns:List Int) (vs:List UB),WellAll P h vs (ns.map WData.int)->Xk vs ns:=by
 intro ns
 induction ns with
 | nil=>
  intro vs w
  rw [Y9] at w
  cases w
  exact .nil
 | cons n ns ih=>
  intro vs w
  rw [UR] at w
  cases w with
  | cons a b=>
   cases a
   exact .cons _ _ (ih _ b)
theorem Ln{l:OpenLaw}{n:Nat}(hn:l.most=U7 n){P:Params}{h:V1}{args:List WData}{vals:List UB}
  (hpre:l.row.toRowW.claim.pre args=true) (hwl:WellAll P h vals args):
  ∃ a vs ns,vals=[VD a]/\args=[WData.list (ns.map WData.int)]/\h.get? a=U7 {cls:=.type "list",data:=.seq vs.toArray}/\Xk vs ns/\ns.length<=n:=by
 have hsh:WShape.hasAll [] args [.list .int]=true:=(pre_splitW hpre).1
 have hc:l.pre.holds [] {args:=args} =true:=(pre_splitW hpre).2
 obtain ⟨d,r,rfl,h1,h2⟩:=hasAllW_cons hsh
 obtain rfl:=hasAllW_nil h2
 obtain ⟨xs,rfl,h3⟩:=hasW_list h1
 obtain ⟨ns,rfl⟩:=items_int h3
 have hlen:ns.length<=n:=by
  unfold OpenLaw.pre at hc
  have h4:(WTm.not (.lt (.lit (.int (n:Int))) (.len (.arg 0)))).holds [] {args:=[.list (ns.map .int)]} =true:=by
   have h4:=(holds_andW hc).1
   rw [hn] at h4
   exact h4
  have h5:=condW_of h4 (w_not (w_lt w_lit (w_len_list (w_arg rfl))))
  rw [V8] at h5
  refine Nat.le_of_not_lt λq=>?_
  have q':(n:Int) < ((ns.length:Nat):Int):=by omega
  first
   | (rw [decide_eq_true q'] at h5;exact absurd h5 (by decide))
   | (simp at h5;omega)
 cases hwl with
 | cons w1 w2=>
  cases w2
  cases w1 with
  | list ho hall=>exact ⟨_,_,ns,rfl,rfl,ho,Bz ns _ hall,hlen⟩
theorem KZ(l:OpenLaw)(args:List WData):l.row.toRowW.claim.post args (.bool true) args=true:=
 postW_of (r:=l.row.toRowW) (X:=(true == true))
  (show WShape.has [] (.bool true) .bool=true by first | rfl | decide | simp [WShape.has,WShape.arms,WShape.armsAll])
  (show (WTm.eq .res (.lit (.bool true))).value [] {args:=args,res:=U7 (.bool true),after:=args} =U7 (.bool (true == true)) from w_eq_bool (w_res rfl) w_lit) rfl
theorem attach_call{l:OpenLaw}{n:Nat}{q:Vn}{loose:List Vk}{XP:(Vk->Option UB)->V1->Prop}{YP:Vz->V1->Prop}{d:DefRec}
  (hn:l.most=U7 n) (hdf:d.params.defaults=[])
  (call:∀ (w:Vz) (s₀ s₁:UG) (mg mb:Vk->Option UB) (fa:UL) (o:WK) (pm cd doc:UB) (a:UL) (vs:List UB) (ns:List Int),
    Ground q loose [] XP w s₀ mg mb s₁.heap->YP w s₁.heap->
    s₁.heap.get? fa=U7 o->o.data= .func (docDef d.name d.params d.body d.scope pm cd doc)->s₁.heap.CodeRec cd d.name->mg d.name=U7 (.ref fa)->
    s₁.heap.get? a=U7 {cls:=.type "list",data:=.seq vs.toArray}->Xk vs ns->ns.length<=n->s₁.gens= #[]->
    Yu (Vh l.prog w) callerA (.call (.ref fa) ⟨[.ref a],[]⟩) (λr s'=>r= .ok (.ret (.bool true))/\OldK s₁.heap s'.heap/\s'.os=s₁.os/\Za s'.gens) s₁):
  WalkO q loose XP YP l.row.toRowW d [] (λf vs=>PySem.call f vs):=by
 intro w s₀ s₁ mg mb G Y fa o pm cd doc dV kV ho hd hcd hD hmg hg args vals as hpre hlay hrd hwl hlo
 obtain rfl:dV= .none:=Dflts.none hD hdf
 obtain rfl:kV= .none:=Dflts.noKw hD
 obtain ⟨a,vs,ns,rfl,rfl,hobj,hints,hlen⟩:=Ln hn hpre hwl
 refine enter_call (codeAny_mono (call w s₀ s₁ mg mb fa o pm cd doc a vs ns G Y ho (fd_plain hd) hcd hmg hobj hints hlen hg) λr s' hq=>?_)
 obtain ⟨rfl,h2,h3,h4⟩:=hq
 exact ⟨.inl ⟨.bool true,.bool true,[],rfl,λ_=>rfl,.bool true,KZ l _,λ_=>⟨List.Pairwise.nil,λ_ hm=>(nomatch hm)⟩⟩,h2,h3,h4⟩
end Att
namespace L2
open PySem PySem.Spec PyProof.Rows
theorem Ej:∀ {vs:List UB} {ns:List Int},Xk vs ns->Vals (ns.map V.int) vs
 | _,_,.nil=>.nil
 | _,_,.cons n t h=>.cons ⟨t,rfl⟩ (Ej h)
noncomputable def QG(H:Hp):Prop:=∀ b,H b=UA∨∃ o u,H b=U7 (.frz o u)
noncomputable def stH(K:UF)(b:UL):Option HO:=match K.lookup b with
 | some o=>(stO o).map λvs=>.frz o (.tup vs)
 | none=>UA
theorem BQ{K:UF}{b:UL}{u:HO}(e:stH K b=U7 u):∃ o vs,K.lookup b=U7 o/\stO o=U7 vs/\u= .frz o (.tup vs):=by
 unfold stH at e
 split at e
 ·rename_i o ho
  cases q:stO o with
  | none=>rw [q] at e;cases e
  | some vs=>rw [q] at e;cases e;exact ⟨o,vs,ho,q,rfl⟩
 ·cases e
noncomputable def wst(K:UF)(H:Hp):Hp:=λb=>match H b with
 | some u=>U7 u
 | none=>stH K b
theorem tu{K:UF}{H:Hp}{b:UL}{u:HO}(e:H b=U7 u):wst K H b=U7 u:=by unfold wst;rw [e]
theorem Af{K:UF}{H:Hp}{b:UL}(e:H b=UA):wst K H b=stH K b:=by unfold wst;rw [e]
theorem N5{P:Vn}{w:Vz}{K:UF}{mg mb:Vk->Option UB}{CX:CXT}{k:Nat}{fa a:UL}{fd:Yn}{x:Vk}{sp:Sp}{s₁:UG}{vs:List UB}{ns:List Int}
  (KX:K.In s₁.heap) (hns:s₁.heap.Ns V2 mg) (hb:s₁.heap.Ns builtinsNs mb) (hbb:∀ x:Vk,x≠"__name__"->mb x=Wu x) (hlim:s₁.heap.NoLimit) (hg:s₁.gens= #[])
  (ha:s₁.heap.get? a=U7 {cls:=.type "list",data:=.seq vs.toArray}) (hi:Xk vs ns) (hl:ns.length<=Vc) (hr:Room k callerA)
  (F:∀ base:V1,K.In base->base.Ns V2 mg->FnOk P w K mg base CX k fa fd [x] sp) (hbind:∀ (s:UG) (u:UB),BindsTo s fd ⟨[u],[]⟩ [(x,u)])
  (hsp:∀ H:Hp,QG H->SqL K H a (ns.map V.int)->sp [.ref a] H (λv _=>v= .bl true) λ_ _ _=>False)
  (hCX:∀ H e s',CX [] H s₁ (λ_ _ _=>False) e s'->False):
  Yu (Vh P w) callerA (.call (.ref fa) ⟨[.ref a],[]⟩) (λr s'=>r= .ok (.ret (.bool true))/\OldK s₁.heap s'.heap/\s'.os=s₁.os/\Za s'.gens) s₁:=by
 have rv:=Ej hi
 have lenV:=hi.length
 have core:∀ H:Hp,(∀ b,H b=UA∨∃ o xs,H b=U7 (.frz o (.lst xs)))->SqL K H a (ns.map V.int)->HOk P w H s₁.heap->(∀ b,H b≠UA->b=a)->(H a≠UA->K.lookup a=UA)->
   Yu (Vh P w) callerA (.call (.ref fa) ⟨[.ref a],[]⟩) (λr s'=>r= .ok (.ret (.bool true))/\OldK s₁.heap s'.heap/\s'.os=s₁.os/\Za s'.gens) s₁:=by
  intro H hO hS hok hA hK
  have base_of:∀ {b:UL} {o:WK},s₁.heap.get? b=U7 o->H b=UA->(Dq s₁.heap H).get? b=U7 o:=λe n=>MJ e n
  have noA:∀ {b:UL} {o:WK} {es:Array DictEntry} {ep:Nat},s₁.heap.get? b=U7 o->o.data= .dict es ep->H b=UA:=λ{b o es ep} e d=>by
   cases q:H b with
   | none=>rfl
   | some u=>
    have e':b=a:=hA b (by rw [q];simp)
    subst e'
    rw [ha] at e;cases e
    have d':Data.seq vs.toArray _=Data.dict es ep:=d
    cases d'
  have nsK:∀ {b:UL} {m:Vk->Option UB},s₁.heap.Ns b m->(Dq s₁.heap H).Ns b m:=λ{b m} ⟨o,es,ep,e,d,r⟩=>⟨o,es,ep,base_of e (noA e d),d,r⟩
  have hKb:K.In (Dq s₁.heap H):=λb o e=>base_of (KX b o e) (by
   cases q:H b with
   | none=>rfl
   | some u=>
    have e':b=a:=hA b (by rw [q];simp)
    subst e'
    rw [hK (by rw [q];simp)] at e;cases e)
  have hM:Mod K mg (Dq s₁.heap H):=⟨hKb,nsK hns,⟨mb,nsK hb,hbb⟩,let ⟨mc,h1,h2⟩:=hlim;⟨mc,nsK h1,h2⟩⟩
  have hO2:QG (wst K H):=λb=>by
   rcases hO b with z | ⟨o,xs,z⟩
   ·rw [Af z]
    cases q:stH K b with
    | none=>exact .inl rfl
    | some u=>obtain ⟨o,vs,_,_,rfl⟩:=BQ q;exact .inr ⟨o,_,rfl⟩
   ·exact .inr ⟨o,_,tu z⟩
  have hok2:HOk P w (wst K H) s₁.heap:=λb u e=>by
   rcases hO b with z | ⟨o,xs,z⟩
   ·rw [Af z] at e
    obtain ⟨o,vs,k1,k2,rfl⟩:=BQ e
    exact ⟨KX b o k1,RB (KX b o k1) k2⟩
   ·have e1:=hok b _ z
    rw [tu z] at e
    cases e
    exact e1
  have hS2:SqL K (wst K H) a (ns.map V.int):=by
   rcases hS with (z | ⟨o,z⟩) | z
   ·exact .inl (.inl (tu z))
   ·exact .inl (.inr ⟨o,tu z⟩)
   ·exact .inr z
  have hsb:∀ b o,(Dq s₁.heap H).get? b=U7 o->s₁.heap.get? b=U7 o/\Sb K (wst K H) b o:=λb o e=>by
   obtain ⟨e1,e2⟩:=Oq e
   refine ⟨e1,?_,λvs k q=>?_⟩
   ·rw [Af e2]
    cases q:stH K b with
    | none=>exact .inl rfl
    | some u=>
     obtain ⟨o',vs,k1,_,rfl⟩:=BQ q
     have:=KX b o' k1
     rw [e1] at this
     cases this
     exact .inr ⟨_,rfl⟩
   ·rw [Af e2]
    unfold stH
    rw [k]
    dsimp only
    rw [q]
    rfl
  have e0:Env0 P w K mg (Dq s₁.heap H) callerA [] s₁ (wst K H):=⟨rfl,hM,hsb,Zc (KP _ _),trivial,λb hb=>absurd (show b∈([]:List UL) from hb) (by simp),hok2,.of_eq hg⟩
  refine codeAny_mono ((F _ hKb (nsK hns)).run callerA [] s₁ (wst K H) ⟨[.ref a],[]⟩ [.ref a] [.ref a] _ _ hr e0 (hbind s₁ (.ref a)) (.cons rfl .nil) (hsp _ hO2 hS2)) λr s' h=>?_
  cases r with
  | error e=>exact (hCX _ e s' h).elim
  | ok fl=>
   cases fl with
   | next=>exact WY h
   | brk=>exact WY h
   | cont=>exact WY h
   | ret u=>
    obtain ⟨v,H',os,bare,un,hok',r',q⟩:=h
    have q':v= .bl true:=q
    subst q'
    obtain rfl:u=UB.bool true:=r'
    refine ⟨rfl,OldK.of_keep λb o e=>?_,os,bare⟩
    rcases hO2 b with q | ⟨ob,u,z⟩
    ·exact un.keep b o e q (by intro z;exact absurd (show b∈([]:List UL) from z) (by simp)) (by simp)
    ·have z2:=un.frzs b ob _ z
     obtain ⟨e1,_⟩:=hok2 b _ z
     obtain ⟨e2,_⟩:=hok' b _ z2
     rw [e] at e1;cases e1
     exact e2
 cases hk:K.lookup a with
 | some o=>
  have e:=KX a o hk
  rw [ha] at e
  cases e
  refine core (λ_=>UA) (λ_=>.inl rfl) (.inr ⟨_,vs.toArray,_,hk,rfl,rfl,rfl,by rw [UO,lenV];exact hl,by simpa using rv⟩) (λb u z=>by have z':(UA:Option HO)=U7 u:=z;cases z') (λb z=>absurd rfl z) λz=>absurd rfl z
 | none=>
  refine core (λb=>if b=a then U7 (.frz {cls:=.type "list",data:=.seq vs.toArray} (.lst (ns.map V.int))) else UA) (λb=>?_) (.inl (.inr ⟨{cls:=.type "list",data:=.seq vs.toArray},if_pos rfl⟩)) (λb u z=>?_) (λb z=>?_) λ_=>hk
  ·by_cases hb:b=a
   ·exact .inr ⟨_,_,if_pos hb⟩
   ·exact .inl (if_neg hb)
  ·by_cases hb:b=a
   ·have z':=(if_pos hb).symm.trans z
    cases z'
    subst hb
    exact ⟨ha,by rw [V8];exact hl,vs,_,rv,ha⟩
   ·have z':=(if_neg hb).symm.trans z
    cases z'
  ·by_cases hb:b=a
   ·exact hb
   ·exact absurd (if_neg hb) z
end L2
namespace L2
open PySem PySem.Spec PyProof.Rows
theorem P0{l:PySem.W.OpenLaw}{n k:Nat}{q:Vn}{loose:List Vk}{XP:(Vk->Option UB)->V1->Prop}{YP:Vz->V1->Prop}{d:DefRec}{K:Params->UF}{CX:Vz->CXT}{sp:Vz->Sp}{x:Vk}
  (hn:l.most=U7 n) (hn2:n<=Vc) (hdf:d.params.defaults=[]) (hr:Room k callerA)
  (hY:∀ (w:Vz) (h:V1),YP w h->(K w.params).In h)
  (F:∀ (w:Vz) (mg:Vk->Option UB) (fa:UL) (h:V1),(K w.params).In h->h.Ns V2 mg->mg d.name=U7 (.ref fa)->
    ∃ fd:Yn,(∀ (s:UG) (u:UB),BindsTo s fd ⟨[u],[]⟩ [(x,u)])/\
     ∀ base:V1,(K w.params).In base->base.Ns V2 mg->FnOk l.prog w (K w.params) mg base (CX w) k fa fd [x] (sp w))
  (hsp:∀ (w:Vz) (H:Hp) (a:UL) (ns:List Int),ns.length<=n->QG H->SqL (K w.params) H a (ns.map V.int)->sp w [.ref a] H (λv _=>v= .bl true) λ_ _ _=>False)
  (hCX:∀ (w:Vz) (H:Hp) (s:UG) (e:UB) (s':UG),CX w [] H s (λ_ _ _=>False) e s'->False):
  PySem.W.WalkO q loose XP YP l.row.toRowW d [] (λf vs=>PySem.call f vs):=by
 refine Att.attach_call hn hdf λw s₀ s₁ mg mb fa o pm cd doc a vs ns G Y ho hd hcd hmg hobj hints hlen hg=>?_
 have KX:=hY w _ Y
 obtain ⟨fd,hb,hF⟩:=F w mg fa _ KX G.T.g hmg
 exact N5 KX G.T.g G.T.b G.T.builtins G.T.nolimit hg hobj hints (UU hlen hn2) hr hF hb (λH hO hS=>hsp w H a ns hlen hO hS) λH e s'=>hCX w H s₁ e s'
end L2
namespace L2
open PySem PySem.Spec PyProof.Rows
noncomputable def xo(s:VW):Arguments:=match s with
 | .FunctionDef _ a _ _ _ _ _ _ _ _=>a
 | _=>{posonlyargs:=[],args:=[],vararg:=UA,kwonlyargs:=[],kw_defaults:=[],kwarg:=UA,defaults:=[]}
noncomputable def vz(s:VW):List VW:=match s with
 | .FunctionDef _ _ b _ _ _ _ _ _ _=>b
 | _=>[]
noncomputable def zx(s:VW):Zf:=match s with
 | .FunctionDef _ _ _ _ _ _ sc _ _ _=>sc
 | _=>{kind:=.function,names:=[],isGenerator:=false,isCoroutine:=false}
structure Fun(K:UF)(x qual:Vk)(st:VW)(f:UL)(fd:Yn):Prop where
 ex:∃ (oc:UB) (od:Option UL) (kV doc pm:UB) (an:Option UL) (cdv ct:UB) (osl:Array (Option UB)),
  fd=Wh x qual (xo st) (vz st) (zx st) .none kV doc pm an cdv ct/\K.lookup f=U7 ⟨oc,od,.func fd,osl⟩/\XZ K cdv qual=true
 kp:X2 K (.ref f)=true
section
variable{P:Vn}{w:Vz}{K:UF}{mg:Vk->Option UB}{base:V1}
theorem Fun.binds{x qual:Vk}{st:VW}{f:UL}{fd:Yn}{ps:List Vk}(F:Fun K x qual st f fd)
  (h:∀ (kV doc pm:UB) (an:Option UL) (cdv ct:UB) (us:List UB),us.length=ps.length->Zh (Wh x qual (xo st) (vz st) (zx st) .none kV doc pm an cdv ct) ⟨us,[]⟩=pure (ps.zip us)):Binds K fd ps []:=by
 obtain ⟨oc,od,kV,doc,pm,an,cdv,ct,osl,rfl,lk,hcd⟩:=F.ex
 exact .all (h kV doc pm an cdv ct)
theorem Rz{x qual:Vk}{st:VW}{f:UL}{oc:UB}{od an:Option UL}{osl:Array (Option UB)}{kV doc pm cdv ct:UB}(l:K.lookup f=U7 ⟨oc,od,.func (Wh x qual (xo st) (vz st) (zx st) .none kV doc pm an cdv ct),osl⟩)
 (c:XZ K cdv qual=true) (k:X2 K (.ref f)=true):Fun K x qual st f (Wh x qual (xo st) (vz st) (zx st) .none kV doc pm an cdv ct):=⟨⟨oc,od,kV,doc,pm,an,cdv,ct,osl,rfl,l,c⟩,k⟩
end
theorem H8{A B:Prop}(h:B):if false=true then A else B:=by
 rw [if_neg UY]
 exact h
theorem G0{A B:Prop}(h:A):if true=true then A else B:=by
 rw [if_pos rfl]
 exact h
noncomputable def Same(H H':Hp):Prop:=∀ b o,H b=U7 o->H' b=U7 o
theorem Same.refl(H:Hp):Same H H:=λ_ _ h=>h
theorem Same.trans{H H1 H2:Hp}(a:Same H H1)(b:Same H1 H2):Same H H2:=λc o h=>b c o (a c o h)
theorem Same.free{H H':Hp}(e:Same H H'){l:UL}(h:H' l=Option.none):H l=Option.none:=by
 cases q:H l with
 | none=>rfl
 | some o=>
  rw [e l o q] at h
  cases h
end L2
namespace L2
open PySem PySem.Spec PyProof.Rows
section
variable{κ:Type} [DecidableEq κ]
noncomputable def CB(kvs:List (κ×V))(k:κ):Option V:=(kvs.find? λkv=>decide (kv.1=k)).map (·.2)
noncomputable def ki(kvs:List (κ×V))(k:κ)(v:V):List (κ×V):=
 if (kvs.any λkv=>decide (kv.1=k))=true then kvs.map (λkv=>if kv.1=k then (kv.1,v) else kv) else kvs++[(k,v)]
theorem Aw{p:κ×V}{r:List (κ×V)}{k:κ}(e:p.1=k):CB (p::r) k=U7 p.2:=by simp [CB,W2,e]
theorem An{p:κ×V}{r:List (κ×V)}{k:κ}(e:¬ p.1=k):CB (p::r) k=CB r k:=by simp [CB,W2,e]
theorem Ho(k:κ):∀ kvs:List (κ×V),(kvs.any λkv=>decide (kv.1=k))=(CB kvs k).isSome
 | []=>rfl
 | p::r=>by
  rw [List.any_cons]
  by_cases e:p.1=k
  ·simp only [Aw e,decide_eq_true e,Bool.true_or,Option.isSome_some]
  ·rw [An e,decide_eq_false e,Bool.false_or];exact Ho k r
theorem RelO.isSome_eq{o:Option V}{u:Option UB}(r:RelO o u):o.isSome=u.isSome:=by
 cases o with
 | none=>cases u with
  | none=>rfl
  | some _=>exact (show False from r).elim
 | some _=>cases u with
  | none=>exact (show False from r).elim
  | some _=>rfl
theorem RelO.getD{o:Option V}{u:Option UB}{d:V}{d':UB}(r:RelO o u)(rd:RelV d d'):RelV (o.getD d) (u.getD d'):=by
 cases o with
 | none=>cases u with
  | none=>exact rd
  | some _=>exact (show False from r).elim
 | some _=>cases u with
  | none=>exact (show False from r).elim
  | some _=>exact r
theorem KV.val{kvs:List (κ×V)}{vs:List (κ×UB)}(r:KV kvs vs)(k:κ):RelO (CB kvs k) (valueAt vs k):=by
 unfold KV at r
 induction r with
 | nil=>exact XY
 | @cons p q ps qs h t ih=>
  obtain ⟨h1,h2⟩:=h
  by_cases e:p.1=k
  ·have e':q.1=k:=h1.symm.trans e
   have b:valueAt (q::qs) k=U7 q.2:=by simp [valueAt,W2,e']
   rw [Aw e,b];exact h2
  ·have e':¬ q.1=k:=λz=>e (h1.trans z)
   have b:valueAt (q::qs) k=valueAt qs k:=by simp [valueAt,W2,e']
   rw [An e,b];exact ih
end
theorem Qh{P:Vn}{w:Vz}{k:Key}{u:UB}(r:RelV (kV k) u):(vd P w).is k u=true:=by
 cases k with
 | inl i=>obtain ⟨t,e⟩:=(show ∃ t,u=UB.int i t from r);subst e;exact Hu P w i t
 | inr x=>obtain ⟨t,e⟩:=(show ∃ t,u=UB.str x t from r);subst e;exact HL P w x t
theorem D2{P:Vn}{w:Vz}:∀ {ks:List Key} {us:List UB},Vals (ks.map kV) us->ItemsAre (vd P w) ks us
 | [],_,r=>by rw [Y9] at r;cases r;exact .nil
 | k::ks,_,r=>by
  rw [UR] at r
  cases r with
  | cons h t=>exact .cons (Qh h) (D2 t)
abbrev KT(H:Hp):List (List Key×V)->List (List Key×UL×UB)->Prop:=Paired λp q=>p.1=q.1/\Rd H q.2.1 (.tup (p.1.map kV))/\RelV p.2 q.2.2
theorem KT.val{H:Hp}{kvs:List (List Key×V)}{xs:List (List Key×UL×UB)}(r:KT H kvs xs)(k:List Key):RelO (CB kvs k) ((atKey xs k).map (·.2)):=by
 induction r with
 | nil=>exact XY
 | @cons p q ps qs h t ih=>
  obtain ⟨h1,_,h2⟩:=h
  by_cases e:p.1=k
  ·have e':q.1=k:=h1.symm.trans e
   have b:atKey (q::qs) k=U7 q.2:=by simp [atKey,W2,e']
   rw [Aw e,b];exact h2
  ·have e':¬ q.1=k:=λz=>e (h1.trans z)
   have b:atKey (q::qs) k=atKey qs k:=by simp [atKey,W2,e']
   rw [An e,b];exact ih
theorem KT.repl{H:Hp}{kvs:List (List Key×V)}{xs:List (List Key×UL×UB)}(r:KT H kvs xs)(k:List Key){y:V}{u:UB}(ry:RelV y u):
  KT H (kvs.map λkv=>if kv.1=k then (kv.1,y) else kv) (xs.map (putAt k u)):=by
 induction r with
 | nil=>exact .nil
 | @cons p q ps qs h t ih=>
  rw [UR,UR]
  refine .cons ?_ ih
  obtain ⟨h1,h2,h3⟩:=h
  unfold putAt
  by_cases e:p.1=k
  ·rw [if_pos e,if_pos (h1.symm.trans e)];exact ⟨h1,h2,ry⟩
  ·rw [if_neg e,if_neg (λz=>e (h1.trans z))];exact ⟨h1,h2,h3⟩
theorem KT.put{H:Hp}{kvs:List (List Key×V)}{xs:List (List Key×UL×UB)}(r:KT H kvs xs)(k:List Key){b:UL}{y:V}{u:UB}(hb:Rd H b (.tup (k.map kV)))(ry:RelV y u):
  KT H (ki kvs k y) (storedH xs k b u):=by
 have e:(kvs.any λkv=>decide (kv.1=k))=(atKey xs k).isSome:=by
  rw [Ho,(r.val k).isSome_eq,Option.isSome_map]
 unfold ki storedH
 rw [e]
 by_cases q:(atKey xs k).isSome=true
 ·rw [if_pos q,if_pos q];exact r.repl k ry
 ·rw [if_neg q,if_neg q];exact Paired.snoc r ⟨rfl,hb,ry⟩
theorem KT.keeps{H H':Hp}{kvs:List (List Key×V)}{xs:List (List Key×UL×UB)}(r:KT H kvs xs)(ht:∀ b ys,Rd H b (.tup ys)->Rd H' b (.tup ys)):KT H' kvs xs:=
 Paired.mapP r λ_ _ z=>⟨z.1,ht _ _ z.2.1,z.2.2⟩
section
variable{P:Vn}{w:Vz}{H:Hp}{h:V1}{a:UL}
theorem JJ{u:HO}(ok:HOk P w H h)(e:Rd H a u):ObjOk P w H h a u:=e.ok ok
theorem Qo{kvs:List (Key×V)}(ok:HOk P w H h)(e:Rd H a (.dK kvs)):kvs.length<=Vc/\(a == Xr)=false/\∃ vs,KV kvs vs/\h.DictOf (vd P w) a vs:=
 show ObjOk P w H h a (.dK kvs) from JJ ok e
theorem EV{ks:List Key}(ok:HOk P w H h)(e:Rd H a (.tup (ks.map kV))):(Yy (vd P w)).is h ks a:=by
 obtain ⟨_,its,r,o,h1,h2,n,h3⟩:=(show ObjOk P w H h a (.tup (ks.map kV)) from JJ ok e)
 exact ⟨o,its.toArray,n,h1,h2,h3,by simpa using D2 r⟩
theorem JV{kvs:List (List Key×V)}{ep:Nat}(ok:HOk P w H h)(e:Rd H a (.dT kvs ep)):kvs.length<=Vc/\(a == Xr)=false/\
  ∃ xs,KT H kvs xs/\h.DictOfH (Yy (vd P w)) a xs:=by
 obtain ⟨z,y,xs,r,o,es,h1,h2,h3,h4,h5⟩:=(show ObjOk P w H h a (.dT kvs ep) from JJ ok e)
 refine ⟨z,y,xs,r,o,es,ep,h1,h2,h3,h4,λx hx=>?_,h5⟩
 have all:∀ {l:List (List Key×V)} {m:List (List Key×UL×UB)},KT H l m->∀ x∈m,(Yy (vd P w)).is h x.1 x.2.1:=by
  intro l m q
  induction q with
  | nil=>intro x hx;exact nomatch hx
  | @cons p q ps qs hq t ih=>
   intro x hx
   rcases Vl.mp hx with e | hx
   ·subst e
    exact EV ok (by rw [<- hq.1];exact hq.2.1)
   ·exact ih x hx
 exact all r x hx
theorem Ql{kvs:List (List Key×V)}{ep:Nat}(ok:HOk P w H h)(e:H a=U7 (.dT kvs ep)):kvs.length<=Vc/\(a == Xr)=false/\
 ∃ xs,KT H kvs xs/\h.DictOfH (Yy (vd P w)) a xs:=JV ok (.inl e)
end
noncomputable def QF(H:Hp)(a:UL)(y:V)(r:Option V):Prop:=
 (∃ kvs k,Rd H a (.dK kvs)/\y=kV k/\r=CB kvs k)∨∃ kvs ep k b,Rd H a (.dT kvs ep)/\y= .ref b/\Rd H b (.tup (k.map kV))/\r=CB kvs k
section
variable{X:Cx}{pins:List (UL×WK)}{σ:St}{H:Hp}{s:UG}{a:UL}{y v:V}{u r:UB}{o:Option V}{A:VG}{E:UB->UG->Prop}
theorem Inv.big(I:Inv X pins σ H s):Xr < s.heap.objs.size:=by
 have h:V2 < s.heap.objs.size:=(I.mod.glob.keeps I.bk).lt
 exact Nat.lt_trans (by decide) h
theorem Kp{h':V1}{t':Nat}{ob:HO}(I:Inv X pins σ H s)(mu:Mut (H a))(hs:Wq a s.heap h')(he:∃ q,h'.get? a=U7 q)(new:ObjOk X.prog X.w (upd H a ob) h' a ob):
  Inv X pins σ (upd H a ob) {s with heap:=h',toks:=t'}:=
 I.write (x:=a) (e:=a) mu (.inl rfl) (λb q hb z=>(hs.2 b hb).trans z) he new
end
theorem GU{P:Vn}{w:Vz}{H:Hp}(h:V1)(hb:Xr < h.objs.size):ObjOk P w H (h.push {cls:=.type "dict",data:=.dict #[]}) h.objs.size (.dT [] 0):=
 ⟨VJ _,beq_eq_false_iff_ne.mpr (Wv (Vt hb)),[],.nil,_,#[],US _ rfl,⟨rfl,rfl,rfl⟩,rfl,rfl,Wx⟩
noncomputable def tDNewT:TE:=λ_ H Q=>∀ p,H p=UA->Q (.ref p) (upd H p (.dT [] 0))
section
variable{X:Cx}{pos:Xz}
theorem LV:PE X (.Dict [] [] pos) tDNewT:=λpins s σ H Q I h=>
 wpAny_Dict_empty ⟨.ref s.heap.objs.size,_,I.laid (a:=s.heap.objs.size) (o:=.dT [] 0) (t':=s.toks) (λ_ _ q=>UH _ q) (UI _) (GU s.heap I.big),rfl,h _ (I.hok.fresh (UI _))⟩
end
structure M2(X:Cx)(o:Vw)(m:Vk)(apos:Xz)(e f:Vw)(cpos:Xz):Prop where
 base:Wd o m X.env (VN o X.env)=VN o X.env
 few:((VC cpos (UJ [e,f] X.env)).all (λx=>!x.1) && (YS cpos (X7 [] X.env)).all (λx=>x.1.isSome)
  && decide (([e,f]:List Vw).length+([]:List Xl).length+(if ([]:List Xl).isEmpty then 0 else 1) < 30))=true
 line:(apos.endLine == cpos.line)=true
 trees:VC cpos (UJ [e,f] X.env)=[(false,VN e X.env),(false,VN f X.env)]
noncomputable def IsD(H:Hp)(a:UL):Prop:=(∃ kvs,Rd H a (.dK kvs))∨∃ kvs ep,Rd H a (.dT kvs ep)
theorem Ny{X:Cx}{pins:List (UL×WK)}{σ:St}{H:Hp}{s:UG}{a:UL}(I:Inv X pins σ H s)(d:IsD H a):
  s.TypeIs (.ref a) "dict"/\(∀ b,VD a= .ref b->∃ ob,s.heap.get? b=U7 ob/\ob.dict=UA)/\(a == Xr)=false:=by
 rcases d with ⟨kvs,e⟩ | ⟨kvs,ep,e⟩
 ·obtain ⟨_,hd,vs,_,dd⟩:=Qo I.hok e
  refine ⟨dd.typeIs,λb q=>?_,hd⟩
  cases q
  obtain ⟨ob,_,_,h1,h2,_⟩:=dd
  exact ⟨ob,h1,h2.2.1⟩
 ·obtain ⟨_,hd,xs,_,dd⟩:=JV I.hok e
  refine ⟨dd.typeIs,λb q=>?_,hd⟩
  cases q
  obtain ⟨ob,_,_,h1,h2,_⟩:=dd
  exact ⟨ob,h1,h2.2.1⟩
section
variable{X:Cx}{pins:List (UL×WK)}{σ:St}{H:Hp}{s:UG}{a:UL}{y d:V}{u r:UB}{o:Option V}{A:VG}{E:UB->UG->Prop}
theorem RL{Q:UB->UG->Prop}(hu:A.units+1 < Yh)(I:Inv X pins σ H s)(g:QF H a y o)(ry:RelV y u)(rd:RelV d r)(h:∀ w' s',Inv X pins σ H s'->RelV (o.getD d) w'->Q w' s'):
  UZ (Vh X.prog X.w) A (call (.builtin "dict.get") [.ref a,u,r]) Q E s:=by
 rcases g with ⟨kvs,k,e,ey,l⟩ | ⟨kvs,ep,k,b,e,ey,eb,l⟩
 ·subst ey
  obtain ⟨z,hd,vs,rel,dd⟩:=Qo I.hok e
  refine call_meetsIn YG dd.typeIs PySem.F.entry_dict_get (PySem.F.args_dict_get_3 _ _ _) (meets_dict_get_default (vd X.prog X.w) a (Qh ry) hd r) ⟨_,dd.mapOf,h _ _ (I.tok _) ?_⟩
  rw [l]
  exact (rel.val k).getD rd
 ·subst ey
  cases (show u=VD b from ry)
  obtain ⟨z,hd,xs,rel,dd⟩:=JV I.hok e
  refine call_meetsIn YG dd.typeIs PySem.F.entry_dict_get (PySem.F.args_dict_get_3 _ _ _) (meetsH_dict_get_default (Yy (vd X.prog X.w)) a b hd r) ⟨tupleKind_room_in1 hu,k,xs,EV I.hok eb,dd,h _ _ (I.tok _) ?_⟩
  rw [l]
  exact (rel.val k).getD rd
end
noncomputable def Fb(td ty tx:TE):TE:=λσ H Q=>td σ H λx H1=>∃ a,x= .ref a/\IsD H1 a/\ty σ H1 λy H2=>tx σ H2 λz H3=>∃ o,QF H3 a y o/\Q (o.getD z) H3
section
variable{X:Cx}{o e f:Vw}{apos cpos:Xz}{td ty tx:TE}
theorem LX(hu:X.A.units+1 < Yh)(ho:PE X o td)(he:PE X e ty)(hf:PE X f tx)(m:M2 X o "get" apos e f cpos):PE X (.Call (.Attribute o "get" apos) [e,f] [] cpos) (Fb td ty tx):=by
 intro pins s σ H Q I h
 refine wpAny_Call_method m.base m.few m.line PySem.F.plainAttrs_dict YG PySem.F.type_dict_get (thn (ho pins s σ H _ I h) λu s1 ⟨x,H1,I1,rx,a,ex,d,q1⟩=>?_)
 subst ex
 obtain rfl:u=VD a:=rx
 obtain ⟨t1,t2,_⟩:=Ny I1 d
 refine ⟨t1,t2,?_⟩
 rw [m.trees]
 refine WQ rfl (YT (WX (thn (he pins s1 σ H1 _ I1 q1) λiv s2 ⟨y,H2,I2,ry,q2⟩=>
  WX (thn (hf pins s2 σ H2 _ I2 q2) λfv s3 ⟨z,H3,I3,rz,ov,g,q3⟩=>Xi ?_))))
 exact RL hu I3 g ry rz λw' s4 I4 rw'=>⟨_,H3,I4,rw',q3⟩
end
end L2
namespace KT
open PySem
mutual
noncomputable def lf:U8->Bool
 | .none=>true
 | .bool _=>true
 | .int _=>true
 | .str _=>true
 | .tuple xs=>lfs xs
 | .list _=>false
 | .dict _=>false
noncomputable def lfs:List U8->Bool
 | []=>true
 | x::xs=>lf x && lfs xs
end
inductive Slot where
 | par (d:U8)
 | loc (d:U8)
 | own (ds:List U8)
 | own2 (ds:List U8)
 | dct (ts:List (List Int×Int))
 | duo (c:U8) (ds es:List U8)
 | lent (ds:List U8)
 | ex (c:Nat)
abbrev Rho:=List (Option Slot)
inductive RE where
 | ok (l:Nat) (d:U8)
 | exc (c:Nat)
inductive RC where
 | ok (d:U8)
 | exc (c:Nat)
inductive RI where
 | ok (l:Nat) (ds:List U8)
 | exc (c:Nat)
inductive RS where
 | next (ρ:Rho)
 | ret (d:U8)
 | retL (d:U8) (ds:List U8)
 | exc (c:Nat) (ρ:Rho)
 | brk (ρ:Rho)
 | cont (ρ:Rho)
abbrev FE:=Rho->Option RE
abbrev FI:=Rho->Option RI
abbrev FS:=Rho->Option RS
abbrev FC:=List U8->Option RC
noncomputable def zk(o:Option RE)(k:Nat->U8->Option RE):Option RE:=
 match o with
 | none=>UA
 | some (.exc c)=>U7 (.exc c)
 | some (.ok l d)=>k l d
noncomputable def big:Nat:=100000
noncomputable def lim:Nat:=2 ^ 256
noncomputable def eC(d:U8):FE:=λ_=>U7 (.ok 2 d)
noncomputable def za(i:Nat):FE:=λρ=>match ρ[i]? with
 | some (U7 (.par d))=>U7 (.ok 0 d)
 | some (U7 (.loc d))=>U7 (.ok 1 d)
 | some (U7 (.own ds))=>U7 (.ok 1 (.list ds))
 | some (U7 (.own2 ds))=>U7 (.ok 1 (.list ds))
 | some (U7 (.lent ds))=>U7 (.ok 1 (.list ds))
 | some (U7 (.dct ts))=>U7 (.ok 1 (.dict (ts.map λx=>(.tuple (x.1.map .int),.int x.2))))
 | some (U7 (.duo c ds es))=>U7 (.ok 1 (.tuple [c,.list ds,.list es]))
 | _=>UA
noncomputable def e2(op:U8->U8->Option U8)(fr:Bool)(fa fb:FE):FE:=λρ=>zk (fa ρ) λl x=>zk (fb ρ) λm y=>(op x y).map λd=>.ok (if fr then 2 else min l m) d
noncomputable def e1(op:U8->Option U8)(fr:Bool)(fa:FE):FE:=λρ=>zk (fa ρ) λl x=>(op x).map λd=>.ok (if fr then 2 else l) d
noncomputable def bz:U8->U8->Option U8
 | .int i,.int j=>U7 (.int (i+j))
 | .str x,.str y=>if x.length+y.length<=big then U7 (.str (x++y)) else UA
 | .tuple xs,.tuple ys=>if (lfs xs && lfs ys && decide (xs.length+ys.length<=big))=true then U7 (.tuple (xs++ys)) else UA
 | .list xs,.list ys=>if (lfs xs && lfs ys && decide (xs.length+ys.length<=big))=true then U7 (.list (xs++ys)) else UA
 | _,_=>UA
noncomputable def IP:U8->U8->Option U8
 | .int i,.int j=>U7 (.int (i - j))
 | _,_=>UA
noncomputable def CMulD(i j:Int):Prop:=i.natAbs < 2 ^ 64∨j.natAbs < 2 ^ 64∨(i.natAbs < lim/\j.natAbs < lim)
instance (i j:Int):Decidable (CMulD i j):=by unfold CMulD;infer_instance
noncomputable def p9:U8->U8->Option U8
 | .int i,.int j=>if CMulD i j then U7 (.int (i * j)) else UA
 | .list xs,.int k=>if (lfs xs && decide (xs.length * k.toNat<=big) && decide (k.natAbs<=big))=true then U7 (.list (UW k.toNat xs).flatten) else UA
 | _,_=>UA
noncomputable def IA:U8->U8->Option U8
 | .int i,.int j=>if 0 < j/\j.natAbs < lim then U7 (.int (i / j)) else UA
 | _,_=>UA
noncomputable def AL:U8->U8->Option U8
 | .int i,.int j=>if 0 < j then U7 (.int (i % j)) else UA
 | _,_=>UA
noncomputable def So:U8->U8->Option U8
 | .int i,.int j=>if 0<=j/\j<=1000/\i.natAbs < 2 ^ 64 then U7 (.int (i ^ j.toNat)) else UA
 | _,_=>UA
noncomputable def PX:U8->Option U8
 | .int i=>U7 (.int (-i))
 | _=>UA
noncomputable def dh(x y:U8):Bool:=x.canLay0 && y.canLay0 && decide (min x.depth y.depth<=60)
noncomputable def yu:U8->U8->Option Bool
 | .int i,.int j=>U7 (i == j)
 | .str i,.str j=>U7 (i == j)
 | .bool i,.bool j=>U7 (i == j)
 | x,y=>if dh x y=true then U7 (Vf x y) else UA
noncomputable def dEq(x y:U8):Option U8:=(yu x y).map .bool
noncomputable def dNe(x y:U8):Option U8:=(yu x y).map λb=>.bool (!b)
noncomputable def dLt:U8->U8->Option U8
 | .int i,.int j=>U7 (.bool (decide (i < j)))
 | _,_=>UA
noncomputable def dLe:U8->U8->Option U8
 | .int i,.int j=>U7 (.bool (decide (i<=j)))
 | _,_=>UA
noncomputable def dGt:U8->U8->Option U8
 | .int i,.int j=>U7 (.bool (decide (j < i)))
 | _,_=>UA
noncomputable def EM(x:U8)(ys:List U8):Bool:=x.canLay0 && UP ys && decide (min (Vg ys) x.depth<=60)
noncomputable def Fu:U8->U8->Option Bool
 | x,.tuple ys=>if EM x ys=true then U7 (ys.any λy=>Vf y x) else UA
 | x,.list ys=>if EM x ys=true then U7 (ys.any λy=>Vf y x) else UA
 | _,_=>UA
noncomputable def dIn(x y:U8):Option U8:=(Fu x y).map .bool
noncomputable def se(x y:U8):Option U8:=(Fu x y).map λb=>.bool (!b)
noncomputable def isNone:U8->Bool
 | .none=>true
 | _=>false
noncomputable def Lc(x y:U8):Option U8:=if isNone y=true then U7 (.bool (isNone x)) else UA
noncomputable def GT(x y:U8):Option U8:=if isNone y=true then U7 (.bool (!isNone x)) else UA
noncomputable def ixP(n:Nat)(i:Int):Option Nat:=if 0<=i then (if i < n then U7 i.toNat else UA) else if -(n:Int)<=i then U7 (i+n).toNat else UA
noncomputable def atP{α:Type}(xs:List α)(i:Int):Option α:=(ixP xs.length i).bind λj=>xs[j]?
noncomputable def dIx:U8->U8->Option U8
 | .tuple xs,.int i=>atP xs i
 | .list xs,.int i=>atP xs i
 | .str z,.int i=>if z.length<=big then (atP z.cps.toList i).map λc=>.str ⟨#[c]⟩ else UA
 | _,_=>UA
noncomputable def sxP(n d:Nat):Option Int->Nat
 | none=>d
 | some v=>if v < 0 then (v+n).toNat else min v.toNat n
noncomputable def NB{α:Type}(xs:List α)(lo hi:Option Int):List α:=(xs.drop (sxP xs.length 0 lo)).take (sxP xs.length xs.length hi - sxP xs.length 0 lo)
noncomputable def dSl(lo hi:Option Int):U8->Option U8
 | .tuple xs=>if lfs xs=true then U7 (.tuple (NB xs lo hi)) else UA
 | .list xs=>if lfs xs=true then U7 (.list (NB xs lo hi)) else UA
 | _=>UA
noncomputable def qh:FE->FE->FE:=e2 bz true
noncomputable def iz:FE->FE->FE:=e2 IP true
noncomputable def vj:FE->FE->FE:=e2 p9 true
noncomputable def sv:FE->FE->FE:=e2 IA true
noncomputable def yg:FE->FE->FE:=e2 AL true
noncomputable def Pc:FE->FE->FE:=e2 So true
noncomputable def TJ:FE->FE:=e1 PX true
noncomputable def eEq:FE->FE->FE:=e2 dEq true
noncomputable def eNe:FE->FE->FE:=e2 dNe true
noncomputable def eLt:FE->FE->FE:=e2 dLt true
noncomputable def eGt:FE->FE->FE:=e2 dGt true
noncomputable def eIn:FE->FE->FE:=e2 dIn true
noncomputable def mw:FE->FE->FE:=e2 se true
noncomputable def Gd:FE->FE->FE:=e2 Lc true
noncomputable def Gp:FE->FE->FE:=e2 GT true
noncomputable def eIx:FE->FE->FE:=e2 dIx false
inductive RO where
 | ok (i:Option Int)
 | exc (c:Nat)
abbrev FO:=Rho->Option RO
noncomputable def Kk:FO:=λ_=>U7 (.ok UA)
noncomputable def FM(f:FE):FO:=λρ=>match f ρ with
 | some (.ok _ (.int i))=>U7 (.ok (U7 i))
 | some (.exc c)=>U7 (.exc c)
 | _=>UA
noncomputable def eSl(f:FE)(lo hi:FO):FE:=λρ=>zk (f ρ) λ_ x=>match lo ρ with
 | some (.ok l)=>(match hi ρ with
  | some (.ok h)=>(dSl l h x).map λd=>.ok 2 d
  | some (.exc c)=>U7 (.exc c)
  | none=>UA)
 | some (.exc c)=>U7 (.exc c)
 | none=>UA
noncomputable def km(fa fb:FE):FE:=λρ=>zk (fa ρ) λ_ x=>match x with
 | .bool true=>fb ρ
 | .bool false=>U7 (.ok 2 (.bool false))
 | _=>UA
noncomputable def eOr(fa fb:FE):FE:=λρ=>zk (fa ρ) λ_ x=>match x with
 | .bool true=>U7 (.ok 2 (.bool true))
 | .bool false=>fb ρ
 | _=>UA
noncomputable def f9(fa:FE):FE:=λρ=>zk (fa ρ) λ_ x=>match x with
 | .bool b=>U7 (.ok 2 (.bool (!b)))
 | _=>UA
noncomputable def eIf(fc fa fb:FE):FE:=λρ=>zk (fc ρ) λ_ x=>match x with
 | .bool true=>fa ρ
 | .bool false=>fb ρ
 | _=>UA
noncomputable def CV(op op':U8->U8->Option U8)(fa fb fc:FE):FE:=λρ=>zk (fa ρ) λ_ x=>zk (fb ρ) λ_ y=>match op x y with
 | some (.bool true)=>zk (fc ρ) λ_ z=>(op' y z).map λd=>.ok 2 d
 | some (.bool false)=>U7 (.ok 2 (.bool false))
 | _=>UA
noncomputable def zo:List FE->FI
 | [],_=>U7 (.ok 2 [])
 | f::fs,ρ=>match f ρ with
  | none=>UA
  | some (.exc c)=>U7 (.exc c)
  | some (.ok l d)=>match zo fs ρ with
   | none=>UA
   | some (.exc c)=>U7 (.exc c)
   | some (.ok m ds)=>U7 (.ok (min l m) (d::ds))
noncomputable def zu(o:Option RI)(k:Nat->List U8->Option RE):Option RE:=
 match o with
 | none=>UA
 | some (.exc c)=>U7 (.exc c)
 | some (.ok l ds)=>k l ds
noncomputable def zm(fs:List FE):FE:=λρ=>zu (zo fs ρ) λl ds=>U7 (.ok l (.tuple ds))
noncomputable def q9(fs:List FE):FE:=λρ=>zu (zo fs ρ) λ_ ds=>if lfs ds=true then U7 (.ok 2 (.list ds)) else UA
noncomputable def jt:Option RC->Option RE
 | none=>UA
 | some (.exc c)=>U7 (.exc c)
 | some (.ok d)=>U7 (.ok 2 d)
noncomputable def zd(g:FC)(fs:List FE):FE:=λρ=>zu (zo fs ρ) λ_ ds=>jt (g ds)
noncomputable def fm:U8->Option U8
 | .tuple xs=>U7 (.int xs.length)
 | .list xs=>U7 (.int xs.length)
 | .str z=>if z.length<=big then U7 (.int z.length) else UA
 | _=>UA
noncomputable def KL:U8->Option U8
 | .int i=>U7 (.int i)
 | .bool b=>U7 (.int (if b then 1 else 0))
 | _=>UA
noncomputable def mz:U8->Option U8
 | .list xs=>if lfs xs=true then U7 (.tuple xs) else UA
 | .tuple xs=>if lfs xs=true then U7 (.tuple xs) else UA
 | _=>UA
noncomputable def JG:U8->Option U8
 | .list xs=>if lfs xs=true then U7 (.list xs) else UA
 | .tuple xs=>if lfs xs=true then U7 (.list xs) else UA
 | _=>UA
inductive Ty where
 | int | bool | str | tuple | list
noncomputable def p7:Ty->U8->Bool
 | .int,.int _=>true
 | .int,.bool _=>true
 | .bool,.bool _=>true
 | .str,.str _=>true
 | .tuple,.tuple _=>true
 | .list,.list _=>true
 | _,_=>false
noncomputable def dIs(t:Ty):U8->Option U8
 | .dict _=>UA
 | d=>U7 (.bool (p7 t d))
noncomputable def jd:FE->FE:=e1 fm true
noncomputable def G6:FE->FE:=e1 KL true
noncomputable def fx:FE->FE:=e1 mz true
noncomputable def Bc:FE->FE:=e1 JG true
noncomputable def eIs(t:Ty):FE->FE:=e1 (dIs t) true
noncomputable def xu(f:FE):FI:=λρ=>match f ρ with
 | some (.ok l (.list ds))=>if lfs ds=true then U7 (.ok l ds) else UA
 | some (.ok _ (.tuple ds))=>if lfs ds=true then U7 (.ok 2 ds) else UA
 | some (.exc c)=>U7 (.exc c)
 | _=>UA
noncomputable def fy(n:Nat):List U8:=(VM n).map λ(k:Nat)=>.int (k:Int)
noncomputable def iR1(f:FE):FI:=λρ=>match f ρ with
 | some (.ok _ (.int n))=>if n.natAbs<=big then U7 (.ok 2 (fy n.toNat)) else UA
 | some (.exc c)=>U7 (.exc c)
 | _=>UA
noncomputable def xc(n:Nat):List U8:=(VM n).map λ(k:Nat)=>.int ((n:Int) - 1 - (k:Int))
noncomputable def C2(f:FE):FI:=λρ=>match f ρ with
 | some (.ok _ (.int a))=>if a.natAbs<=big then U7 (.ok 2 (xc (a+1).toNat)) else UA
 | some (.exc c)=>U7 (.exc c)
 | _=>UA
noncomputable def yn:List U8->Option (List Int)
 | []=>U7 []
 | .int i::r=>(yn r).map (i::·)
 | _=>UA
noncomputable def g9:List Int->List Int->Bool
 | [],[]=>false
 | [],_::_=>true
 | _::_,[]=>false
 | x::xs,y::ys=>if x=y then g9 xs ys else decide (x < y)
noncomputable def ak:U8->Option U8
 | .tuple xs=>if (lfs xs && decide (xs.length<=big))=true then U7 (.list xs.reverse) else UA
 | .list xs=>if (lfs xs && decide (xs.length<=big))=true then U7 (.list xs.reverse) else UA
 | _=>UA
noncomputable def ag:FE->FE:=e1 ak true
noncomputable def w5:Nat->List U8->List U8
 | _,[]=>[]
 | n,d::ds=>.tuple [.int (n:Int),d]::w5 (n+1) ds
noncomputable def Ba(f:FE):FI:=λρ=>match f ρ with
 | some (.ok l (.list ds))=>if lfs ds=true then U7 (.ok l (w5 0 ds)) else UA
 | some (.exc c)=>U7 (.exc c)
 | _=>UA
noncomputable def du:Option (Option Slot)->Option Slot
 | some (U7 (.par d))=>U7 (.par d)
 | some (U7 (.loc d))=>U7 (.par d)
 | some (U7 (.own ds))=>U7 (.par (.list ds))
 | _=>UA
noncomputable def AN(elt:FE)(env:Rho):List U8->Option (List U8)
 | []=>U7 []
 | d::ds=>match elt (U7 (.par d)::env) with
  | some (.ok _ x)=>if lf x=true then (AN elt env ds).map (x::·) else UA
  | _=>UA
noncomputable def Ep(it:FI)(ids:List Nat)(elt:FE):FE:=λρ=>match it ρ with
 | none=>UA
 | some (.exc c)=>U7 (.exc c)
 | some (.ok _ ds)=>if ds.length<=big then (AN elt (ids.map λi=>du ρ[i]?) ds).map λxs=>.ok 2 (.list xs) else UA
noncomputable def asg(l:Nat)(d:U8):Option Slot:=
 if lf d=true then U7 (.loc d) else if 2<=l then (match d with
  | .list ds=>if lfs ds=true then U7 (.own ds) else U7 (.loc d)
  | _=>U7 (.loc d)) else UA
noncomputable def zi(o:Option RE)(ρ:Rho)(k:Nat->U8->Option RS):Option RS:=
 match o with
 | none=>UA
 | some (.exc c)=>U7 (.exc c ρ)
 | some (.ok l d)=>k l d
noncomputable def zj:FS:=λρ=>U7 (.next ρ)
noncomputable def ze(a b:FS):FS:=λρ=>match a ρ with
 | some (.next ρ')=>b ρ'
 | r=>r
noncomputable def zl(i:Nat)(f:FE):FS:=λρ=>zi (f ρ) ρ λl d=>(asg l d).map λs=>.next (ρ.set i (U7 s))
noncomputable def zq(f:FE):FS:=λρ=>zi (f ρ) ρ λl d=>if (lf d || decide (1<=l))=true then U7 (.ret d) else UA
noncomputable def sIf(c:FE)(a b:FS):FS:=λρ=>zi (c ρ) ρ λ_ d=>match d with
 | .bool true=>a ρ
 | .bool false=>b ρ
 | _=>UA
noncomputable def yz(i:Nat)(f:FE):FS:=λρ=>match ρ[i]? with
 | some (U7 (.own xs))=>zi (f ρ) ρ λ_ d=>if (lf d && decide (xs.length < big))=true then U7 (.next (ρ.set i (U7 (.own (xs++[d]))))) else UA
 | _=>UA
noncomputable def cx(i:Nat)(f:FE):FS:=λρ=>match ρ[i]? with
 | some (U7 (.own xs))=>zi (f ρ) ρ λ_ d=>match d with
  | .list ys=>if (lfs ys && decide (xs.length+ys.length<=big))=true then U7 (.next (ρ.set i (U7 (.own (xs++ys))))) else UA
  | .tuple ys=>if (lfs ys && decide (xs.length+ys.length<=big))=true then U7 (.next (ρ.set i (U7 (.own (xs++ys))))) else UA
  | _=>UA
 | _=>UA
noncomputable def L1(j i:Nat):FS:=λρ=>match ρ[i]? with
 | some (U7 (.own xs))=>(match xs[xs.length - 1]? with
  | some d=>if i=j then UA else U7 (.next ((ρ.set i (U7 (.own xs.dropLast))).set j (U7 (.loc d))))
  | none=>UA)
 | _=>UA
abbrev FT:=U8->Rho->Option Rho
noncomputable def zw(i:Nat):FT:=λd ρ=>U7 (ρ.set i (U7 (.loc d)))
noncomputable def wc(i j:Nat):FT:=λd ρ=>match d with
 | .tuple [x,y]=>U7 ((ρ.set i (U7 (.loc x))).set j (U7 (.loc y)))
 | _=>UA
noncomputable def bo(t:FT)(f:FE):FS:=λρ=>zi (f ρ) ρ λ_ d=>if lf d=true then (t d ρ).map .next else UA
noncomputable def qg(tg:FT)(body:FS):List U8->Rho->Option RS
 | [],ρ=>U7 (.next ρ)
 | d::ds,ρ=>match tg d ρ with
  | none=>UA
  | some ρ1=>match body ρ1 with
   | some (.next ρ2)=>qg tg body ds ρ2
   | some (.cont ρ2)=>qg tg body ds ρ2
   | some (.brk ρ2)=>U7 (.next ρ2)
   | r=>r
noncomputable def ye(it:FI)(tg:FT)(body:FS):FS:=λρ=>match it ρ with
 | none=>UA
 | some (.exc c)=>U7 (.exc c ρ)
 | some (.ok l ds)=>if 2<=l then qg tg body ds ρ else UA
noncomputable def yb(i:Nat)(tg:FT)(body:FS):FS:=λρ=>match ρ[i]? with
 | some (U7 (.own xs))=>qg tg body xs (ρ.set i (U7 (.loc (.list xs))))
 | some (U7 (.par (.list xs)))=>if lfs xs=true then qg tg body xs ρ else UA
 | some (U7 (.loc (.list xs)))=>if lfs xs=true then qg tg body xs ρ else UA
 | some (U7 (.par (.tuple xs)))=>if lfs xs=true then qg tg body xs ρ else UA
 | some (U7 (.loc (.tuple xs)))=>if lfs xs=true then qg tg body xs ρ else UA
 | _=>UA
noncomputable def yx(c:FE)(body:FS):Nat->Rho->Option RS
 | 0,_=>UA
 | n+1,ρ=>zi (c ρ) ρ λ_ d=>match d with
  | .bool true=>(match body ρ with
   | some (.next ρ')=>yx c body n ρ'
   | some (.cont ρ')=>yx c body n ρ'
   | some (.brk ρ')=>U7 (.next ρ')
   | r=>r)
  | .bool false=>U7 (.next ρ)
  | _=>UA
noncomputable def wFuel:Nat:=100000
noncomputable def dz(c:FE)(body:FS):FS:=λρ=>yx c body wFuel ρ
noncomputable def qj(n:Nat)(b:FS):FC:=λds=>match b (ds.map (λd=>U7 (.par d))++UW (n - ds.length) UA) with
 | some (.ret d)=>U7 (.ok d)
 | some (.next _)=>U7 (.ok .none)
 | some (.exc c _)=>U7 (.exc c)
 | _=>UA
end KT
namespace KT
open PySem L2
abbrev PP:=Bool->UL->Prop
noncomputable def Rl(P:PP)(H:Hp)(a:UL)(u:HO):Prop:=(P false a/\H a=U7 u)∨(P true a/\∃ o,H a=U7 (.frz o u))
theorem Rl.rd{P:PP}{H:Hp}{a:UL}{u:HO}(h:Rl P H a u):Rd H a u:=h.elim (λx=>.inl x.2) λx=>.inr x.2
noncomputable def dEnt(x:List Int×Int):List Key×V:=(x.1.map .inl,.int x.2)
noncomputable def HE(x:List Int×Int):U8×U8:=(.tuple (x.1.map .int),.int x.2)
theorem Rd.same{H H':Hp}(s:Same H H'){a:UL}{u:HO}(h:Rd H a u):Rd H' a u:=by
 rcases h with h | ⟨o,h⟩
 ·exact .inl (s _ _ h)
 ·exact .inr ⟨o,s _ _ h⟩
mutual
noncomputable def RF(H:Hp):U8->V->Prop
 | .none,v=>v= .non
 | .bool b,v=>v= .bl b
 | .int i,v=>v= .int i
 | .str x,v=>v= .str x
 | .tuple ds,v=>∃ a vs,v= .ref a/\Rd H a (.tup vs)/\RFs H ds vs
 | .list _,_=>False
 | .dict _,_=>False
noncomputable def RFs(H:Hp):List U8->List V->Prop
 | [],vs=>vs=[]
 | d::ds,vs=>∃ v r,vs=v::r/\RF H d v/\RFs H ds r
end
noncomputable def U6(P:PP)(H:Hp)(kvs:List (U8×U8))(v:V):Prop:=∃ c ds es a w p q vs us,kvs=[(c,.list ds),(.none,.list es)]/\v= .ref a/\Rd H a (.tup [w,.ref p,.ref q])/\RF H c w/\p≠q/\Rl P H p (.lst vs)/\RFs H ds vs/\Rl P H q (.lst us)/\RFs H es us
mutual
theorem RF.mono{H H':Hp}(hT:∀ a vs,Rd H a (.tup vs)->Rd H' a (.tup vs)):∀ (d:U8) (v:V),RF H d v->RF H' d v
 | .none,_,h=>h
 | .bool _,_,h=>h
 | .int _,_,h=>h
 | .str _,_,h=>h
 | .tuple ds,_,⟨a,vs,e,h,r⟩=>⟨a,vs,e,hT a vs h,RFs.mono hT ds vs r⟩
 | .list _,_,h=>h.elim
 | .dict _,_,h=>h.elim
theorem RFs.mono{H H':Hp}(hT:∀ a vs,Rd H a (.tup vs)->Rd H' a (.tup vs)):∀ (ds:List U8) (vs:List V),RFs H ds vs->RFs H' ds vs
 | [],_,h=>h
 | d::ds,_,⟨v,r,e,h,t⟩=>⟨v,r,e,RF.mono hT d v h,RFs.mono hT ds r t⟩
end
mutual
noncomputable def Rep(P:PP)(H:Hp):U8->V->Prop
 | .none,v=>v= .non
 | .bool b,v=>v= .bl b
 | .int i,v=>v= .int i
 | .str x,v=>v= .str x
 | .tuple ds,v=>∃ a vs,v= .ref a/\Rd H a (.tup vs)/\Reps P H ds vs
 | .list ds,v=>∃ a vs,v= .ref a/\Rl P H a (.lst vs)/\Reps P H ds vs
 | .dict kvs,v=>(∃ a:Nat,kvs=[(.none,.int a)]/\v= .ref a)∨(∃ (a:UL) (ts:List (List Int×Int)) (ep:Nat),v= .ref a/\kvs=ts.map HE/\Rl P H a (.dT (ts.map dEnt) ep))∨U6 P H kvs v
noncomputable def Reps(P:PP)(H:Hp):List U8->List V->Prop
 | [],vs=>vs=[]
 | d::ds,vs=>∃ v r,vs=v::r/\Rep P H d v/\Reps P H ds r
end
mutual
theorem Rep.mono{P P':PP}{H H':Hp}(hT:∀ a vs,Rd H a (.tup vs)->Rd H' a (.tup vs))(hL:∀ a u,Rl P H a u->Rl P' H' a u):
  ∀ (d:U8) (v:V),Rep P H d v->Rep P' H' d v
 | .none,_,h=>h
 | .bool _,_,h=>h
 | .int _,_,h=>h
 | .str _,_,h=>h
 | .tuple ds,_,⟨a,vs,e,h,r⟩=>⟨a,vs,e,hT a vs h,Reps.mono hT hL ds vs r⟩
 | .list ds,_,⟨a,vs,e,h,r⟩=>⟨a,vs,e,hL a _ h,Reps.mono hT hL ds vs r⟩
 | .dict _,_,h=>h.imp (λx=>x) λh=>h.imp (λ⟨a,ts,ep,e,q,r⟩=>⟨a,ts,ep,e,q,hL a _ r⟩) λ⟨c,ds,es,a,w,p,q,vs,us,e,e1,h1,h2,n,h3,h4,h5,h6⟩=>⟨c,ds,es,a,w,p,q,vs,us,e,e1,hT _ _ h1,RF.mono hT _ _ h2,n,hL _ _ h3,RFs.mono hT _ _ h4,hL _ _ h5,RFs.mono hT _ _ h6⟩
theorem Reps.mono{P P':PP}{H H':Hp}(hT:∀ a vs,Rd H a (.tup vs)->Rd H' a (.tup vs))(hL:∀ a u,Rl P H a u->Rl P' H' a u):
  ∀ (ds:List U8) (vs:List V),Reps P H ds vs->Reps P' H' ds vs
 | [],_,h=>h
 | d::ds,_,⟨v,r,e,h,t⟩=>⟨v,r,e,Rep.mono hT hL d v h,Reps.mono hT hL ds r t⟩
end
mutual
theorem RF.rep{P:PP}{H:Hp}:∀ (d:U8) (v:V),RF H d v->Rep P H d v
 | .none,_,h=>h
 | .bool _,_,h=>h
 | .int _,_,h=>h
 | .str _,_,h=>h
 | .tuple ds,_,⟨a,vs,e,h,r⟩=>⟨a,vs,e,h,RFs.rep ds vs r⟩
 | .list _,_,h=>h.elim
 | .dict _,_,h=>h.elim
theorem RFs.rep{P:PP}{H:Hp}:∀ (ds:List U8) (vs:List V),RFs H ds vs->Reps P H ds vs
 | [],_,h=>h
 | d::ds,_,⟨v,r,e,h,t⟩=>⟨v,r,e,RF.rep d v h,RFs.rep ds r t⟩
end
mutual
theorem Rep.rf{P:PP}{H:Hp}:∀ (d:U8) (v:V),lf d=true->Rep P H d v->RF H d v
 | .none,_,_,h=>h
 | .bool _,_,_,h=>h
 | .int _,_,_,h=>h
 | .str _,_,_,h=>h
 | .tuple ds,_,f,⟨a,vs,e,h,r⟩=>⟨a,vs,e,h,Reps.rf ds vs (by simpa [lf] using f) r⟩
 | .list _,_,f,_=>by simp [lf] at f
 | .dict _,_,f,_=>by simp [lf] at f
theorem Reps.rf{P:PP}{H:Hp}:∀ (ds:List U8) (vs:List V),lfs ds=true->Reps P H ds vs->RFs H ds vs
 | [],_,_,h=>h
 | d::ds,_,f,⟨v,r,e,h,t⟩=>by
  have f':lf d=true/\lfs ds=true:=by simpa [lfs] using f
  exact ⟨v,r,e,Rep.rf d v f'.1 h,Reps.rf ds r f'.2 t⟩
end
theorem Rl.same{P:PP}{H H':Hp}(s:Same H H'){a:UL}{vs:HO}(h:Rl P H a vs):Rl P H' a vs:=by
 rcases h with ⟨p,h⟩ | ⟨p,o,h⟩
 ·exact .inl ⟨p,s _ _ h⟩
 ·exact .inr ⟨p,o,s _ _ h⟩
theorem Rl.imp{P P':PP}{H:Hp}(hP:∀ z a,P z a->P' z a){a:UL}{vs:HO}(h:Rl P H a vs):Rl P' H a vs:=by
 rcases h with ⟨p,h⟩ | ⟨p,o,h⟩
 ·exact .inl ⟨hP _ _ p,h⟩
 ·exact .inr ⟨hP _ _ p,o,h⟩
theorem Rep.same{P:PP}{H H':Hp}(s:Same H H'){d:U8}{v:V}(h:Rep P H d v):Rep P H' d v:=
 Rep.mono (λ_ _ e=>Rd.same s e) (λ_ _ r=>r.same s) d v h
theorem Reps.same{P:PP}{H H':Hp}(s:Same H H'){d:List U8}{v:List V}(h:Reps P H d v):Reps P H' d v:=
 Reps.mono (λ_ _ e=>Rd.same s e) (λ_ _ r=>r.same s) d v h
theorem Rep.imp{P P':PP}{H:Hp}(hP:∀ z a,P z a->P' z a){d:U8}{v:V}(h:Rep P H d v):Rep P' H d v:=
 Rep.mono (λ_ _ e=>e) (λ_ _ r=>r.imp hP) d v h
theorem Reps.imp{P P':PP}{H:Hp}(hP:∀ z a,P z a->P' z a){d:List U8}{v:List V}(h:Reps P H d v):Reps P' H d v:=
 Reps.mono (λ_ _ e=>e) (λ_ _ r=>r.imp hP) d v h
mutual
theorem Rep.free{P P':PP}{H H':Hp}(hT:∀ a vs,Rd H a (.tup vs)->Rd H' a (.tup vs)):∀ (d:U8) (v:V),lf d=true->Rep P H d v->Rep P' H' d v
 | .none,_,_,h=>h
 | .bool _,_,_,h=>h
 | .int _,_,_,h=>h
 | .str _,_,_,h=>h
 | .tuple ds,_,f,⟨a,vs,e,h,r⟩=>⟨a,vs,e,hT a vs h,Reps.free hT ds vs (by simpa [lf] using f) r⟩
 | .list _,_,f,_=>by simp [lf] at f
 | .dict _,_,f,_=>by simp [lf] at f
theorem Reps.free{P P':PP}{H H':Hp}(hT:∀ a vs,Rd H a (.tup vs)->Rd H' a (.tup vs)):∀ (ds:List U8) (vs:List V),lfs ds=true->Reps P H ds vs->Reps P' H' ds vs
 | [],_,_,h=>h
 | d::ds,_,f,⟨v,r,e,h,t⟩=>by
  have f':lf d=true/\lfs ds=true:=by simpa [lfs] using f
  exact ⟨v,r,e,Rep.free hT d v f'.1 h,Reps.free hT ds r f'.2 t⟩
end
theorem Rep.nl{P P':PP}{H:Hp}{d:U8}{v:V}(f:lf d=true)(h:Rep P H d v):Rep P' H d v:=Rep.free (λ_ _ e=>e) d v f h
theorem Reps.nl{P P':PP}{H:Hp}{d:List U8}{v:List V}(f:lfs d=true)(h:Reps P H d v):Reps P' H d v:=Reps.free (λ_ _ e=>e) d v f h
theorem Reps.length{P:PP}{H:Hp}:∀ {ds:List U8} {vs:List V},Reps P H ds vs->vs.length=ds.length
 | [],_,h=>by cases (show _=_ from h);rfl
 | d::ds,_,⟨v,r,e,_,t⟩=>by subst e;simp [Reps.length t]
theorem Reps.get{P:PP}{H:Hp}:∀ {ds:List U8} {vs:List V} {i:Nat} {d:U8},Reps P H ds vs->ds[i]? =U7 d->∃ v,vs[i]? =U7 v/\Rep P H d v
 | [],_,_,_,_,e=>by simp at e
 | d::ds,_,0,d',⟨v,r,e,h,t⟩,q=>by subst e;simp at q;subst q;exact ⟨v,rfl,h⟩
 | d::ds,_,i+1,d',⟨v,r,e,h,t⟩,q=>by
  subst e
  obtain ⟨u,q1,q2⟩:=Reps.get (i:=i) t (by simpa using q)
  exact ⟨u,by simpa using q1,q2⟩
theorem Reps.append{P:PP}{H:Hp}:∀ {ds es:List U8} {vs us:List V},Reps P H ds vs->Reps P H es us->Reps P H (ds++es) (vs++us)
 | [],_,_,_,h,t=>by cases (show _=_ from h);exact t
 | d::ds,_,_,_,⟨v,r,e,h,t⟩,q=>by subst e;exact ⟨v,_,rfl,h,Reps.append t q⟩
theorem Reps.one{P:PP}{H:Hp}{d:U8}{v:V}(h:Rep P H d v):Reps P H [d] [v]:=⟨v,[],rfl,h,rfl⟩
theorem Reps.drop{P:PP}{H:Hp}:∀ {ds:List U8} {vs:List V} (n:Nat),Reps P H ds vs->Reps P H (ds.drop n) (vs.drop n)
 | _,_,0,h=>h
 | [],_,n+1,h=>by cases (show _=_ from h);exact rfl
 | d::ds,_,n+1,⟨v,r,e,h,t⟩=>by subst e;exact Reps.drop n t
theorem Reps.take{P:PP}{H:Hp}:∀ {ds:List U8} {vs:List V} (n:Nat),Reps P H ds vs->Reps P H (ds.take n) (vs.take n)
 | _,_,0,h=>rfl
 | [],_,n+1,h=>by cases (show _=_ from h);exact rfl
 | d::ds,_,n+1,⟨v,r,e,h,t⟩=>by subst e;exact ⟨v,_,rfl,h,Reps.take n t⟩
theorem N8:∀ {xs:List U8},(∀ x∈xs,lf x=true)->lfs xs=true
 | [],_=>rfl
 | y::ys,f=>by simp [lfs,f y (UN ..),N8 λx h=>f x (UQ _ h)]
section
variable{X:Cx}{pins:List (UL×WK)}{σ:St}{H:Hp}{s:UG}{P:PP}
mutual
theorem vi(I:Inv X pins σ H s):∀ (d:U8) (v:V) (u:UB),d.canLay0=true->Rep P H d v->RelV v u->∃ as,Reads s.heap u d as
 | .none,_,_,_,h,r=>by cases (show _=_ from h);cases r;exact ⟨_,.none⟩
 | .bool b,_,_,_,h,r=>by cases (show _=_ from h);cases r;exact ⟨_,.bool b⟩
 | .int i,_,_,_,h,r=>by cases (show _=_ from h);obtain ⟨t,rfl⟩:=r;exact ⟨_,.int i t⟩
 | .str x,_,_,_,h,r=>by cases (show _=_ from h);obtain ⟨t,rfl⟩:=r;exact ⟨_,.str x t⟩
 | .tuple ds,_,_,c,⟨a,vs,e,h,t⟩,r=>by
  subst e;cases r
  obtain ⟨its,rs,⟨o,ho,hc,n,hd⟩,_⟩:=I.tuple (.inl h)
  obtain ⟨as,q⟩:=readsAll_of I ds vs its (by simpa [Vi] using c) t rs
  exact ⟨_,.tuple ho hc hd q⟩
 | .list ds,_,_,c,⟨a,vs,e,h,t⟩,r=>by
  subst e;cases r
  obtain ⟨its,rs,⟨o,n,ho,hc,hd0,hd⟩,_⟩:=I.list (.inl h.rd)
  obtain ⟨as,q⟩:=readsAll_of I ds vs its (by simpa [Vi] using c) t rs
  exact ⟨_,.list ho hc hd q⟩
 | .dict _,_,_,c,_,_=>by simp [Vi] at c
theorem readsAll_of(I:Inv X pins σ H s):∀ (ds:List U8) (vs:List V) (us:List UB),UP ds=true->Reps P H ds vs->Vals vs us->∃ as,ReadsAll s.heap us ds as
 | [],_,_,_,h,r=>by cases (show _=_ from h);cases r;exact ⟨_,.nil⟩
 | d::ds,_,_,c,⟨v,t,e,h,hs⟩,r=>by
  subst e
  have c':d.canLay0=true/\UP ds=true:=by simpa [UP] using c
  cases r with
  | cons r1 r2=>
   obtain ⟨as,q⟩:=vi I d v _ c'.1 h r1
   obtain ⟨bs,q'⟩:=readsAll_of I ds t _ c'.2 hs r2
   exact ⟨_,.cons q q'⟩
end
end
noncomputable def PL(H₀ Hs:Hp):Nat->PP
 | 0=>λ_ _=>True
 | 1=>λz a=>z=false/\H₀ a=UA
 | _=>λz a=>z=false/\Hs a=UA
theorem PL.le{H₀ Hs:Hp}(s:Same H₀ Hs){l m:Nat}(h:l<=m){z:Bool}{a:UL}(p:PL H₀ Hs m z a):PL H₀ Hs l z a:=by
 match l,m with
 | 0,_=>exact trivial
 | 1,1=>exact p
 | 1,m+2=>exact ⟨p.1,s.free p.2⟩
 | l+2,m+2=>exact p
 | l+1,0=>omega
 | l+2,1=>omega
noncomputable def XRep(cv:Nat->UB)(H:Hp)(c:Nat)(a:UL):Prop:=∃ φ,H a=U7 (.ext φ)/\∀ h,φ h->∃ o,h.get? a=U7 o/\o.cls=cv c/\o.dict=UA/\∃ vs,o.data= .fields vs
theorem XRep.same{cv:Nat->UB}{H H':Hp}{c:Nat}{a:UL}(s:Same H H')(h:XRep cv H c a):XRep cv H' c a:=let ⟨φ,e,r⟩:=h;⟨φ,s _ _ e,r⟩
noncomputable def DR(H:Hp)(ts:List (List Int×Int))(a:UL):Prop:=∃ ep,H a=U7 (.dT (ts.map dEnt) ep)
theorem DR.same{H H':Hp}{ks:List (List Int×Int)}{a:UL}(s:Same H H')(h:DR H ks a):DR H' ks a:=let ⟨ep,q⟩:=h;⟨ep,s _ _ q⟩
noncomputable def VS(cv:Nat->UB)(H₀:Hp)(o:Option (Option V))(H:Hp):Slot->Prop
 | .par d=>∃ v,o=U7 (U7 v)/\Rep (λ_ _=>True) H d v
 | .loc d=>∃ v,o=U7 (U7 v)/\Rep (λz a=>z=false/\H₀ a=UA) H d v
 | .own ds=>∃ v,o=U7 (U7 v)/\Rep (λz a=>z=false/\H₀ a=UA) H (.list ds) v
 | .own2 ds=>∃ v,o=U7 (U7 v)/\Rep (λz a=>z=false/\H₀ a=UA) H (.list ds) v
 | .lent ds=>∃ v,o=U7 (U7 v)/\Rep (λz a=>z=false/\H₀ a=UA) H (.list ds) v
 | .dct ks=>∃ v,o=U7 (U7 v)/\Rep (λz a=>z=false/\H₀ a=UA) H (.dict (ks.map HE)) v
 | .duo c ds es=>∃ v,o=U7 (U7 v)/\Rep (λz a=>z=false/\H₀ a=UA) H (.tuple [c,.list ds,.list es]) v
 | .ex c=>∃ a,o=U7 (U7 (.ref a))/\XRep cv H c a
theorem VS.same{cv:Nat->UB}{H₀ H H':Hp}{o:Option (Option V)}(s:Same H H'):∀ {t:Slot},VS cv H₀ o H t->VS cv H₀ o H' t
 | .par _,⟨v,e,h⟩=>⟨v,e,h.same s⟩
 | .loc _,⟨v,e,h⟩=>⟨v,e,h.same s⟩
 | .own _,⟨v,e,h⟩=>⟨v,e,h.same s⟩
 | .own2 _,⟨v,e,h⟩=>⟨v,e,h.same s⟩
 | .lent _,⟨v,e,h⟩=>⟨v,e,h.same s⟩
 | .dct _,⟨v,e,h⟩=>⟨v,e,h.same s⟩
 | .duo _ _ _,⟨v,e,h⟩=>⟨v,e,h.same s⟩
 | .ex _,⟨a,e,h⟩=>⟨a,e,h.same s⟩
structure G(cv:Nat->UB)(H₀ Hs:Hp)(ρ:Rho)(σ:St)(H:Hp):Prop where
 s0:Same H₀ Hs
 s1:Same Hs H
 vr:∀ (i:Nat) t,ρ[i]? =U7 (U7 t)->VS cv H₀ σ[i]? H t
theorem G.same{cv:Nat->UB}{H₀ Hs H H':Hp}{ρ:Rho}{σ:St}(g:G cv H₀ Hs ρ σ H)(s:Same H H'):G cv H₀ Hs ρ σ H':=⟨g.s0,g.s1.trans s,λi t e=>(g.vr i t e).same s⟩
abbrev XOF:=Nat->St->Hp->Prop
structure XOT where
 cv:Nat->UB
 f:XOF
noncomputable def KK(XO:XOT)(H₀ Hs:Hp)(σ:St)(H:Hp)(Q:VK)(r:RE):Prop:=
 (∀ l d v H',r= .ok l d->Same H H'->Rep (PL H₀ Hs l) H' d v->Q v H')/\∀ c H',r= .exc c->Same H H'->XO.f c σ H'
theorem KK.same{XO:XOT}{H₀ Hs:Hp}{σ:St}{H H':Hp}{Q:VK}{r:RE}(k:KK XO H₀ Hs σ H Q r)(s:Same H H'):KK XO H₀ Hs σ H' Q r:=
 ⟨λl d v H2 e t=>k.1 l d v H2 e (s.trans t),λc H2 e t=>k.2 c H2 e (s.trans t)⟩
noncomputable def tF(XO:XOT)(f:FE):TE:=λσ H Q=>∃ H₀ Hs ρ r,G XO.cv H₀ Hs ρ σ H/\f ρ=U7 r/\KK XO H₀ Hs σ H Q r
theorem wy{XO:XOT}{H₀ Hs:Hp}{ρ:Rho}{σ:St}{H:Hp}{Q Q':VK}{fa:FE}{k:Nat->U8->Option RE}{r:RE}(g:G XO.cv H₀ Hs ρ σ H)(e:zk (fa ρ) k=U7 r)(kk:KK XO H₀ Hs σ H Q r)
  (cont:∀ l d v H1,Same H H1->G XO.cv H₀ Hs ρ σ H1->Rep (PL H₀ Hs l) H1 d v->k l d=U7 r->KK XO H₀ Hs σ H1 Q r->Q' v H1):tF XO fa σ H Q':=by
 cases h:fa ρ with
 | none=>rw [h] at e;cases e
 | some x=>
  rw [h] at e
  cases x with
  | exc c=>
   cases (Vx e)
   exact ⟨H₀,Hs,ρ,.exc c,g,h,⟨λl d v H' e=>(nomatch e),kk.2⟩⟩
  | ok l d=>
   refine ⟨H₀,Hs,ρ,.ok l d,g,h,⟨λl' d' v H' e' s rp=>?_,λc H' e=>(nomatch e)⟩⟩
   cases e'
   exact cont l d v H' s (g.same s) rp e (kk.same s)
theorem KK.give{XO:XOT}{H₀ Hs:Hp}{σ:St}{H:Hp}{Q:VK}{r:RE}{l:Nat}{d:U8}{v:V}{H':Hp}(kk:KK XO H₀ Hs σ H Q r)(e:U7 (RE.ok l d)=U7 r)(s:Same H H')(rp:Rep (PL H₀ Hs l) H' d v):Q v H':=
 kk.1 l d v H' (Vx e).symm s rp
section
variable{X:Cx}{XO:XOT}{a b c:Vw}{fa fb fc:FE}{pos:Xz}
theorem PE.imp{e:Vw}{t t':TE}(h:PE X e t)(f:∀ σ H Q,t' σ H Q->t σ H Q):PE X e t':=λpins s σ H Q I q=>h pins s σ H Q I (f σ H Q q)
theorem PT.imp{e:Vw}{t t':TT}(h:PT X e t)(f:∀ σ H Q,t' σ H Q->t σ H Q):PT X e t':=λpins s σ H Q I q=>h pins s σ H Q I (f σ H Q q)
theorem PS.imp{e:VW}{t t':TS}(h:PS X e t)(f:∀ D σ H,t' D σ H->t D σ H):PS X e t':=λpins s σ H D I q=>h pins s σ H D I (f D σ H q)
theorem zg{i:Int}{j pos}:PE X (.Constant (.int i) j pos) (tF XO (eC (.int i))):=PE.imp BO λσ H Q ⟨H₀,Hs,ρ,r,g,e,kk⟩=>kk.give e (Same.refl _) rfl
theorem qd{i:Vk}{j pos}:PE X (.Constant (.str i) j pos) (tF XO (eC (.str i))):=PE.imp Sd λσ H Q ⟨H₀,Hs,ρ,r,g,e,kk⟩=>kk.give e (Same.refl _) rfl
theorem KQ{i:Bool}{j pos}:PE X (.Constant (.bool i) j pos) (tF XO (eC (.bool i))):=PE.imp Tq λσ H Q ⟨H₀,Hs,ρ,r,g,e,kk⟩=>kk.give e (Same.refl _) rfl
theorem n5{j pos}:PE X (.Constant .none j pos) (tF XO (eC .none)):=PE.imp QY λσ H Q ⟨H₀,Hs,ρ,r,g,e,kk⟩=>kk.give e (Same.refl _) rfl
theorem zc(i:Nat){x:Vk}{pos:Xz}(hN:X.N[i]? =U7 x:=by rfl)(hv:Vis X.env.scope x:=by first | exact VE rfl | exact Vr (VE rfl) | exact Vr (Vr rfl))(hd:(x == ("__debug__":Vk))=false:=by decide)
  (hcd:(x == ("__classdict__":Vk))=false:=by decide):PE X (.Name x pos) (tF XO (za i)):=PE.imp (yk hN hv hd hcd) λσ H Q ⟨H₀,Hs,ρ,r,g,e,kk⟩=>by
 unfold za at e
 have vr:=g.vr i
 split at e
 ·rename_i d hρ
  obtain ⟨v,h1,h2⟩:=vr _ hρ
  exact ⟨v,h1,kk.give e (Same.refl _) h2⟩
 ·rename_i d hρ
  obtain ⟨v,h1,h2⟩:=vr _ hρ
  exact ⟨v,h1,kk.give e (Same.refl _) h2⟩
 ·rename_i d hρ
  obtain ⟨v,h1,h2⟩:=vr _ hρ
  exact ⟨v,h1,kk.give e (Same.refl _) h2⟩
 ·rename_i d hρ
  obtain ⟨v,h1,h2⟩:=vr _ hρ
  exact ⟨v,h1,kk.give e (Same.refl _) h2⟩
 ·rename_i d hρ
  obtain ⟨v,h1,h2⟩:=vr _ hρ
  exact ⟨v,h1,kk.give e (Same.refl _) h2⟩
 ·rename_i d hρ
  obtain ⟨v,h1,h2⟩:=vr _ hρ
  exact ⟨v,h1,kk.give e (Same.refl _) h2⟩
 ·rename_i d hρ
  obtain ⟨v,h1,h2⟩:=vr _ hρ
  exact ⟨v,h1,kk.give e (Same.refl _) h2⟩
 ·cases e
noncomputable def OpD(r:R2)(op:U8->U8->Option U8)(fr:Bool):Prop:=
 ∀ (H₀ Hs H:Hp) (l m:Nat) (x y d:U8) (v u:V) (Q:VK),Same H₀ Hs->Same Hs H->op x y=U7 d->Rep (PL H₀ Hs l) H x v->Rep (PL H₀ Hs m) H y u->
  (∀ z H',Same H H'->Rep (PL H₀ Hs (if fr then 2 else min l m)) H' d z->Q z H')->r v u H Q
theorem BD{r:R2}{op:U8->U8->Option U8}{fr:Bool}(ho:OpD r op fr){σ:St}{H:Hp}{Q:VK}(h:tF XO (e2 op fr fa fb) σ H Q):tOp r (tF XO fa) (tF XO fb) σ H Q:=by
 obtain ⟨H₀,Hs,ρ,rr,g,e,kk⟩:=h
 refine wy g e kk λl x v H1 s1 g1 r1 e1 k1=>?_
 refine wy g1 e1 k1 λm y u H2 s2 g2 r2 e2' k2=>?_
 cases hd:op x y with
 | none=>rw [hd] at e2';cases e2'
 | some d=>
  rw [hd] at e2'
  exact ho H₀ Hs H2 l m x y d v u Q g2.s0 g2.s1 hd (r1.same s2) r2 λz H' s rp=>k2.give e2' s rp
theorem IU{op:Operator}{r:R2}{f:U8->U8->Option U8}{fr:Bool}(ho:OpR X (WN op) r)(hd:OpD r f fr)(ha:PE X a (tF XO fa))(hb:PE X b (tF XO fb)):PE X (.BinOp a op b pos) (tF XO (e2 f fr fa fb)):=
 PE.imp (Mx ho ha hb) λ_ _ _ h=>BD hd h
theorem Qv{op:CmpOp}{r:R2}{f:U8->U8->Option U8}{fr:Bool}(ho:OpR X (VZ op) r)(hd:OpD r f fr)(ha:PE X a (tF XO fa))(hb:PE X b (tF XO fb))(hm:Xs op b=false):PE X (.Compare a [op] [b] pos) (tF XO (e2 f fr fa fb)):=
 PE.imp (PN ho ha hb hm) λ_ _ _ h=>BD hd h
theorem Uc{r:R2}{f:U8->U8->Option U8}{fr:Bool}(ho:IxR X r)(hd:OpD r f fr)(ha:PE X a (tF XO fa))(hb:PE X b (tF XO fb))(hs:BF b):PE X (.Subscript a b pos) (tF XO (e2 f fr fa fb)):=
 PE.imp (NG ho ha hb hs) λ_ _ _ h=>BD hd h
end
end KT
namespace KT
open PySem PySem.Spec PyProof.Rows L2
theorem qc{H:Hp}{p:UL}(h:H p=UA)(o:HO):Same H (upd H p o):=λb u q=>by rw [z0 (qv q h)];exact q
theorem Cu:big<=Vc:=by decide
theorem ah{n:Nat}(h:n<=big):n<=Vc:=UU h Cu
section
variable{X:Cx}{XO:XOT}{a b c:Vw}{fa fb fc:FE}{pos:Xz}
noncomputable def rCatE:R2:=λx y H Q=>∃ a b ys,x= .ref a/\y= .ref b/\Rd H a (.tup [])/\Rd H b (.tup ys)/\Q (.ref b) H
theorem op_catE:OpR X (WN .Add) rCatE:=by
 intro pins s σ H x y v u Q I rx ry h
 obtain ⟨a,b,ys,rfl,rfl,ha,hb,q⟩:=h
 cases rx
 cases ry
 obtain ⟨its,r1,p1,_⟩:=I.tuple (.inl ha)
 obtain ⟨its2,r2,p2,_⟩:=I.tuple (.inl hb)
 obtain ⟨⟨cls,dd,data,sl⟩,ho,hc,n,hd⟩:=id p1
 obtain ⟨⟨cls2,dd2,data2,sl2⟩,ho2,hc2,n2,hd2⟩:=id p2
 simp only at hc hd hc2 hd2
 subst hc hd hc2 hd2
 have hv:its=[]:=r1.nil_iff.mpr rfl
 exact concat_meets ⟨_,ho,rfl⟩ ⟨_,ho2,rfl⟩ noFill_tuple_add seq_tuple_add Y8 Y2 (Yp _ _)
  (tuple_addW0 a b its.toArray its2.toArray n n2 dd dd2 sl sl2 (by simp [hv])) ⟨ho,ho2,⟨.ref b,H,I,rfl,q⟩⟩
theorem Ot{pins:List (UL×WK)}{σ:L2.St}{H:Hp}{s:UG}{l:UL}{xs:List V}(I:Inv X pins σ H s)(hH:Rd H l (.lst xs)):
  xs.length<=Vc/\∃ (its:List UB) (n:Nat),Vals xs its/\xs.length=its.length/\s.heap.get? l=U7 {cls:=.type "list",data:=.seq its.toArray n}:=by
 obtain ⟨z,its,n,r,e⟩:=hH.ok I.hok
 exact ⟨z,its,n,r,r.length,e⟩
noncomputable def rCatR:R2:=λx y H Q=>∃ l b xs zs,x= .ref l/\y= .ref b/\Rd H l (.lst xs)/\Rd H b (.lst zs)/\xs.length+zs.length<=Vc/\∀ p,H p=UA->Q (.ref p) (upd H p (.lst (xs++zs)))
theorem OQ:OpR X (WN .Add) rCatR:=by
 intro pins s σ H x y v u Q I rx ry h
 obtain ⟨l,b,xs,zs,rfl,rfl,hH,hB,hz,q⟩:=h
 cases rx
 cases ry
 obtain ⟨z,its,n,r,hl,e⟩:=Ot I hH
 obtain ⟨z2,its2,n2,r2,hl2,e2⟩:=Ot I hB
 refine PySem.P.add_list e e2 ?_ (by rw [UO,UO];omega)
 have ea:its.toArray++its2.toArray=(its++its2).toArray:=by simp
 rw [ea]
 exact ⟨.ref _,_,I.lnew (t':=s.toks) (r.append r2) (by rw [UC];omega),rfl,q _ I.fresh⟩
noncomputable def Tc:R2:=λx y H Q=>∃ i j,x= .str i/\y= .str j/\i.length+j.length<=Vc/\Q (.str (i++j)) H
noncomputable def Qn(K:UF):R2:=λx y H Q=>rI0 (λi j=>.int (i+j)) x y H Q∨Tc x y H Q∨Qp K x y H Q∨rCatE x y H Q∨rCatR x y H Q
theorem OJ:OpR X (WN .Add) (Qn X.K):=op_add.or (OpR.or Jw (op_catT.or (op_catE.or OQ)))
theorem RT{K:UF}:OpD (Qn K) bz true:=by
 intro H₀ Hs H l m x y d v u Q s0 s1 e rx ry q
 unfold bz at e
 split at e
 ·rename_i i j
  cases (show v= .int i from rx);cases (show u= .int j from ry);cases e
  exact .inl ⟨i,j,rfl,rfl,q _ H (Same.refl H) rfl⟩
 ·rename_i x y
  split at e
  ·rename_i hz
   cases (show v= .str x from rx);cases (show u= .str y from ry);cases e
   exact .inr (.inl ⟨x,y,rfl,rfl,ah hz,q _ H (Same.refl H) rfl⟩)
  ·cases e
 ·rename_i xs ys
  split at e
  ·rename_i hz
   simp only [Ve,decide_eq_true_eq] at hz
   obtain ⟨⟨f1,f2⟩,hz⟩:=hz
   cases e
   obtain ⟨pa,vs,rfl,ha,ra⟩:=rx
   obtain ⟨pb,us,rfl,hb,rb⟩:=ry
   have l1:=ra.length
   have l2:=rb.length
   by_cases hv:vs=[]
   ·subst hv
    have:xs=[]:=by cases xs with | nil=>rfl | cons _ _=>simp at l1
    subst this
    exact .inr (.inr (.inr (.inl ⟨pa,pb,us,rfl,rfl,ha,hb,q _ H (Same.refl H) ⟨pb,us,rfl,hb,rb.nl f2⟩⟩)))
   ·refine .inr (.inr (.inl ⟨pa,pb,vs,us,rfl,rfl,.inl ha,.inl hb,hv,by rw [l1,l2];exact ah hz,λhu=>?_,λhu p hp=>?_⟩))
    ·subst hu
     have:ys=[]:=by cases ys with | nil=>rfl | cons _ _=>simp at l2
     subst this
     rw [V3] at q
     exact q _ H (Same.refl H) ⟨pa,vs,rfl,ha,ra.nl f1⟩
    ·exact q _ _ (qc hp _) ⟨p,_,rfl,(.inl z9),((ra.nl f1).append (rb.nl f2)).same (qc hp _)⟩
  ·cases e
 ·rename_i xs ys
  split at e
  ·rename_i hz
   simp only [Ve,decide_eq_true_eq] at hz
   obtain ⟨⟨f1,f2⟩,hz⟩:=hz
   cases e
   obtain ⟨pa,vs,rfl,ha,ra⟩:=rx
   obtain ⟨pb,us,rfl,hb,rb⟩:=ry
   have l1:=ra.length
   have l2:=rb.length
   refine .inr (.inr (.inr (.inr ⟨pa,pb,vs,us,rfl,rfl,ha.rd,hb.rd,by rw [l1,l2];exact ah hz,λp hp=>?_⟩)))
   exact q _ _ (qc hp _) ⟨p,_,rfl,.inl ⟨⟨rfl,s1.free hp⟩,z9⟩,((ra.nl f1).append (rb.nl f2)).same (qc hp _)⟩
  ·cases e
 ·cases e
theorem j7(ha:PE X a (tF XO fa))(hb:PE X b (tF XO fb)):PE X (.BinOp a .Add b pos) (tF XO (qh fa fb)):=IU OJ RT ha hb
theorem Ff{C:Int->Int->Prop}{g:Int->Int->Int}{f:U8->U8->Option U8}(hf:∀ x y d,f x y=U7 d->∃ i j,x= .int i/\y= .int j/\C i j/\d= .int (g i j)):OpD (rI C λi j=>.int (g i j)) f true:=by
 intro H₀ Hs H l m x y d v u Q s0 s1 e rx ry q
 obtain ⟨i,j,rfl,rfl,hc,rfl⟩:=hf x y d e
 cases (show v= .int i from rx);cases (show u= .int j from ry)
 exact ⟨i,j,rfl,rfl,hc,q _ H (Same.refl H) rfl⟩
theorem P6:OpR X (WN .Sub) (rI (λ_ _=>True) λi j=>.int (i - j)):=opI λ_ _ _ _ _ _ _ _ q=>sub_int q
theorem G5(ha:PE X a (tF XO fa))(hb:PE X b (tF XO fb)):PE X (.BinOp a .Sub b pos) (tF XO (iz fa fb)):=
 IU P6 (Ff λx y d e=>by unfold IP at e;split at e<;>first | (cases e;exact ⟨_,_,rfl,rfl,trivial,rfl⟩) | cases e) ha hb
theorem Hm{i:Int}(h:i.natAbs < lim):Vo.Int.intBits i<=2 ^ 20:=by
 unfold Vo.Int.intBits
 split
 ·exact VJ _
 ·rename_i h0
  have h1:i.natAbs≠0:=by
   intro z
   exact h0 (by simp [Int.natAbs_eq_zero.mp z])
  have h2:i.natAbs.log2 < 256:=(Nat.log2_lt h1).mpr h
  have h3:(256:Nat)<=2 ^ 20:=by decide
  omega
theorem CMulD.ok{i j:Int}(h:CMulD i j):IntMulOk i j:=by
 rcases h with h | h | ⟨h1,h2⟩
 ·exact IntMulOk.of_left (intBits_le_64 (by omega) (by omega))
 ·exact IntMulOk.of_right (intBits_le_64 (by omega) (by omega))
 ·exact IntMulOk.of_bits (Hm h1) (Hm h2)
theorem op_mulI:OpR X (WN .Mult) (rI CMulD λi j=>.int (i * j)):=opI λ_ _ _ _ _ _ _ hc q=>mul_int q hc.ok
noncomputable def rRepR:R2:=λx y H Q=>∃ l k xs,x= .ref l/\y= .int k/\Rd H l (.lst xs)/\-(2 ^ 63)<=k/\k < 2 ^ 63/\xs.length * k.toNat<=Vc/\
 ∀ p,H p=UA->Q (.ref p) (upd H p (.lst (UW k.toNat xs).flatten))
theorem Px:OpR X (WN .Mult) rRepR:=by
 intro pins s σ H x y v u Q I rx ry h
 obtain ⟨l,k,xs,rfl,rfl,hH,h1,h2,hz,q⟩:=h
 cases rx
 obtain ⟨t,rfl⟩:=ry
 obtain ⟨z,its,n,r,hl,e⟩:=Ot I hH
 have hlen:its.toArray.size * k.toNat<=Vc:=by rw [UO,<- hl];exact hz
 have hcap:¬ its.toArray.size * k.toNat > (2 ^ 63 - 1) / 8:=by
  have:(Vc:Nat)<=(2 ^ 63 - 1) / 8:=by decide
  omega
 have hfit:¬ (!Vo.List.listFitsIndex k)=true:=by
  rw [fitsIndex_both h1 h2]
  exact UY
 have hlong:¬ VO (its.toArray.size * k.toNat)=true:=by
  rw [BX hlen]
  exact UY
 have hnew:Zk (λx1 x2=>x1++x2) #[] (UW (if its.toArray.isEmpty=true then 0 else k.toNat) its.toArray)=(UW k.toNat its).flatten.toArray:=by
  have f0:∀ m:Nat,Zk (λx1 x2=>x1++x2) #[] (UW m its.toArray)=(UW m its).flatten.toArray:=λm=>by
   have:=AW its m []
   rw [XG] at this
   exact this
  rw [f0]
  cases its with
  | nil=>simp
  | cons a r'=>rw [if_neg (by simp)]
 refine wpAny_binaryOp_repeat_ref (T:="list") (U:="int") (by decide) ⟨_,e,rfl⟩ (λs'=>typeIs_int s' k t) noFill_list_mul F.fills_int_mul YZ repeat_list F.slot_int_index.lookup
  (W9 YZ (typeIs_int s k t) F.entry_int_rmul (F.args_int_rmul_2 _ _) (int___rmul___int_list k t l its.toArray n)
    ⟨e,rfl,⟨_,e,rfl⟩,W9 F.slot_list_mul ⟨_,e,rfl⟩ F.entry_list_mul (F.args_list_mul_2 _ _) (AutoListH.list___mul___list_int_3 l its.toArray n k t hfit hcap hlong) ⟨e,?_⟩⟩)
 rw [hnew]
 exact ⟨.ref _,_,I.lnew (t':=s.toks) (r.rep k.toNat) (by rw [Fw,Xm];exact hz),rfl,q _ I.fresh⟩
theorem Reps.rep{P:PP}{H:Hp}{ds:List U8}{vs:List V}(h:Reps P H ds vs):∀ k:Nat,Reps P H (UW k ds).flatten (UW k vs).flatten
 | 0=>rfl
 | k+1=>by
  rw [We,We,WL,WL]
  exact h.append (Reps.rep h k)
noncomputable def S9:R2:=λx y H Q=>rI CMulD (λi j=>.int (i * j)) x y H Q∨rRepR x y H Q
theorem QH:OpD S9 p9 true:=by
 intro H₀ Hs H l m x y d v u Q s0 s1 e rx ry q
 unfold p9 at e
 split at e
 ·rename_i i j
  split at e
  ·rename_i hc
   cases (show v= .int i from rx);cases (show u= .int j from ry);cases e
   exact .inl ⟨i,j,rfl,rfl,hc,q _ H (Same.refl H) rfl⟩
  ·cases e
 ·rename_i xs k
  split at e
  ·rename_i hz
   simp only [Ve,decide_eq_true_eq] at hz
   obtain ⟨⟨f1,hz⟩,hk⟩:=hz
   cases e
   obtain ⟨pa,vs,rfl,ha,ra⟩:=rx
   cases (show u= .int k from ry)
   have l1:=ra.length
   have hb:big < 2 ^ 63:=by decide
   refine .inr ⟨pa,k,vs,rfl,rfl,ha.rd,by omega,by omega,by rw [l1];exact ah hz,λp hp=>?_⟩
   exact q _ _ (qc hp _) ⟨p,_,rfl,.inl ⟨⟨rfl,s1.free hp⟩,z9⟩,((ra.nl f1).rep _).same (qc hp _)⟩
  ·cases e
 ·cases e
theorem fu(ha:PE X a (tF XO fa))(hb:PE X b (tF XO fb)):PE X (.BinOp a .Mult b pos) (tF XO (vj fa fb)):=IU (op_mulI.or Px) QH ha hb
theorem O0:OpR X (WN .FloorDiv) (rI (λ_ j=>0 < j/\j.natAbs < lim) λi j=>.int (i / j)):=opI λi j _ _ _ _ _ hc q=>by
 have h0:j≠0:=by omega
 refine floordiv_int h0 ?_ (.inl (PyProof.noPylong_of_log2 ?_))
 ·rw [Int.fdiv_eq_ediv_of_nonneg _ (by omega)]
  exact q
 ·have h1:j.natAbs≠0:=by omega
  have h2:j.natAbs.log2 < 256:=(Nat.log2_lt h1).mpr hc.2
  omega
theorem J6(ha:PE X a (tF XO fa))(hb:PE X b (tF XO fb)):PE X (.BinOp a .FloorDiv b pos) (tF XO (sv fa fb)):=
 IU O0 (Ff λx y d e=>by
  unfold IA at e
  split at e
  ·split at e
   ·rename_i hc;cases e;exact ⟨_,_,rfl,rfl,hc,rfl⟩
   ·cases e
  ·cases e) ha hb
theorem uc(ha:PE X a (tF XO fa))(hb:PE X b (tF XO fb)):PE X (.BinOp a .Mod b pos) (tF XO (yg fa fb)):=
 IU Ri (Ff λx y d e=>by
  unfold AL at e
  split at e
  ·split at e
   ·rename_i hc;cases e;exact ⟨_,_,rfl,rfl,hc,rfl⟩
   ·cases e
  ·cases e) ha hb
theorem SF(ha:PE X a (tF XO fa))(hb:PE X b (tF XO fb)):PE X (.BinOp a .Pow b pos) (tF XO (Pc fa fb)):=
 IU Sv (Ff λx y d e=>by
  unfold So at e
  split at e
  ·split at e
   ·rename_i hc;cases e;exact ⟨_,_,rfl,rfl,⟨hc.1,by omega,hc.2.2⟩,rfl⟩
   ·cases e
  ·cases e) ha hb
noncomputable def U2(r:V->Hp->VK->Prop)(op:U8->Option U8)(fr:Bool):Prop:=
 ∀ (H₀ Hs H:Hp) (l:Nat) (x d:U8) (v:V) (Q:VK),Same H₀ Hs->Same Hs H->op x=U7 d->Rep (PL H₀ Hs l) H x v->
  (∀ z H',Same H H'->Rep (PL H₀ Hs (if fr then 2 else l)) H' d z->Q z H')->r v H Q
theorem P9{r:V->Hp->VK->Prop}{op:U8->Option U8}{fr:Bool}(ho:U2 r op fr){σ:L2.St}{H:Hp}{Q:VK}(h:tF XO (e1 op fr fa) σ H Q):tF XO fa σ H λx H1=>r x H1 Q:=by
 obtain ⟨H₀,Hs,ρ,rr,g,e,kk⟩:=h
 refine wy g e kk λl x v H1 s1 g1 r1 e1 k1=>?_
 cases hd:op x with
 | none=>rw [hd] at e1;cases e1
 | some d=>
  rw [hd] at e1
  exact ho H₀ Hs H1 l x d v Q g1.s0 g1.s1 hd r1 λz H' s rp=>k1.give e1 s rp
theorem Qx(ha:PE X a (tF XO fa)):PE X (.UnaryOp .USub a pos) (tF XO (TJ fa)):=
 PE.imp (SN R4 ha) λ_ _ _ h=>P9 (op:=PX) (λH₀ Hs H l x d v Q s0 s1 e rx q=>by
  unfold PX at e
  split at e
  ·rename_i i
   cases (show v= .int i from rx);cases e
   exact ⟨i,rfl,q _ H (Same.refl H) rfl⟩
  ·cases e) h
end
structure BC(X:Cx):Prop where
 hu:X.A.units+64 < Yh
 mlen:X.mg "len" =UA
 mint:X.mg "int" =UA
 mbool:X.mg "bool" =UA
 mstr:X.mg "str" =UA
 mtuple:X.mg "tuple" =UA
 mlist:X.mg "list" =UA
 misi:X.mg "isinstance" =UA
 mrange:X.mg "range" =UA
 menum:X.mg "enumerate" =UA
 mzip:X.mg "zip" =UA
 mrev:X.mg "reversed" =UA
section
variable{X:Cx}{XO:XOT}{a b c:Vw}{fa fb fc:FE}{pos:Xz}
noncomputable def OH(neg:Bool):R2:=λx y H Q=>∃ (P1 P2:PP) (d1 d2:U8),Rep P1 H d1 x/\Rep P2 H d2 y/\d1.canLay0=true/\d2.canLay0=true/\min d1.depth d2.depth<=60/\Q (.bl (if neg then !Vf d1 d2 else Vf d1 d2)) H
theorem Mg(hu:X.A.units+64 < Yh):OpR X (VZ .Eq) (OH false):=by
 intro pins s σ H x y v u Q I rx ry h
 obtain ⟨P1,P2,d1,d2,r1,r2,c1,c2,hd,q⟩:=h
 obtain ⟨as,ra⟩:=vi I d1 x v c1 r1 rx
 obtain ⟨bs,rb⟩:=vi I d2 y u c2 r2 ry
 exact SeqAt.compareEq_reads ra rb c1 c2 (by omega) ⟨.bl _,H,I,rfl,q⟩
theorem NJ(hu:X.A.units+64 < Yh):OpR X (VZ .NotEq) (OH true):=by
 intro pins s σ H x y v u Q I rx ry h
 obtain ⟨P1,P2,d1,d2,r1,r2,c1,c2,hd,q⟩:=h
 obtain ⟨as,ra⟩:=vi I d1 x v c1 r1 rx
 obtain ⟨bs,rb⟩:=vi I d2 y u c2 r2 ry
 exact SeqAt.compareNe_reads ra rb c1 c2 (by omega) ⟨.bl _,H,I,rfl,q⟩
theorem CL{x y:U8}{b:Bool}(h:yu x y=U7 b):(∃ i j,x= .int i/\y= .int j/\b=(i == j))∨(∃ i j,x= .str i/\y= .str j/\b=(i == j))∨(∃ i j,x= .bool i/\y= .bool j/\b=(i == j))∨(dh x y=true/\b=Vf x y):=by
 unfold yu at h
 split at h
 ·cases h;exact .inl ⟨_,_,rfl,rfl,rfl⟩
 ·cases h;exact .inr (.inl ⟨_,_,rfl,rfl,rfl⟩)
 ·cases h;exact .inr (.inr (.inl ⟨_,_,rfl,rfl,rfl⟩))
 ·split at h
  ·rename_i hk;cases h;exact .inr (.inr (.inr ⟨hk,rfl⟩))
  ·cases h
theorem Gr{x y:U8}(h:dh x y=true):x.canLay0=true/\y.canLay0=true/\min x.depth y.depth<=60:=by
 simp only [dh,Ve,decide_eq_true_eq] at h
 exact ⟨h.1.1,h.1.2,h.2⟩
theorem Qw:OpD (λx y H Q=>rEq x y H Q∨OH false x y H Q) dEq true:=by
 intro H₀ Hs H l m x y d v u Q s0 s1 e rx ry q
 unfold dEq at e
 cases hb:yu x y with
 | none=>rw [hb] at e;cases e
 | some k=>
  rw [hb] at e
  cases e
  rcases CL hb with ⟨i,j,rfl,rfl,rfl⟩ | ⟨i,j,rfl,rfl,rfl⟩ | ⟨i,j,rfl,rfl,rfl⟩ | ⟨hk,rfl⟩
  ·cases (show v= .int i from rx);cases (show u= .int j from ry)
   exact .inl ⟨rfl,q _ H (Same.refl H) (by rw [B2];rfl)⟩
  ·cases (show v= .str i from rx);cases (show u= .str j from ry)
   exact .inl ⟨rfl,q _ H (Same.refl H) (by rw [BE];rfl)⟩
  ·cases (show v= .bl i from rx);cases (show u= .bl j from ry)
   exact .inl ⟨rfl,q _ H (Same.refl H) (by rw [EX];rfl)⟩
  ·obtain ⟨c1,c2,hd⟩:=Gr hk
   exact .inr ⟨_,_,x,y,rx,ry,c1,c2,hd,q _ H (Same.refl H) rfl⟩
theorem Qs:OpD (λx y H Q=>rNe x y H Q∨OH true x y H Q) dNe true:=by
 intro H₀ Hs H l m x y d v u Q s0 s1 e rx ry q
 unfold dNe at e
 cases hb:yu x y with
 | none=>rw [hb] at e;cases e
 | some k=>
  rw [hb] at e
  cases e
  rcases CL hb with ⟨i,j,rfl,rfl,rfl⟩ | ⟨i,j,rfl,rfl,rfl⟩ | ⟨i,j,rfl,rfl,rfl⟩ | ⟨hk,rfl⟩
  ·cases (show v= .int i from rx);cases (show u= .int j from ry)
   exact .inl ⟨rfl,q _ H (Same.refl H) (by rw [B2];rfl)⟩
  ·cases (show v= .str i from rx);cases (show u= .str j from ry)
   exact .inl ⟨rfl,q _ H (Same.refl H) (by rw [BE];rfl)⟩
  ·cases (show v= .bl i from rx);cases (show u= .bl j from ry)
   exact .inl ⟨rfl,q _ H (Same.refl H) (by rw [EX];rfl)⟩
  ·obtain ⟨c1,c2,hd⟩:=Gr hk
   exact .inr ⟨_,_,x,y,rx,ry,c1,c2,hd,q _ H (Same.refl H) rfl⟩
noncomputable def Oj(neg:Bool):R2:=λx y H Q=>∃ (P1 P2:PP) (d1:U8) (ds:List U8),Rep P1 H d1 x/\(Rep P2 H (.list ds) y∨Rep P2 H (.tuple ds) y)/\d1.canLay0=true/\UP ds=true/\min (Vg ds) d1.depth<=60/\
 Q (.bl (if neg then !(ds.any λy=>Vf y d1) else ds.any λy=>Vf y d1)) H
theorem RQ(hu:X.A.units+64 < Yh):OpR X (VZ .In) (Oj false):=by
 intro pins s σ H x y v u Q I rx ry h
 obtain ⟨P1,P2,d1,ds,r1,r2,c1,c2,hd,q⟩:=h
 obtain ⟨as,ra⟩:=vi I d1 x v c1 r1 rx
 rcases r2 with r2 | r2
 ·obtain ⟨bs,rb⟩:=vi I _ y u (by simpa [Vi] using c2) r2 ry
  exact SeqAt.in_list_reads rb ra c2 c1 (by omega) ⟨.bl _,H,I,rfl,q⟩
 ·obtain ⟨bs,rb⟩:=vi I _ y u (by simpa [Vi] using c2) r2 ry
  exact SeqAt.in_tuple_reads rb ra c2 c1 (by omega) ⟨.bl _,H,I,rfl,q⟩
theorem Lk(hu:X.A.units+64 < Yh):OpR X (VZ .NotIn) (Oj true):=by
 intro pins s σ H x y v u Q I rx ry h
 obtain ⟨P1,P2,d1,ds,r1,r2,c1,c2,hd,q⟩:=h
 obtain ⟨as,ra⟩:=vi I d1 x v c1 r1 rx
 rcases r2 with r2 | r2
 ·obtain ⟨bs,rb⟩:=vi I _ y u (by simpa [Vi] using c2) r2 ry
  exact SeqAt.notIn_list_reads rb ra c2 c1 (by omega) ⟨.bl _,H,I,rfl,q⟩
 ·obtain ⟨bs,rb⟩:=vi I _ y u (by simpa [Vi] using c2) r2 ry
  exact SeqAt.notIn_tuple_reads rb ra c2 c1 (by omega) ⟨.bl _,H,I,rfl,q⟩
theorem Ah{x:U8}{ys:List U8}(h:EM x ys=true):x.canLay0=true/\UP ys=true/\min (Vg ys) x.depth<=60:=by
 simp only [EM,Ve,decide_eq_true_eq] at h
 exact ⟨h.1.1,h.1.2,h.2⟩
theorem Td:OpD (Oj false) dIn true:=by
 intro H₀ Hs H l m x y d v u Q s0 s1 e rx ry q
 unfold dIn at e
 cases hb:Fu x y with
 | none=>rw [hb] at e;cases e
 | some k=>
  rw [hb] at e
  cases e
  unfold Fu at hb
  split at hb
  ·split at hb
   ·rename_i hk
    cases hb
    obtain ⟨c1,c2,hd⟩:=Ah hk
    exact ⟨_,_,_,_,rx,.inr ry,c1,c2,hd,q _ H (Same.refl H) rfl⟩
   ·cases hb
  ·split at hb
   ·rename_i hk
    cases hb
    obtain ⟨c1,c2,hd⟩:=Ah hk
    exact ⟨_,_,_,_,rx,.inl ry,c1,c2,hd,q _ H (Same.refl H) rfl⟩
   ·cases hb
  ·cases hb
theorem LY:OpD (Oj true) se true:=by
 intro H₀ Hs H l m x y d v u Q s0 s1 e rx ry q
 unfold se at e
 cases hb:Fu x y with
 | none=>rw [hb] at e;cases e
 | some k=>
  rw [hb] at e
  cases e
  unfold Fu at hb
  split at hb
  ·split at hb
   ·rename_i hk
    cases hb
    obtain ⟨c1,c2,hd⟩:=Ah hk
    exact ⟨_,_,_,_,rx,.inr ry,c1,c2,hd,q _ H (Same.refl H) rfl⟩
   ·cases hb
  ·split at hb
   ·rename_i hk
    cases hb
    obtain ⟨c1,c2,hd⟩:=Ah hk
    exact ⟨_,_,_,_,rx,.inl ry,c1,c2,hd,q _ H (Same.refl H) rfl⟩
   ·cases hb
  ·cases hb
theorem EI{g:Int->Int->Bool}{f:U8->U8->Option U8}(hf:∀ x y d,f x y=U7 d->∃ i j,x= .int i/\y= .int j/\d= .bool (g i j)):OpD (rI0 λi j=>.bl (g i j)) f true:=by
 intro H₀ Hs H l m x y d v u Q s0 s1 e rx ry q
 obtain ⟨i,j,rfl,rfl,rfl⟩:=hf x y d e
 cases (show v= .int i from rx);cases (show u= .int j from ry)
 exact ⟨i,j,rfl,rfl,q _ H (Same.refl H) rfl⟩
theorem SD:OpD (rI0 λi j=>.bl (decide (i < j))) dLt true:=EI λx y d e=>by unfold dLt at e;split at e<;>first | (cases e;exact ⟨_,_,rfl,rfl,rfl⟩) | cases e
theorem T7:OpD (rI0 λi j=>.bl (decide (i<=j))) dLe true:=EI λx y d e=>by unfold dLe at e;split at e<;>first | (cases e;exact ⟨_,_,rfl,rfl,rfl⟩) | cases e
theorem SA:OpD (rI0 λi j=>.bl (decide (j < i))) dGt true:=EI λx y d e=>by unfold dGt at e;split at e<;>first | (cases e;exact ⟨_,_,rfl,rfl,rfl⟩) | cases e
theorem HN{P:PP}{H:Hp}:∀ {x:U8} {v:V},Rep P H x v->decide (v= .non)=isNone x
 | .none,_,h=>by cases (show _=_ from h);rfl
 | .bool _,_,h=>by cases (show _=_ from h);rfl
 | .int _,_,h=>by cases (show _=_ from h);rfl
 | .str _,_,h=>by cases (show _=_ from h);rfl
 | .tuple _,_,⟨_,_,e,_⟩=>by subst e;rfl
 | .list _,_,⟨_,_,e,_⟩=>by subst e;rfl
 | .dict _,_,h=>by
  rcases h with ⟨_,_,e⟩ | ⟨_,_,_,e,_⟩ | ⟨_,_,_,_,_,_,_,_,_,_,e,_⟩<;>(subst e;rfl)
theorem D9{y:U8}(h:isNone y=true):y= .none:=by cases y<;>first | rfl | cases h
theorem Se:OpD (λx y H Q=>y= .non/\Q (.bl (decide (x= .non))) H) Lc true:=by
 intro H₀ Hs H l m x y d v u Q s0 s1 e rx ry q
 unfold Lc at e
 split at e
 ·rename_i hn
  cases D9 hn
  cases e
  exact ⟨ry,q _ H (Same.refl H) (by rw [HN rx];rfl)⟩
 ·cases e
theorem Pv:OpD (λx y H Q=>y= .non/\Q (.bl (!decide (x= .non))) H) GT true:=by
 intro H₀ Hs H l m x y d v u Q s0 s1 e rx ry q
 unfold GT at e
 split at e
 ·rename_i hn
  cases D9 hn
  cases e
  exact ⟨ry,q _ H (Same.refl H) (by rw [HN rx];rfl)⟩
 ·cases e
theorem Aj{op:CmpOp}{r:R2}{f:U8->U8->Option U8}{fr:Bool}(ho:OpR X (VZ op) r)(hd:OpD r f fr)(ha:PE X a (tF XO fa))(hb:PE X b (tF XO fb))(hm:Xs op b=false):PT X (.Compare a [op] [b] pos) (yd (tF XO (e2 f fr fa fb))):=
 PT.imp (Pu ho ha hb hm) λ_ _ _ h=>BD hd h
theorem Nt(C:BC X)(ha:PE X a (tF XO fa))(hb:PE X b (tF XO fb)):PE X (.Compare a [.Eq] [b] pos) (tF XO (eEq fa fb)):=Qv (op_eq.or (Mg C.hu)) Qw ha hb (iw _)
theorem yw(C:BC X)(ha:PE X a (tF XO fa))(hb:PE X b (tF XO fb)):PT X (.Compare a [.Eq] [b] pos) (yd (tF XO (eEq fa fb))):=Aj (op_eq.or (Mg C.hu)) Qw ha hb (iw _)
theorem TM(C:BC X)(ha:PE X a (tF XO fa))(hb:PE X b (tF XO fb)):PE X (.Compare a [.NotEq] [b] pos) (tF XO (eNe fa fb)):=Qv (op_ne.or (NJ C.hu)) Qs ha hb (iw _)
theorem Az(C:BC X)(ha:PE X a (tF XO fa))(hb:PE X b (tF XO fb)):PT X (.Compare a [.NotEq] [b] pos) (yd (tF XO (eNe fa fb))):=Aj (op_ne.or (NJ C.hu)) Qs ha hb (iw _)
theorem Uo(C:BC X)(ha:PE X a (tF XO fa))(hb:PE X b (tF XO fb))(hm:Xs .In b=false:=by rfl):PT X (.Compare a [.In] [b] pos) (yd (tF XO (eIn fa fb))):=Aj (RQ C.hu) Td ha hb hm
theorem J3(C:BC X)(ha:PE X a (tF XO fa))(hb:PE X b (tF XO fb))(hm:Xs .NotIn b=false:=by rfl):PT X (.Compare a [.NotIn] [b] pos) (yd (tF XO (mw fa fb))):=Aj (Lk C.hu) LY ha hb hm
theorem FX(C:BC X)(ha:PE X a (tF XO fa))(hb:PE X b (tF XO fb)):PT X (.Compare a [.Lt] [b] pos) (yd (tF XO (eLt fa fb))):=Aj SQ SD ha hb (iw _)
theorem SC(C:BC X)(ha:PE X a (tF XO fa))(hb:PE X b (tF XO fb)):PT X (.Compare a [.Gt] [b] pos) (yd (tF XO (eGt fa fb))):=Aj Tv SA ha hb (iw _)
theorem Q4(C:BC X)(ha:PE X a (tF XO fa))(hb:PE X b (tF XO fb)):PT X (.Compare a [.Is] [b] pos) (yd (tF XO (Gd fa fb))):=Aj Rf Se ha hb (iw _)
theorem QA(C:BC X)(ha:PE X a (tF XO fa))(hb:PE X b (tF XO fb)):PT X (.Compare a [.IsNot] [b] pos) (yd (tF XO (Gp fa fb))):=Aj Po Pv ha hb (iw _)
structure CmpD(X:Cx)(op:CmpOp)(f:U8->U8->Option U8):Prop where
 ex:∃ r,OpR X (VZ op) r/\OpD r f true
theorem Tt:CmpD X .LtE dLe:=⟨_,SI,T7⟩
theorem GE{op:BoolOp}(ha:PE X a (tF XO fa)):PE X (.BoolOp op [a] pos) (tF XO fa):=Rr ha
theorem JD{rest:List Vw}(ha:PE X a (tF XO fa))(hb:PE X (.BoolOp .And (b::rest) pos) (tF XO fb)):PE X (.BoolOp .And (a::b::rest) pos) (tF XO (km fa fb)):=
 PE.imp (Rp ha hb) λσ H Q ⟨H₀,Hs,ρ,r,g,e,kk⟩=>wy g e kk λl x v H1 s1 g1 r1 e1 k1=>by
  split at e1
  ·exact ⟨true,r1,L2.G0 (⟨H₀,Hs,ρ,r,g1,e1,k1⟩)⟩
  ·exact ⟨false,r1,L2.H8 (k1.give e1 (Same.refl _) rfl)⟩
  ·cases e1
theorem Uy{rest:List Vw}(ha:PE X a (tF XO fa))(hb:PE X (.BoolOp .Or (b::rest) pos) (tF XO fb)):PE X (.BoolOp .Or (a::b::rest) pos) (tF XO (eOr fa fb)):=
 PE.imp (TB ha hb) λσ H Q ⟨H₀,Hs,ρ,r,g,e,kk⟩=>wy g e kk λl x v H1 s1 g1 r1 e1 k1=>by
  split at e1
  ·exact ⟨true,r1,L2.G0 (k1.give e1 (Same.refl _) rfl)⟩
  ·exact ⟨false,r1,L2.H8 (⟨H₀,Hs,ρ,r,g1,e1,k1⟩)⟩
  ·cases e1
theorem To(ha:PE X a (tF XO fa)):PE X (.UnaryOp .Not a pos) (tF XO (f9 fa)):=
 PE.imp (QB ha) λσ H Q ⟨H₀,Hs,ρ,r,g,e,kk⟩=>wy g e kk λl x v H1 s1 g1 r1 e1 k1=>by
  split at e1
  ·exact ⟨_,r1,k1.give e1 (Same.refl _) rfl⟩
  ·cases e1
theorem Qi{cc:Vw}(hc:PT X cc (yd (tF XO fc)))(ha:PE X a (tF XO fa))(hb:PE X b (tF XO fb)):PE X (.IfExp cc a b pos) (tF XO (eIf fc fa fb)):=
 PE.imp (FQ hc ha hb) λσ H Q ⟨H₀,Hs,ρ,r,g,e,kk⟩=>wy g e kk λl x v H1 s1 g1 r1 e1 k1=>by
  split at e1
  ·exact ⟨true,r1,L2.G0 (⟨H₀,Hs,ρ,r,g1,e1,k1⟩)⟩
  ·exact ⟨false,r1,L2.H8 (⟨H₀,Hs,ρ,r,g1,e1,k1⟩)⟩
  ·cases e1
theorem mh(ha:PE X a (tF XO fa))(he:∀ whole,isTrue a X.env whole=(do let v <- whole;standAt a.pos;holding [v] (truthy v)):=by intro _;rfl):PT X a (yd (tF XO fa)):=Rx ha he
theorem Ct(ha:PT X a (yd (tF XO fa))):PT X (.UnaryOp .Not a pos) (yd (tF XO (f9 fa))):=
 PT.imp (QT ha) λσ H Q ⟨H₀,Hs,ρ,r,g,e,kk⟩=>wy g e kk λl x v H1 s1 g1 r1 e1 k1=>by
  split at e1
  ·obtain ⟨z,hz,q⟩:=k1.give e1 (Same.refl _) (v:=.bl _) rfl
   cases hz
   exact ⟨_,r1,q⟩
  ·cases e1
theorem ny(ha:PT X a (yd (tF XO fa))):PW X (.BoolOp .And [a] pos) (yd (tF XO fa)):=Pl ha
theorem df(ha:PT X a (yd (tF XO fa))):PW X (.BoolOp .Or [a] pos) (yd (tF XO fa)):=R7 ha
theorem PW.imp{e:Vw}{t t':TT}(h:PW X e t)(f:∀ σ H Q,t' σ H Q->t σ H Q):PW X e t':=λwhole pins s σ H Q I q=>h whole pins s σ H Q I (f σ H Q q)
theorem Cc{rest:List Vw}(ha:PT X a (yd (tF XO fa)))(hb:PW X (.BoolOp .And (b::rest) pos) (yd (tF XO fb))):PW X (.BoolOp .And (a::b::rest) pos) (yd (tF XO (km fa fb))):=
 PW.imp (QN ha hb) λσ H Q ⟨H₀,Hs,ρ,r,g,e,kk⟩=>wy g e kk λl x v H1 s1 g1 r1 e1 k1=>by
  split at e1
  ·exact ⟨true,r1,L2.G0 (⟨H₀,Hs,ρ,r,g1,e1,k1⟩)⟩
  ·obtain ⟨z,hz,q⟩:=k1.give e1 (Same.refl _) (v:=.bl _) rfl
   cases hz
   exact ⟨false,r1,L2.H8 (q)⟩
  ·cases e1
theorem Dd{rest:List Vw}(ha:PT X a (yd (tF XO fa)))(hb:PW X (.BoolOp .Or (b::rest) pos) (yd (tF XO fb))):PW X (.BoolOp .Or (a::b::rest) pos) (yd (tF XO (eOr fa fb))):=
 PW.imp (Ti ha hb) λσ H Q ⟨H₀,Hs,ρ,r,g,e,kk⟩=>wy g e kk λl x v H1 s1 g1 r1 e1 k1=>by
  split at e1
  ·obtain ⟨z,hz,q⟩:=k1.give e1 (Same.refl _) (v:=.bl _) rfl
   cases hz
   exact ⟨true,r1,L2.G0 (q)⟩
  ·exact ⟨false,r1,L2.H8 (⟨H₀,Hs,ρ,r,g1,e1,k1⟩)⟩
  ·cases e1
theorem Iw{op op':U8->U8->Option U8}{r r':R2}(ho:OpD r op true)(ho':OpD r' op' true){σ:L2.St}{H:Hp}{Q:VK}(h:tF XO (CV op op' fa fb fc) σ H Q):N0 r r' (tF XO fa) (tF XO fb) (tF XO fc) σ H Q:=by
 obtain ⟨H₀,Hs,ρ,rr,g,e,kk⟩:=h
 refine wy g e kk λl x v H1 s1 g1 r1 e1 k1=>?_
 refine wy g1 e1 k1 λm y u H2 s2 g2 r2 e2' k2=>?_
 cases hd:op x y with
 | none=>rw [hd] at e2';cases e2'
 | some d=>
  rw [hd] at e2'
  refine ho H₀ Hs H2 l m x y d v u _ g2.s0 g2.s1 hd (r1.same s2) r2 λz H3 s3 rp=>?_
  split at e2'
  ·rename_i hb
   cases hb
   refine ⟨true,rp,?_⟩
   rw [if_pos rfl]
   refine wy (g2.same s3) e2' (k2.same s3) λn w t H4 s4 g4 r4 e4 k4=>?_
   cases hd':op' y w with
   | none=>rw [hd'] at e4;cases e4
   | some d'=>
    rw [hd'] at e4
    exact ho' H₀ Hs H4 m n y w d' u t Q g4.s0 g4.s1 hd' (r2.same (s3.trans s4)) r4 λz' H' s' rp'=>k4.give e4 s' rp'
  ·rename_i hb
   cases hb
   refine ⟨false,rp,?_⟩
   rw [if_neg UY]
   exact k2.give e2' s3 rfl
  ·cases e2'
end
noncomputable def Kh:Vw->Bool
 | .Starred _ _=>false
 | _=>true
theorem qe{e:Vw}{es:List Vw}{env:Env}(h:Kh e=true):UJ (e::es) env=(false,VN e env)::UJ es env:=by
 cases e<;>first | cases h;done | (rw [UJ];intro _ _ z;cases z)
theorem wj{pos:Xz}{env:Env}:∀ {es:List Vw},es.all Kh=true->(VC pos (UJ es env)).any (·.1)=false
 | [],_=>by simp [UJ,VC]
 | e::es,h=>by
  rw [List.all_cons,Ve] at h
  rw [qe h.1]
  show (false || (VC pos (UJ es env)).any (·.1))=false
  rw [wj h.2]
  rfl
section
variable{X:Cx}{XO:XOT}{a b c e:Vw}{es:List Vw}{fa fb fc f:FE}{fs:List FE}{pos:Xz}
theorem P7{op op':CmpOp}{g g':U8->U8->Option U8}(o:CmpD X op g)(o':CmpD X op' g')(ha:PE X a (tF XO fa))(hb:PE X b (tF XO fb))(hc:PE X c (tF XO fc))
  (hm:lastMarks [op,op'] [b,c]=false:=by with_unfolding_all rfl):PT X (.Compare a [op,op'] [b,c] pos) (yd (tF XO (CV g g' fa fb fc))):=by
 obtain ⟨r,h1,h2⟩:=o.ex
 obtain ⟨r',h1',h2'⟩:=o'.ex
 exact PT.imp (M5 h1 h1' ha hb hc hm) λ_ _ _ h=>Iw h2 h2' h
noncomputable def KI(XO:XOT)(H₀ Hs:Hp)(σ:L2.St)(H:Hp)(Q:List V->Hp->Prop)(r:RI):Prop:=
 (∀ l ds vs H',r= .ok l ds->Same H H'->Reps (PL H₀ Hs l) H' ds vs->Q vs H')/\∀ c H',r= .exc c->Same H H'->XO.f c σ H'
noncomputable def tAs(XO:XOT)(fs:List FE):TA:=λσ H Q=>∃ H₀ Hs ρ r,G XO.cv H₀ Hs ρ σ H/\zo fs ρ=U7 r/\KI XO H₀ Hs σ H Q r
theorem PA.imp{t t':TA}(h:PA X es t)(g:∀ σ H Q,t' σ H Q->t σ H Q):PA X es t':=λpos pins s σ H Q I q=>h pos pins s σ H Q I (g σ H Q q)
theorem zh:PA X [] (tAs XO []):=PA.imp xw λσ H Q ⟨H₀,Hs,ρ,r,g,e,k⟩=>by
 cases e
 exact k.1 2 [] [] H rfl (Same.refl H) rfl
theorem Rep.low{H₀ Hs H:Hp}(s:Same H₀ Hs){l m:Nat}(h:l<=m){d:U8}{v:V}(r:Rep (PL H₀ Hs m) H d v):Rep (PL H₀ Hs l) H d v:=r.imp λ_ _ p=>PL.le s h p
theorem Reps.low{H₀ Hs H:Hp}(s:Same H₀ Hs){l m:Nat}(h:l<=m){d:List U8}{v:List V}(r:Reps (PL H₀ Hs m) H d v):Reps (PL H₀ Hs l) H d v:=r.imp λ_ _ p=>PL.le s h p
theorem zb(ha:PE X e (tF XO f))(hr:PA X es (tAs XO fs))(hs:UJ (e::es) X.env=(false,VN e X.env)::UJ es X.env:=by exact qe rfl):PA X (e::es) (tAs XO (f::fs)):=
 PA.imp (we ha hr hs) λσ H Q ⟨H₀,Hs,ρ,r,g,e,k⟩=>by
  unfold zo at e
  cases hf:f ρ with
  | none=>rw [hf] at e;cases e
  | some x=>
   rw [hf] at e
   cases x with
   | exc c=>
    cases e
    exact ⟨H₀,Hs,ρ,.exc c,g,hf,⟨λl d v H' e=>(nomatch e),λc' H' e' s=>k.2 c' H' (by cases e';rfl) s⟩⟩
   | ok l d=>
    refine ⟨H₀,Hs,ρ,.ok l d,g,hf,⟨λl' d' v H1 e' s1 r1=>?_,λc H' e=>(nomatch e)⟩⟩
    cases e'
    dsimp only at e
    cases ht:zo fs ρ with
    | none=>rw [ht] at e;cases e
    | some y=>
     rw [ht] at e
     cases y with
     | exc c=>
      cases e
      exact ⟨H₀,Hs,ρ,.exc c,g.same s1,ht,⟨λl d v H' e=>(nomatch e),λc' H' e' s=>k.2 c' H' (by cases e';rfl) (s1.trans s)⟩⟩
     | ok m ds=>
      cases e
      refine ⟨H₀,Hs,ρ,.ok m ds,g.same s1,ht,⟨λm' ds' vs H2 e' s2 r2=>?_,λc H' e=>(nomatch e)⟩⟩
      cases e'
      exact k.1 _ _ (v::vs) H2 rfl (s1.trans s2) ⟨v,vs,rfl,(r1.same s2).low g.s0 (Nat.min_le_left _ _),r2.low g.s0 (Nat.min_le_right _ _)⟩
theorem D7:∀ {fs:List FE} {ρ:Rho} {l:Nat} {ds:List U8},zo fs ρ=U7 (.ok l ds)->ds.length=fs.length
 | [],_,_,_,e=>by cases e;rfl
 | f::fs,ρ,l,ds,e=>by
  unfold zo at e
  cases hf:f ρ with
  | none=>rw [hf] at e;cases e
  | some x=>
   rw [hf] at e
   cases x with
   | exc c=>cases e
   | ok l d=>
    dsimp only at e
    cases ht:zo fs ρ with
    | none=>rw [ht] at e;cases e
    | some y=>
     rw [ht] at e
     cases y with
     | exc c=>cases e
     | ok m ds'=>cases e;simp [D7 ht]
theorem Cv{H₀ Hs:Hp}{ρ:Rho}{σ:L2.St}{H:Hp}{Q:VK}{Q':List V->Hp->Prop}{k:Nat->List U8->Option RE}{r:RE}(g:G XO.cv H₀ Hs ρ σ H)(e:zu (zo fs ρ) k=U7 r)(kk:KK XO H₀ Hs σ H Q r)
  (cont:∀ l ds vs H1,Same H H1->G XO.cv H₀ Hs ρ σ H1->Reps (PL H₀ Hs l) H1 ds vs->ds.length=fs.length->k l ds=U7 r->KK XO H₀ Hs σ H1 Q r->Q' vs H1):tAs XO fs σ H Q':=by
 cases h:zo fs ρ with
 | none=>rw [h] at e;cases e
 | some x=>
  rw [h] at e
  cases x with
  | exc c=>
   cases (Vx e)
   exact ⟨H₀,Hs,ρ,.exc c,g,h,⟨λl d v H' e=>(nomatch e),λc' H' e' s=>kk.2 c' H' (by cases e';rfl) s⟩⟩
  | ok l ds=>
   refine ⟨H₀,Hs,ρ,.ok l ds,g,h,⟨λl' d' v H' e' s rp=>?_,λc H' e=>(nomatch e)⟩⟩
   cases e'
   exact cont l ds v H' s (g.same s) rp (D7 h) e (kk.same s)
theorem qa{x1}(h:PA X es (tAs XO fs))(hl:Nat.ble fs.length 1000=true:=by rfl):PE X (.Tuple es x1 pos) (tF XO (zm fs)):=
 PE.imp (M6 h) λσ H Q ⟨H₀,Hs,ρ,r,g,e,kk⟩=>Cv g e kk λl ds vs H1 s1 g1 r1 hn e1 k1=>by
  have hz:vs.length<=Vc:=by
   rw [r1.length,hn]
   exact UU (Nat.le_of_ble_eq_true hl) (by decide)
  exact ⟨hz,λp hp=>k1.give e1 (qc hp _) ⟨p,vs,rfl,(.inl z9),r1.same (qc hp _)⟩⟩
theorem ym(h:PA X es (tAs XO fs))(hl:Nat.ble fs.length 1000=true:=by rfl):PE X (.List es pos) (tF XO (q9 fs)):=
 PE.imp (N1 h) λσ H Q ⟨H₀,Hs,ρ,r,g,e,kk⟩=>Cv g e kk λl ds vs H1 s1 g1 r1 hn e1 k1=>by
  have hz:vs.length<=Vc:=by
   rw [r1.length,hn]
   exact UU (Nat.le_of_ble_eq_true hl) (by decide)
  refine ⟨hz,λp hp=>?_⟩
  split at e1
  ·rename_i f1
   exact k1.give e1 (qc hp _) ⟨p,vs,rfl,.inl ⟨⟨rfl,g1.s1.free hp⟩,z9⟩,(r1.nl f1).same (qc hp _)⟩
  ·cases e1
theorem RW{α:Type}(xs:List α)(i:Int):atP xs i=atI xs i:=rfl
theorem Reps.atI{P:PP}{H:Hp}{ds:List U8}{vs:List V}{i:Int}{d:U8}(r:Reps P H ds vs)(h:atP ds i=U7 d):∃ v,L2.atI vs i=U7 v/\Rep P H d v:=by
 rw [RW] at h
 unfold L2.atI at h ⊢
 rw [r.length]
 cases q:ixN ds.length i with
 | none=>rw [q] at h;cases h
 | some j=>
  rw [q] at h
  exact r.get h
theorem T5{K:UF}:OpD (rIx K) dIx false:=by
 intro H₀ Hs H l m x y d v u Q s0 s1 e rx ry q
 unfold dIx at e
 split at e
 ·rename_i xs i
  obtain ⟨pa,vs,rfl,ha,ra⟩:=rx
  cases (show u= .int i from ry)
  obtain ⟨z,hz,rz⟩:=ra.atI e
  exact .inr (.inl ⟨pa,vs,i,z,rfl,rfl,.inl ha,hz,q z H (Same.refl H) (rz.low s0 (Nat.min_le_left _ _))⟩)
 ·rename_i xs i
  obtain ⟨pa,vs,rfl,ha,ra⟩:=rx
  cases (show u= .int i from ry)
  obtain ⟨z,hz,rz⟩:=ra.atI e
  exact .inl ⟨pa,vs,i,z,rfl,rfl,.inl ha.rd,hz,q z H (Same.refl H) (rz.low s0 (Nat.min_le_left _ _))⟩
 ·rename_i z i
  split at e
  ·rename_i hz
   cases (show v= .str z from rx)
   cases (show u= .int i from ry)
   cases hc:atP z.cps.toList i with
   | none=>rw [hc] at e;cases e
   | some c=>
    rw [hc] at e
    cases e
    exact .inr (.inr ⟨z,i,c,rfl,rfl,ah hz,hc,q _ H (Same.refl H) rfl⟩)
  ·cases e
 ·cases e
theorem qw(ha:PE X a (tF XO fa))(hb:PE X b (tF XO fb))(hs:BF b:=by exact λ_ _=>rfl):PE X (.Subscript a b pos) (tF XO (eIx fa fb)):=Uc Jg T5 ha hb hs
noncomputable def tO(XO:XOT)(f:FO):TO:=λσ H Q=>∃ H₀ Hs ρ r,G XO.cv H₀ Hs ρ σ H/\f ρ=U7 r/\(∀ i H',r= .ok i->Same H H'->Q i H')/\∀ c H',r= .exc c->Same H H'->XO.f c σ H'
theorem PO.imp{o:Option Vw}{t t':TO}(h:PO X o t)(g:∀ σ H Q,t' σ H Q->t σ H Q):PO X o t':=λpins s σ H Q I q=>h pins s σ H Q I (g σ H Q q)
theorem Ru:PO X UA (tO XO Kk):=PO.imp Qe λσ H Q ⟨H₀,Hs,ρ,r,g,e,k,_⟩=>by
 cases e
 exact k UA H rfl (Same.refl H)
theorem Sa(h:PE X a (tF XO fa)):PO X (U7 a) (tO XO (FM fa)):=PO.imp (O8 h) λσ H Q ⟨H₀,Hs,ρ,r,g,e,k,kx⟩=>by
 unfold FM at e
 split at e
 ·rename_i l i hf
  cases e
  refine ⟨H₀,Hs,ρ,_,g,hf,⟨λl' d' v H' e' s rp=>?_,λc H' e=>(nomatch e)⟩⟩
  cases e'
  exact ⟨i,rp,k _ H' rfl s⟩
 ·rename_i c hf
  cases e
  exact ⟨H₀,Hs,ρ,_,g,hf,⟨λl d v H' e=>(nomatch e),λc' H' e' s=>kx c' H' (by cases e';rfl) s⟩⟩
 ·cases e
theorem Ni(n d:Nat)(o:Option Int):sxP n d o=HT.sIx n d o:=by
 cases o with
 | none=>rfl
 | some v=>
  have h:=HT.clip_eq v n d
  show (if v < 0 then (v+n).toNat else min v.toNat n)=HT.sIx n d (U7 v)
  by_cases hv:v < 0
  ·rw [if_pos hv] at h ⊢
   omega
  ·rw [if_neg hv] at h ⊢
   omega
theorem E4{P:PP}{H:Hp}{ds:List U8}{vs:List V}(r:Reps P H ds vs)(lo hi:Option Int):Reps P H (NB ds lo hi) (EN vs lo hi):=by
 unfold NB EN
 rw [Ni,Ni,r.length]
 exact (r.drop _).take _
theorem t9{prog:Vn}{w:Vz}{A:VG}{E:UB->UG->Prop}{s:UG}{t sl:UL}{items:Array UB}{vl vu:UB}{lo hi:Option Int}{Q:UB->UG->Prop}(ht:Yg s.heap t items)(hs:s.heap.IsSliceOf sl vl vu .none)(pl:Zr vl lo)(pu:Zr vu hi)
  (h1:HT.sIx items.size 0 lo=0) (h2:HT.sIx items.size items.size hi=items.size) (h:Q (.ref t) s):UZ (Vh prog w) A (getItem (.ref t) (.ref sl)) Q E s:=by
 obtain ⟨os,hos,hcs,hds⟩:=id hs
 have hTs:s.TypeIs (.ref sl) "slice":=⟨os,hos,hcs⟩
 obtain ⟨ot,hot,hct,nt,hdt⟩:=id ht
 unfold getItem
 try with_reducible refine WE ?_
 first | refine U9 (UK ?_) | skip
 refine U9 (wpAny_sequenceKey ht.typeIs (by decide) ?_)
 refine U9 (Wi (name:=X8 "__getitem__") ht.typeIs VP
  (Wc VP ht.typeIs entry_tuple_getitem ?_ (args_tuple_getitem _ _)))
 show UZ _ _ (Vo.Tuple.tupleItemsOf (.ref t) >>= _) _ _ s
 refine U9 (tupleItemsOf_ ht ?_)
 refine U9 (X9 hTs ?_)
 rw [if_pos (by decide)]
 refine U9 (HT.sliceApplied_gen hs pl pu ?_)
 rw [h1,h2]
 show UZ _ _ (if (((0:Nat):Int) == 0 && (1:Int) == 1 && (items.size - 0) == items.size)=true then (Vo.Tuple.tupleIsExact (.ref t) >>= _) else _) _ _ s
 rw [if_pos (by simp)]
 refine U9 ?_
 unfold Vo.Tuple.tupleIsExact
 refine U9 (X9 ht.typeIs (UK ?_))
 rw [if_pos (by decide)]
 exact U9 (wpAny_rule (UK ⟨_,rfl,UK h⟩))
noncomputable def Ul(K:UF):V->Option Int->Option Int->Hp->VK->Prop:=λx lo hi H Q=>∃ a xs,x= .ref a/\SqT K H a xs/\HT.sIx xs.length 0 lo=0/\HT.sIx xs.length xs.length hi=xs.length/\Q (.ref a) H
theorem sl_all:SlR X (Ul X.K):=by
 intro pins s σ H x v vl vu lo hi sl Q I rx hs pl pu h
 obtain ⟨a,xs,rfl,hx,h1,h2,q⟩:=h
 cases rx
 obtain ⟨its,r,ht,hz⟩:=I.tuple hx
 have hlen:its.toArray.size=xs.length:=by rw [UO];exact r.length.symm
 exact ⟨"tuple",_,VP.lookup,ht.typeIs,t9 ht hs pl pu (by rw [hlen];exact h1) (by rw [hlen];exact h2) ⟨.ref a,H,I,rfl,q⟩⟩
theorem Um{lo hi:Option Vw}{flo fhi:FO}{p2:Xz}(ha:PE X a (tF XO fa))(hl:PO X lo (tO XO flo))(hh:PO X hi (tO XO fhi)):PE X (.Subscript a (.Slice lo hi UA p2) pos) (tF XO (eSl fa flo fhi)):=
 PE.imp (NR (sl_all.or (sl_tup.or Ov)) ha hl hh) λσ H Q ⟨H₀,Hs,ρ,r,g,e,kk⟩=>wy g e kk λl x v H1 s1 g1 r1 e1 k1=>by
  split at e1
  ·rename_i lo' hlo
   refine ⟨H₀,Hs,ρ,_,g1,hlo,λi H2 ei s2=>?_,λc H' e=>(nomatch e)⟩
   cases ei
   split at e1
   ·rename_i hi' hhi
    refine ⟨H₀,Hs,ρ,_,g1.same s2,hhi,λj H3 ej s3=>?_,λc H' e=>(nomatch e)⟩
    cases ej
    have r3:=r1.same (s2.trans s3)
    have k3:=k1.same (s2.trans s3)
    have g3:=g1.same (s2.trans s3)
    cases hd:dSl lo' hi' x with
    | none=>rw [hd] at e1;cases e1
    | some d=>
     rw [hd] at e1
     unfold dSl at hd
     split at hd
     ·split at hd
      ·rename_i f1
       cases hd
       obtain ⟨pa,vs,rfl,hp,ra⟩:=r3
       by_cases hw:HT.sIx vs.length 0 lo'=0/\HT.sIx vs.length vs.length hi'=vs.length
       ·refine .inl ⟨pa,vs,rfl,.inl hp,hw.1,hw.2,k3.give e1 (Same.refl _) ⟨pa,vs,rfl,hp,?_⟩⟩
        have hc:=E4 (ra.nl (P':=PL H₀ Hs 2) f1) lo' hi'
        unfold EN at hc
        rw [hw.1,hw.2,Nat.sub_zero,List.drop_zero,List.take_length] at hc
        exact hc
       ·refine .inr (.inl ⟨pa,vs,rfl,.inl hp,hw,λp hpn=>?_⟩)
        exact k3.give e1 (qc hpn _) ⟨p,_,rfl,(.inl z9),(E4 (ra.nl f1) _ _).same (qc hpn _)⟩
      ·cases hd
     ·split at hd
      ·rename_i f1
       cases hd
       obtain ⟨pa,vs,rfl,hp,ra⟩:=r3
       refine .inr (.inr ⟨pa,vs,rfl,.inl hp.rd,λp hpn=>?_⟩)
       exact k3.give e1 (qc hpn _) ⟨p,_,rfl,.inl ⟨⟨rfl,g3.s1.free hpn⟩,z9⟩,(E4 (ra.nl f1) _ _).same (qc hpn _)⟩
      ·cases hd
     ·cases hd
   ·rename_i c hhi
    cases e1
    exact ⟨H₀,Hs,ρ,_,g1.same s2,hhi,λj H3 ej s3=>(nomatch ej),λc' H' e' s=>k1.2 c' H' (by cases e';rfl) (s2.trans s)⟩
   ·cases e1
  ·rename_i c hlo
   cases e1
   exact ⟨H₀,Hs,ρ,_,g1,hlo,λj H3 ej s3=>(nomatch ej),λc' H' e' s=>k1.2 c' H' (by cases e';rfl) s⟩
  ·cases e1
end
abbrev Own:=UL->Option Nat
structure Cfg where
 cv:Nat->UB
 n:Nat
 lend:UL
inductive OwV where
 | l (vs:List V) | k (kvs:List (Key×V)) | t (kvs:List (List Key×V)) (ep:Nat)
noncomputable def OwV.ho:OwV->HO
 | .l vs=>.lst vs
 | .k kvs=>.dK kvs
 | .t kvs ep=>.dT kvs ep
theorem iu{H:Hp}{p a:UL}{o:HO}{o0:OwV}{xs:List V}(hp:H p=U7 o0.ho)(h:Rd H a (.tup xs)):Rd (upd H p o) a (.tup xs):=by
 have hne:a≠p:=by
  intro z;subst z
  rcases h with h | ⟨_,h⟩<;>(rw [hp] at h;cases o0<;>cases h)
 rcases h with h | ⟨q,h⟩
 ·exact .inl (by rw [z0 hne];exact h)
 ·exact .inr ⟨q,by rw [z0 hne];exact h⟩
theorem DR.ow{H:Hp}{ks:List (List Int×Int)}{a:UL}(h:DR H ks a):∃ vs:OwV,H a=U7 vs.ho:=let ⟨ep,q⟩:=h;⟨.t _ ep,q⟩
noncomputable def DuoS(O:Own)(o:Option (Option V))(i:Nat)(H:Hp)(c:U8)(ds es:List U8):Prop:=
 ∃ a w p q vs us,o=U7 (U7 (.ref a))/\Rd H a (.tup [w,.ref p,.ref q])/\Rep (λ_ _=>False) H c w/\p≠q/\O p=U7 i/\O q=U7 i/\H p=U7 (.lst vs)/\H q=U7 (.lst us)/\Reps (λ_ _=>False) H ds vs/\Reps (λ_ _=>False) H es us
theorem DuoS.mv{O O':Own}{o:Option (Option V)}{i:Nat}{H H':Hp}{c:U8}{ds es:List U8}(hT:∀ a vs,Rd H a (.tup vs)->Rd H' a (.tup vs))(hO:∀ b u,O b=U7 i->H b=U7 u->O' b=U7 i/\H' b=U7 u)(h:DuoS O o i H c ds es):DuoS O' o i H' c ds es:=
 let ⟨a,w,p,q,vs,us,e,h1,h2,n,o1,o2,h3,h4,r1,r2⟩:=h
 have hL:∀ a u,Rl (λ_ _=>False) H a u->Rl (λ_ _=>False) H' a u:=λ_ _ rl=>by rcases rl with ⟨x,_⟩ | ⟨x,_⟩<;>exact x.elim
 ⟨a,w,p,q,vs,us,e,hT _ _ h1,Rep.mono hT hL _ _ h2,n,(hO _ _ o1 h3).1,(hO _ _ o2 h4).1,(hO _ _ o1 h3).2,(hO _ _ o2 h4).2,Reps.mono hT hL _ _ r1,Reps.mono hT hL _ _ r2⟩
theorem DuoS.upd{O:Own}{o:Option (Option V)}{i j:Nat}{H:Hp}{c:U8}{ds es:List U8}{p:UL}{o0:OwV}{o1:HO}(hp:H p=U7 o0.ho)(hO:O p=U7 j)(hij:j≠i)(h:DuoS O o i H c ds es):DuoS O o i (L2.upd H p o1) c ds es:=
 h.mv (λa xs e=>iu hp e) λb u e e1=>⟨e,by rw [z0 (λz=>by subst z;rw [e] at hO;cases hO;exact hij rfl)];exact e1⟩
noncomputable def SS(cv:Cfg)(H₀:Hp)(O:Own)(o:Option (Option V))(i:Nat)(H:Hp):Slot->Prop
 | .par d=>∃ v,o=U7 (U7 v)/\Rep (λ_ a=>O a=UA) H d v
 | .loc d=>∃ v,o=U7 (U7 v)/\Rep (λz a=>z=false/\O a=UA/\H₀ a=UA) H d v
 | .own ds=>∃ p vs,o=U7 (U7 (.ref p))/\O p=U7 i/\H p=U7 (.lst vs)/\Reps (λ_ _=>False) H ds vs
 | .own2 ds=>∃ p vs,o=U7 (U7 (.ref p))/\O p=U7 i/\H p=U7 (.lst vs)/\Reps (λz a=>z=false/\O a=UA/\H₀ a=UA) H ds vs
 | .lent ds=>∃ vs,o=U7 (U7 (.ref cv.lend))/\O cv.lend=U7 i/\H cv.lend=U7 (.lst vs)/\Reps (λ_ _=>False) H ds vs
 | .dct ks=>∃ a,o=U7 (U7 (.ref a))/\O a=U7 i/\DR H ks a
 | .duo c ds es=>DuoS O o i H c ds es
 | .ex c=>∃ a,o=U7 (U7 (.ref a))/\XRep cv.cv H c a
structure SO(cv:Cfg)(H₀ F:Hp)(ρ:Rho)(σ:L2.St)(H:Hp)(O:Own):Prop where
 fr:∀ a i,O a=U7 i->F a=UA
 ls:∀ a i,O a=U7 i->∃ vs:OwV,H a=U7 vs.ho
 sl:∀ i t,ρ[i]? =U7 (U7 t)->SS cv H₀ O σ[i]? i H t
structure SR(cv:Cfg)(H₀ F:Hp)(ρ:Rho)(σ:L2.St)(H:Hp):Prop where
 s0:Same H₀ F
 s1:Same F H
 len:ρ.length=cv.n
 ln:σ.length=cv.n
 ex:∃ O,SO cv H₀ F ρ σ H O
theorem SS.same{cv:Cfg}{H₀ H H':Hp}{O:Own}{o:Option (Option V)}{i:Nat}(s:Same H H'):∀ {t:Slot},SS cv H₀ O o i H t->SS cv H₀ O o i H' t
 | .par _,⟨v,e,h⟩=>⟨v,e,h.same s⟩
 | .loc _,⟨v,e,h⟩=>⟨v,e,h.same s⟩
 | .own _,⟨p,vs,e,q,h,r⟩=>⟨p,vs,e,q,s _ _ h,r.same s⟩
 | .own2 _,⟨p,vs,e,q,h,r⟩=>⟨p,vs,e,q,s _ _ h,r.same s⟩
 | .lent _,⟨vs,e,q,h,r⟩=>⟨vs,e,q,s _ _ h,r.same s⟩
 | .dct _,⟨a,e,q,h⟩=>⟨a,e,q,h.same s⟩
 | .duo _ _ _,h=>h.mv (λa xs e=>Rd.same s e) λb u e e1=>⟨e,s _ _ e1⟩
 | .ex _,⟨a,e,h⟩=>⟨a,e,h.same s⟩
theorem SR.same{cv:Cfg}{H₀ F H H':Hp}{ρ:Rho}{σ:L2.St}(r:SR cv H₀ F ρ σ H)(s:Same H H'):SR cv H₀ F ρ σ H':=
 ⟨r.s0,r.s1.trans s,r.len,r.ln,let ⟨O,o⟩:=r.ex;⟨O,o.fr,λa i e=>let ⟨vs,q⟩:=o.ls a i e;⟨vs,s _ _ q⟩,λi t e=>(o.sl i t e).same s⟩⟩
theorem SR.g{cv:Cfg}{H₀ F H:Hp}{ρ:Rho}{σ:L2.St}(r:SR cv H₀ F ρ σ H):G cv.cv H₀ H ρ σ H:=by
 refine ⟨r.s0.trans r.s1,Same.refl H,λi t e=>?_⟩
 obtain ⟨O,o⟩:=r.ex
 have h:=o.sl i t e
 cases t with
 | par d=>obtain ⟨v,e,q⟩:=h;exact ⟨v,e,q.imp λ_ _ _=>trivial⟩
 | loc d=>obtain ⟨v,e,q⟩:=h;exact ⟨v,e,q.imp λ_ _ p=>⟨p.1,p.2.2⟩⟩
 | own ds=>
  obtain ⟨p,vs,e,q,h,rs⟩:=h
  exact ⟨.ref p,e,p,vs,rfl,.inl ⟨⟨rfl,r.s0.free (o.fr p i q)⟩,h⟩,rs.imp λ_ _ z=>z.elim⟩
 | own2 ds=>
  obtain ⟨p,vs,e,q,h,rs⟩:=h
  exact ⟨.ref p,e,p,vs,rfl,.inl ⟨⟨rfl,r.s0.free (o.fr p i q)⟩,h⟩,rs.imp λ_ _ z=>⟨z.1,z.2.2⟩⟩
 | lent ds=>
  obtain ⟨vs,e,q,h,rs⟩:=h
  exact ⟨.ref cv.lend,e,_,vs,rfl,.inl ⟨⟨rfl,r.s0.free (o.fr _ i q)⟩,h⟩,rs.imp λ_ _ z=>z.elim⟩
 | dct ks=>obtain ⟨a,e,q,ep,h⟩:=h;exact ⟨.ref a,e,.inr (.inl ⟨a,ks,ep,rfl,rfl,.inl ⟨⟨rfl,r.s0.free (o.fr a i q)⟩,h⟩⟩)⟩
 | duo c ds es=>
  obtain ⟨a,w,p,q,vs,us,e,h1,h2,n,o1,o2,h3,h4,r1,r2⟩:=h
  have fr:∀ {a},O a=U7 i->H₀ a=UA:=λq=>r.s0.free (o.fr _ i q)
  exact ⟨.ref a,e,a,_,rfl,h1,_,_,rfl,h2.imp λ_ _ z=>z.elim,_,_,rfl,⟨p,vs,rfl,.inl ⟨⟨rfl,fr o1⟩,h3⟩,r1.imp λ_ _ z=>z.elim⟩,_,_,rfl,⟨q,us,rfl,.inl ⟨⟨rfl,fr o2⟩,h4⟩,r2.imp λ_ _ z=>z.elim⟩,rfl⟩
 | ex c=>exact h
noncomputable def KS(cv:Cfg)(XO:XOF)(H₀ F:Hp)(D:Ends)(r:RS):Prop:=
 match r with
 | .next ρ'=>∀ σ' H',SR cv H₀ F ρ' σ' H'->D.nx σ' H'
 | .ret d=>∀ v H',Same F H'->Rep (λz a=>z=false/\H₀ a=UA) H' d v->D.rt v H'
 | .exc c ρ'=>∀ σ' H',SR cv H₀ F ρ' σ' H'->XO c σ' H'
 | .brk ρ'=>∀ σ' H',SR cv H₀ F ρ' σ' H'->D.bk σ' H'
 | .cont ρ'=>∀ σ' H',SR cv H₀ F ρ' σ' H'->D.ct σ' H'
 | .retL d ds=>∀ v H',Same F H'->Rep (λ_ a=>a≠cv.lend) H' d v->(∃ vs,H' cv.lend=U7 (.lst vs)/\Reps (λ_ _=>False) H' ds vs)->D.rt v H'
noncomputable def tS(cv:Cfg)(XO:XOF)(f:FS):TS:=λD σ H=>∃ H₀ F ρ r,SR cv H₀ F ρ σ H/\f ρ=U7 r/\KS cv XO H₀ F D r
section
variable{X:Cx}{XO:XOF}{cv:Cfg}{e:Vw}{f fa fb:FE}{st:VW}{rest sa sb:List VW}{a b:FS}{pos:Xz}
theorem PSs.imp{sts:List VW}{t t':TS}(h:PSs X sts t)(g:∀ D σ H,t' D σ H->t D σ H):PSs X sts t':=λpins s σ H D I q=>h pins s σ H D I (g D σ H q)
theorem kn{H₀ F:Hp}{ρ:Rho}{σ:L2.St}{H:Hp}{D:Ends}{Q:VK}{k:Nat->U8->Option RS}{r:RS}(g:SR cv H₀ F ρ σ H)(e:zi (f ρ) ρ k=U7 r)(kk:KS cv XO H₀ F D r)
  (cont:∀ l d v H1,Same H H1->Rep (PL H₀ H l) H1 d v->k l d=U7 r->Q v H1):tF ⟨cv.cv,XO⟩ f σ H Q:=by
 cases h:f ρ with
 | none=>rw [h] at e;cases e
 | some x=>
  rw [h] at e
  cases x with
  | exc c=>
   cases (Vx e)
   refine ⟨H₀,H,ρ,.exc c,g.g,h,⟨λl d v H' e=>(nomatch e),λc' H' e' s=>?_⟩⟩
   cases e'
   exact kk σ H' (g.same s)
  | ok l d=>
   refine ⟨H₀,H,ρ,.ok l d,g.g,h,⟨λl' d' v H' e' s rp=>?_,λc H' e=>(nomatch e)⟩⟩
   cases e'
   exact cont l d v H' s rp e
theorem qu:PSs X [] (tS cv XO zj):=PSs.imp OO λD σ H ⟨H₀,F,ρ,r,g,e,k⟩=>by
 cases e
 exact k σ H g
theorem zr(h:PS X st (tS cv XO a)):PSs X [st] (tS cv XO a):=Qf h
theorem zf(h:PS X st (tS cv XO a))(t:PSs X rest (tS cv XO b)):PSs X (st::rest) (tS cv XO (ze a b)):=PSs.imp (N2 h t) λD σ H ⟨H₀,F,ρ,r,g,e,k⟩=>by
 unfold ze at e
 cases ha:a ρ with
 | none=>rw [ha] at e;cases e
 | some x=>
  rw [ha] at e
  cases x with
  | next ρ'=>exact ⟨H₀,F,ρ,.next ρ',g,ha,λσ' H' g'=>⟨H₀,F,ρ',r,g',e,k⟩⟩
  | ret d=>cases e;exact ⟨H₀,F,ρ,.ret d,g,ha,k⟩
  | exc c ρ'=>cases e;exact ⟨H₀,F,ρ,.exc c ρ',g,ha,k⟩
  | brk ρ'=>cases e;exact ⟨H₀,F,ρ,.brk ρ',g,ha,k⟩
  | cont ρ'=>cases e;exact ⟨H₀,F,ρ,.cont ρ',g,ha,k⟩
  | retL d ds=>cases e;exact ⟨H₀,F,ρ,.retL d ds,g,ha,k⟩
theorem qf(h:PE X e (tF ⟨cv.cv,XO⟩ f)):PS X (.Return (U7 e) pos) (tS cv XO (zq f)):=
 PS.imp (r9 h) λD σ H ⟨H₀,F,ρ,r,g,e,k⟩=>kn g e k λl d v H1 s1 r1 e1=>by
  split at e1
  ·rename_i hc
   cases e1
   refine k v H1 (g.s1.trans s1) ?_
   by_cases hl:lf d=true
   ·exact r1.nl hl
   ·have h1:1<=l:=by
      rw [Bool.or_eq_true] at hc
      exact of_decide_eq_true (hc.resolve_left hl)
    exact r1.imp λz a p=>PL.le (g.s0.trans g.s1) h1 p
  ·cases e1
theorem j8{c:Vw}{fc:FE}(hc:PT X c (yd (tF ⟨cv.cv,XO⟩ fc)))(ha:PSs X sa (tS cv XO a))(hb:PSs X sb (tS cv XO b)):PS X (.If c sa sb pos) (tS cv XO (sIf fc a b)):=
 PS.imp (Tf hc ha hb) λD σ H ⟨H₀,F,ρ,r,g,e,k⟩=>kn g e k λl d v H1 s1 r1 e1=>by
  split at e1
  ·exact ⟨true,r1,L2.G0 (⟨H₀,F,ρ,r,g.same s1,e1,k⟩)⟩
  ·exact ⟨false,r1,L2.H8 (⟨H₀,F,ρ,r,g.same s1,e1,k⟩)⟩
  ·cases e1
theorem bc{H:Hp}{a:UL}{o:HO}(e:H a=U7 o):H a≠UA:=by rw [e];simp
theorem jg{α:Type}(xs:List α)(i j:Nat)(v:α)(hi:i < xs.length):(xs.set i v)[j]? =if i=j then U7 v else xs[j]?:=by
 by_cases h:i=j
 ·subst h;simp [hi]
 ·simp [h]
theorem SR.setN{H₀ F H H1:Hp}{ρ:Rho}{σ:L2.St}{O:Own}{i:Nat}{v:V}{t:Slot}(g:SR cv H₀ F ρ σ H)(o:SO cv H₀ F ρ σ H O)(hi':X0 i cv.n=true)(s1:Same H H1)(O':Own)(hO:∀ a,H a≠UA->O' a=O a)(hF:∀ a i,O' a=U7 i->F a=UA)
  (hL:∀ a i,O' a=U7 i->∃ vs:OwV,H1 a=U7 vs.ho) (ht:SS cv H₀ O' (U7 (U7 v)) i H1 t):SR cv H₀ F (ρ.set i (U7 t)) (σ.set i (U7 v)) H1:=by
 have hi:i < σ.length:=by rw [g.ln];exact XA.mp hi'
 have hρ:i < ρ.length:=by rw [g.len];exact XA.mp hi'
 have keep:∀ j t',i≠j->(ρ.set i (U7 t))[j]? =U7 (U7 t')->SS cv H₀ O' (σ.set i (U7 v))[j]? j H1 t':=λj t' hij e=>by
  rw [jg _ _ _ _ hρ,if_neg hij] at e
  rw [jg _ _ _ _ hi,if_neg hij]
  have q:=o.sl j t' e
  have old:∀ {P P':PP},(∀ z a,H a≠UA->P z a->P' z a)->∀ {d:U8} {v:V},Rep P H d v->Rep P' H1 d v:=λ{P P'} hP {d v} r=>
   Rep.mono (λa vs e=>Rd.same s1 e) (λa vs r=>by
    rcases r with ⟨p,e⟩ | ⟨p,u,e⟩
    ·exact .inl ⟨hP _ _ (bc e) p,s1 _ _ e⟩
    ·exact .inr ⟨hP _ _ (bc e) p,u,s1 _ _ e⟩) d v r
  cases t' with
  | par d=>obtain ⟨w,e,r⟩:=q;exact ⟨w,e,old (λz a n p=>by rw [hO a n];exact p) r⟩
  | loc d=>obtain ⟨w,e,r⟩:=q;exact ⟨w,e,old (λz a n p=>by rw [hO a n];exact p) r⟩
  | own ds=>
   obtain ⟨p,vs,e,q,h,rs⟩:=q
   exact ⟨p,vs,e,by rw [hO p (bc h)];exact q,s1 _ _ h,rs.same s1⟩
  | own2 ds=>
   obtain ⟨p,vs,e,q,h,rs⟩:=q
   exact ⟨p,vs,e,by rw [hO p (bc h)];exact q,s1 _ _ h,Reps.mono (λa vs e=>Rd.same s1 e) (λa vs r=>by
    rcases r with ⟨p,e⟩ | ⟨p,u,e⟩
    ·exact .inl ⟨⟨p.1,(hO a (bc e)).trans p.2.1,p.2.2⟩,s1 _ _ e⟩
    ·exact .inr ⟨⟨p.1,(hO a (bc e)).trans p.2.1,p.2.2⟩,u,s1 _ _ e⟩) ds _ rs⟩
  | lent ds=>
   obtain ⟨vs,e,q,h,rs⟩:=q
   exact ⟨vs,e,by rw [hO _ (bc h)];exact q,s1 _ _ h,rs.same s1⟩
  | dct ks=>obtain ⟨a,e,q,h⟩:=q;obtain ⟨_,hw⟩:=h.ow;exact ⟨a,e,by rw [hO a (bc hw)];exact q,h.same s1⟩
  | duo c ds es=>exact DuoS.mv (λa xs e=>Rd.same s1 e) (λb u e e1=>⟨by rw [hO b (bc e1)];exact e,s1 _ _ e1⟩) q
  | ex c=>obtain ⟨a,e,x⟩:=q;exact ⟨a,e,x.same s1⟩
 exact ⟨g.s0,g.s1.trans s1,by simp [g.len],by simp [g.ln],O',hF,hL,λj t' e=>by
  by_cases hij:i=j
  ·subst hij
   rw [jg _ _ _ _ hρ,if_pos rfl] at e
   cases e
   rw [jg _ _ _ _ hi,if_pos rfl]
   exact ht
  ·exact keep j t' hij e⟩
theorem SR.set{H₀ F H H1:Hp}{ρ:Rho}{σ:L2.St}{i l:Nat}{d:U8}{v:V}{t:Slot}(g:SR cv H₀ F ρ σ H)(hi':X0 i cv.n=true)(s1:Same H H1)(r1:Rep (PL H₀ H l) H1 d v)(ha:asg l d=U7 t):
  SR cv H₀ F (ρ.set i (U7 t)) (σ.set i (U7 v)) H1:=by
 obtain ⟨O,o⟩:=g.ex
 have o1:SO cv H₀ F ρ σ H1 O:=⟨o.fr,λa i e=>let ⟨vs,q⟩:=o.ls a i e;⟨vs,s1 _ _ q⟩,λi t e=>(o.sl i t e).same s1⟩
 have fin:∀ (O':Own),(∀ a,H a≠UA->O' a=O a)->(∀ a i,O' a=U7 i->F a=UA)->(∀ a i,O' a=U7 i->∃ vs:OwV,H1 a=U7 vs.ho)->SS cv H₀ O' (U7 (U7 v)) i H1 t->SR cv H₀ F (ρ.set i (U7 t)) (σ.set i (U7 v)) H1:=λO'=>g.setN o hi' s1 O'
 unfold asg at ha
 split at ha
 ·rename_i hl
  cases ha
  exact fin O (λ_ _=>rfl) o.fr o1.ls ⟨v,rfl,r1.nl hl⟩
 ·split at ha
  ·rename_i h2
   have young:∀ z a,PL H₀ H l z a->z=false/\O a=UA/\H₀ a=UA:=λz a p=>by
    have p2:z=false/\H a=UA:=by
     match l,h2,p with
     | l+2,_,p=>exact p
    refine ⟨p2.1,?_,(g.s0.trans g.s1).free p2.2⟩
    cases q:O a with
    | none=>rfl
    | some j=>obtain ⟨vs,e⟩:=o.ls a j q;rw [p2.2] at e;cases vs<;>cases e
   split at ha
   ·rename_i ds
    split at ha
    ·rename_i hf
     cases ha
     obtain ⟨p,vs,rfl,rl,rs⟩:=r1
     rcases rl with ⟨y,e⟩ | ⟨y,u,e⟩
     ·have hn:H p=UA:=by
        match l,h2,y with
        | l+2,_,y=>exact y.2
      refine fin (λa=>if a=p then U7 i else O a) (λa n=>?_) (λa j q=>?_) (λa j q=>?_) ⟨p,vs,rfl,by simp,e,rs.nl hf⟩
      ·rw [if_neg]
       intro z;subst z;exact n hn
      ·by_cases z:a=p
       ·subst z;exact g.s1.free hn
       ·rw [if_neg z] at q;exact o.fr a j q
      ·by_cases z:a=p
       ·subst z;exact ⟨.l vs,e⟩
       ·rw [if_neg z] at q;exact o1.ls a j q
     ·exact absurd (young _ _ y).1 (by simp)
    ·cases ha
     exact fin O (λ_ _=>rfl) o.fr o1.ls ⟨v,rfl,r1.imp young⟩
   ·cases ha
    exact fin O (λ_ _=>rfl) o.fr o1.ls ⟨v,rfl,r1.imp young⟩
  ·cases ha
theorem qk(i:Nat){x:Vk}{pos':Xz}(hN:X.N.Nodup)(h:PE X e (tF ⟨cv.cv,XO⟩ f))(hi:X.N[i]? =U7 x:=by rfl)(hx:Loc X.env.scope x:=by first | exact VE rfl | exact Vr rfl)
  (hs:W7 e (U7 (.Name x pos')) pos.line X.env=pure false:=by rfl) (hf:X.fn x=true∨X.env.scope.names.lookup x=U7 .local:=by first | exact .inl rfl | exact .inr rfl | assumption)
  (hin:X0 i cv.n=true:=by rfl):PS X (.Assign [.Name x pos'] e pos) (tS cv XO (zl i f)):=by
 intro pins s σ H D I ⟨H₀,F,ρ,r,g,e',k⟩
 refine sk hN hi hx h hs hf pins s σ H D I ?_
 refine kn g e' k λl d v H1 s1 r1 e1=>?_
 cases ha:asg l d with
 | none=>rw [ha] at e1;cases e1
 | some t=>
  rw [ha] at e1
  cases e1
  exact k _ _ (g.set hin s1 r1 ha)
end
section
variable{X:Cx}{XO:XOF}{cv:Cfg}{e:Vw}{f fa fb:FE}{st:VW}{rest sa sb:List VW}{a b:FS}{pos:Xz}
variable{H₀ F H H1:Hp}{ρ:Rho}{σ:L2.St}
theorem Rep.none_lf{P:PP}{d:U8}{v:V}(r:Rep (λ_ _=>False) H d v):Rep P H d v:=r.imp λ_ _ z=>z.elim
theorem SR.put{i:Nat}{v:V}{t:Slot}(g:SR cv H₀ F ρ σ H)(hi':X0 i cv.n=true)(ht:∀ O,SO cv H₀ F ρ σ H O->SS cv H₀ O (U7 (U7 v)) i H t):SR cv H₀ F (ρ.set i (U7 t)) (σ.set i (U7 v)) H:=by
 obtain ⟨O,o⟩:=g.ex
 have hi:i < σ.length:=by rw [g.ln];exact XA.mp hi'
 have hρ:i < ρ.length:=by rw [g.len];exact XA.mp hi'
 refine ⟨g.s0,g.s1,by simp [g.len],by simp [g.ln],O,o.fr,o.ls,λj t' e=>?_⟩
 by_cases hij:i=j
 ·subst hij
  rw [jg _ _ _ _ hρ,if_pos rfl] at e
  cases e
  rw [jg _ _ _ _ hi,if_pos rfl]
  exact ht O o
 ·rw [jg _ _ _ _ hρ,if_neg hij] at e
  rw [jg _ _ _ _ hi,if_neg hij]
  exact o.sl j t' e
theorem SR.putLoc{i:Nat}{v:V}{d:U8}(g:SR cv H₀ F ρ σ H)(hi:X0 i cv.n=true)(r:Rep (λ_ _=>False) H d v):SR cv H₀ F (ρ.set i (U7 (.loc d))) (σ.set i (U7 v)) H:=
 g.put hi λO o=>⟨v,rfl,r.none_lf⟩
theorem DR.upd{ks:List (List Int×Int)}{a p:UL}{o:HO}(h:DR H ks a)(hne:a≠p):DR (upd H p o) ks a:=let ⟨ep,q⟩:=h;⟨ep,(z0 hne).trans q⟩
theorem SR.change{i:Nat}{ds ds':List U8}{p:UL}{vs vs':List V}{O:Own}(g:SR cv H₀ F ρ σ H)(o:SO cv H₀ F ρ σ H O)(hi:ρ[i]? =U7 (U7 (.own ds)))(hσ:σ[i]? =U7 (U7 (.ref p)))(hO:O p=U7 i)(hp:H p=U7 (.lst vs))(r:Reps (λ_ _=>False) H ds' vs'):
  SR cv H₀ F (ρ.set i (U7 (.own ds'))) σ (upd H p (.lst vs')):=by
 have hρ:i < ρ.length:=(UV.mp hi).1
 have hT:∀ a xs,Rd H a (.tup xs)->Rd (upd H p (.lst vs')) a (.tup xs):=λa xs e=>iu (o0:=.l vs) hp e
 have hR:∀ {P:PP},(∀ z a,P z a->O a=UA)->∀ (d:U8) (v:V),Rep P H d v->Rep P (upd H p (.lst vs')) d v:=λ{P} hP d v r=>
  Rep.mono hT (λa ws rl=>by
   have hne:∀ z,P z a->a≠p:=λz q y=>by have:=hP z a q;rw [y,hO] at this;cases this
   rcases rl with ⟨q,e⟩ | ⟨q,u,e⟩
   ·exact .inl ⟨q,by rw [z0 (hne _ q)];exact e⟩
   ·exact .inr ⟨q,u,by rw [z0 (hne _ q)];exact e⟩) d v r
 have hF:∀ {ds:List U8} {ws:List V},Reps (λ_ _=>False) H ds ws->Reps (λ_ _=>False) (upd H p (.lst vs')) ds ws:=λ{ds ws} r=>
  Reps.mono hT (λa ws rl=>by rcases rl with ⟨q,_⟩ | ⟨q,_⟩<;>exact q.elim) ds ws r
 refine ⟨g.s0,λb u e=>?_,by simp [g.len],g.ln,O,o.fr,λa j e=>?_,λj t e=>?_⟩
 ·rw [z0]
  ·exact g.s1 b u e
  ·intro z;subst z;rw [o.fr b i hO] at e;cases e
 ·by_cases z:a=p
  ·subst z;exact ⟨.l vs',z9⟩
  ·rw [z0 z];exact o.ls a j e
 ·by_cases hij:i=j
  ·subst hij
   rw [jg _ _ _ _ hρ,if_pos rfl] at e
   cases e
   exact ⟨p,vs',hσ,hO,z9,hF r⟩
  ·rw [jg _ _ _ _ hρ,if_neg hij] at e
   have q:=o.sl j t e
   cases t with
   | par d=>obtain ⟨w,e1,rr⟩:=q;exact ⟨w,e1,hR (λ_ _ x=>x) d w rr⟩
   | loc d=>obtain ⟨w,e1,rr⟩:=q;exact ⟨w,e1,hR (λ_ _ x=>x.2.1) d w rr⟩
   | own ds=>
    obtain ⟨q1,ws,e1,hq,hqp,rs⟩:=q
    have hne:q1≠p:=λz=>by rw [z,hO] at hq;cases hq;exact hij rfl
    exact ⟨q1,ws,e1,hq,by rw [z0 hne];exact hqp,hF rs⟩
   | own2 ds=>
    obtain ⟨q1,ws,e1,hq,hqp,rs⟩:=q
    have hne:q1≠p:=λz=>by rw [z,hO] at hq;cases hq;exact hij rfl
    exact ⟨q1,ws,e1,hq,by rw [z0 hne];exact hqp,Reps.mono hT (λa ws rl=>by
     have hne:∀ z,(z=false/\O a=UA/\H₀ a=UA)->a≠p:=λz q y=>by have:=q.2.1;rw [y,hO] at this;cases this
     rcases rl with ⟨q,e⟩ | ⟨q,u,e⟩
     ·exact .inl ⟨q,by rw [z0 (hne _ q)];exact e⟩
     ·exact .inr ⟨q,u,by rw [z0 (hne _ q)];exact e⟩) ds ws rs⟩
   | lent ds=>
    obtain ⟨ws,e1,hq,hqp,rs⟩:=q
    have hne:cv.lend≠p:=λz=>by rw [z,hO] at hq;cases hq;exact hij rfl
    exact ⟨ws,e1,hq,by rw [z0 hne];exact hqp,hF rs⟩
   | dct ks=>
    obtain ⟨q1,e1,hq,hd⟩:=q
    have hne:q1≠p:=λz=>by rw [z,hO] at hq;cases hq;exact hij rfl
    exact ⟨q1,e1,hq,hd.upd hne⟩
   | duo c ds es=>exact DuoS.upd (o0:=.l vs) hp hO hij q
   | ex c=>
    obtain ⟨w,e1,φ,hx,hφ⟩:=q
    have hne:w≠p:=λz=>by rw [z,hp] at hx;cases hx
    exact ⟨w,e1,φ,by rw [z0 hne];exact hx,hφ⟩
theorem SR.own{i:Nat}{ds:List U8}(g:SR cv H₀ F ρ σ H)(hi:ρ[i]? =U7 (U7 (.own ds))):∃ O p vs,SO cv H₀ F ρ σ H O/\σ[i]? =U7 (U7 (.ref p))/\O p=U7 i/\H p=U7 (.lst vs)/\Reps (λ_ _=>False) H ds vs:=by
 obtain ⟨O,o⟩:=g.ex
 obtain ⟨p,vs,e,q,h,r⟩:=o.sl i _ hi
 exact ⟨O,p,vs,o,e,q,h,r⟩
theorem om(i:Nat){x:Vk}{xp apos cpos:Xz}(h:PE X e (tF ⟨cv.cv,XO⟩ f))(hN:X.N[i]? =U7 x:=by rfl)(hv:Vis X.env.scope x:=by first | exact VE rfl | exact Vr (VE rfl) | exact Vr (Vr rfl))
  (hd:(x == ("__debug__":Vk))=false:=by decide) (hcd:(x == ("__classdict__":Vk))=false:=by decide)
  (hbase:Wd (.Name x xp) "append" X.env (VN (.Name x xp) X.env)=VN (.Name x xp) X.env:=by rfl)
  (hfew:((VC cpos (UJ [e] X.env)).all (λx=>!x.1) && (YS cpos (X7 [] X.env)).all (λx=>x.1.isSome)
    && decide ([e].length+([]:List Xl).length+(if ([]:List Xl).isEmpty then 0 else 1) < 30))=true:=by rfl)
  (hline:(apos.endLine == cpos.line)=true:=by rfl) (hs1:UJ [e] X.env=(false,VN e X.env)::UJ [] X.env:=by rfl) (hplain:(VC cpos (UJ [] X.env)).any (·.1)=false:=by rfl)
  (hs:W7 (.Call (.Attribute (.Name x xp) "append" apos) [e] [] cpos) UA pos.line X.env=pure false:=by rfl):
  PS X (.Expr (.Call (.Attribute (.Name x xp) "append" apos) [e] [] cpos) pos) (tS cv XO (yz i f)):=by
 intro pins s σ H D I ⟨H₀,F,ρ,r,g,e',k⟩
 refine pe (Eg Wj Xv Xw pq (yk (i:=i) hN hv hd hcd) (we h xw hs1) hbase hfew hline hs1 hplain) hs pins s σ H D I ?_
 unfold yz at e'
 split at e'
 ·rename_i xs hρ
  obtain ⟨O,p,vs,o,hσ,hO,hp,rs⟩:=g.own hρ
  refine ⟨.ref p,hσ,.inl ⟨rfl,vs,SqL.of hp⟩,?_⟩
  refine kn g e' k λl d v H1 s1 r1 e1=>?_
  split at e1
  ·rename_i hc
   cases e1
   rw [Ve] at hc
   have hlen:xs.length < big:=of_decide_eq_true hc.2
   refine ⟨p,vs,v,rfl,rfl,s1 _ _ hp,by rw [rs.length];exact Vj hlen Cu,?_⟩
   have g1:=g.same s1
   have o1:SO cv H₀ F ρ σ H1 O:=⟨o.fr,λa i e=>let ⟨vs,q⟩:=o.ls a i e;⟨vs,s1 _ _ q⟩,λi t e=>(o.sl i t e).same s1⟩
   exact k _ _ (g1.change o1 hρ hσ hO (s1 _ _ hp) ((rs.same s1).append (Reps.one (r1.nl hc.1))))
  ·cases e1
 ·cases e'
theorem S7(j i:Nat){x y:Vk}{xp yp apos cpos:Xz}(hnd:X.N.Nodup)(hN:X.N[i]? =U7 x:=by rfl)(hv:Vis X.env.scope x:=by first | exact VE rfl | exact Vr (VE rfl) | exact Vr (Vr rfl))
  (hd:(x == ("__debug__":Vk))=false:=by decide) (hcd:(x == ("__classdict__":Vk))=false:=by decide) (hj:X.N[j]? =U7 y:=by rfl) (hy:Loc X.env.scope y:=by first | exact VE rfl | exact Vr rfl)
  (hbase:Wd (.Name x xp) "pop" X.env (VN (.Name x xp) X.env)=VN (.Name x xp) X.env:=by rfl) (hline:(apos.endLine == cpos.line)=true:=by rfl)
  (hs:W7 (.Call (.Attribute (.Name x xp) "pop" apos) [] [] cpos) (U7 (.Name y yp)) pos.line X.env=pure false:=by rfl) (hf:X.fn y=true∨X.env.scope.names.lookup y=U7 .local:=by first | exact .inl rfl | exact .inr rfl | assumption)
  (hjn:X0 j cv.n=true:=by rfl):PS X (.Assign [.Name y yp] (.Call (.Attribute (.Name x xp) "pop" apos) [] [] cpos) pos) (tS cv XO (L1 j i)):=by
 intro pins s σ H D I ⟨H₀,F,ρ,r,g,e',k⟩
 refine sk hnd hj hy (Su Wj PySem.F.slot_list_pop PySem.F.type_list_pop QX (yk (i:=i) hN hv hd hcd) hbase hline) hs hf pins s σ H D I ?_
 unfold L1 at e'
 split at e'
 ·rename_i xs hρ
  obtain ⟨O,p,vs,o,hσ,hO,hp,rs⟩:=g.own hρ
  split at e'
  ·rename_i d hd'
   split at e'
   ·cases e'
   ·rename_i hij
    cases e'
    obtain ⟨v,hv',rv⟩:=rs.get hd'
    refine ⟨.ref p,hσ,.inl ⟨rfl,vs,SqL.of hp⟩,p,vs,v,rfl,rfl,hp,by rw [rs.length];exact hv',?_⟩
    have dl:Reps (λ_ _=>False) H xs.dropLast vs.dropLast:=by
     rw [List.dropLast_eq_take,List.dropLast_eq_take,rs.length]
     exact rs.take _
    have g2:=g.change o hρ hσ hO hp dl
    refine k _ _ (g2.putLoc hjn ?_)
    exact Rep.mono (λa ws e=>iu (o0:=.l vs) hp e) (λa ws rl=>by rcases rl with ⟨q,_⟩ | ⟨q,_⟩<;>exact q.elim) d v rv
  ·cases e'
 ·cases e'
noncomputable def rExtendD:V->List V->Hp->VK->Prop:=λx vs H Q=>∃ l b xs zs,x= .ref l/\vs=[.ref b]/\H l=U7 (.lst xs)/\(Rd H b (.lst zs)∨Rd H b (.tup zs))/\xs.length+zs.length<=Vc/\Q .non (upd H l (.lst (xs++zs)))
theorem D0(l:UL)(items:Array UB)(n:Nat)(b:UL)(items2:Array UB)(n2:Nat)(dd:Option UL)(sl:Array (Option UB))(hs0:¬(!items.isEmpty && VO (items.size+items2.size))=true)(hs1:items.size<=Vc)(hs2:items.size+items2.size<=Vc+1):
  Meets (Vo.«list.extend» ⟨[.ref l,.ref b],[]⟩) (λ_ R s=>s.heap.get? l=U7 {cls:=.type "list",dict:=UA,data:=.seq items n,slots:=#[]}/\s.heap.get? b=U7 {cls:=.type "tuple",dict:=dd,data:=.seq items2 n2,slots:=sl}/\R (.ok (.ret Vq)) {s with heap:=s.heap.update l (WZ λx=>x++items2),toks:=s.toks}):=
 .of_wp λprog w A R s h=>by
  obtain ⟨hp,g,d,tk,os⟩:=s;obtain ⟨hl,hb,h⟩:=h;have f1:=YK;have f2:=Yo;have f3:=AutoSeq1.sub_list_list;have f4:=AutoSeq1.sub_tuple_list;have f5:=AutoSeq1.sub_list_tuple;
  have hz':(items++items2).size<=Vc+1:=by rw [Array.size_append];exact hs2
  wp_walk using (Yv hl rfl (hz:=hs1) (_hz':=hz')),AutoSeq1.wpAny_loadPart' hl,AutoSeq1.wpAny_loadPart' hb;exact ⟨_,rfl,h⟩
theorem Ju:MtM X "list.extend" rExtendD:=by
 intro pins s σ H x vs v us Q I rx rv h
 obtain ⟨l,b,xs,zs,rfl,rfl,hH,hB,hz,q⟩:=h
 cases rx
 obtain ⟨u,rfl,ru⟩:=rv.one
 cases ru
 obtain ⟨z,its,n,r,hl,e⟩:=I.lstM hH
 rcases hB with hB | hB
 ·obtain ⟨z2,its2,n2,r2,hl2,e2⟩:=Ot I hB
  have hsz:its.toArray.size+its2.toArray.size<=Vc:=by rw [UO,UO];omega
  have hlong:¬ (!its.toArray.isEmpty && VO (its.toArray.size+its2.toArray.size))=true:=by
   rw [BX hsz,Bool.and_false]
   exact UY
  refine W9 F.slot_list_extend ⟨_,e,rfl⟩ F.entry_list_extend (F.args_list_extend_2 _ _)
   (AutoSeq1.list_extend_list_list_0 l its.toArray n b its2.toArray n2 hlong (by rw [UO];omega) (by omega)) ⟨e,e2,?_⟩
  refine ⟨.non,_,I.lset (its':=its++its2) hH e (by simp) (r.append r2) ?_,rfl,q⟩
  rw [UC]
  omega
 ·obtain ⟨its2,r2,⟨⟨cls2,dd2,data2,sl2⟩,e2,hc2,n2,hd2⟩,z2⟩:=I.tuple (.inl hB)
  simp only at hc2 hd2
  subst hc2 hd2
  have hl2:=r2.length
  have hsz:its.toArray.size+its2.toArray.size<=Vc:=by rw [UO,UO];omega
  have hlong:¬ (!its.toArray.isEmpty && VO (its.toArray.size+its2.toArray.size))=true:=by
   rw [BX hsz,Bool.and_false]
   exact UY
  refine W9 F.slot_list_extend ⟨_,e,rfl⟩ F.entry_list_extend (F.args_list_extend_2 _ _)
   (D0 l its.toArray n b its2.toArray n2 dd2 sl2 hlong (by rw [UO];omega) (by omega)) ⟨e,e2,?_⟩
  refine ⟨.non,_,I.lset (its':=its++its2) hH e (by simp) (r.append r2) ?_,rfl,q⟩
  rw [UC]
  omega
theorem GZ(i:Nat){x:Vk}{xp apos cpos:Xz}(h:PE X e (tF ⟨cv.cv,XO⟩ f))(hN:X.N[i]? =U7 x:=by rfl)(hv:Vis X.env.scope x:=by first | exact VE rfl | exact Vr (VE rfl) | exact Vr (Vr rfl))
  (hd:(x == ("__debug__":Vk))=false:=by decide) (hcd:(x == ("__classdict__":Vk))=false:=by decide)
  (hbase:Wd (.Name x xp) "extend" X.env (VN (.Name x xp) X.env)=VN (.Name x xp) X.env:=by rfl)
  (hfew:((VC cpos (UJ [e] X.env)).all (λx=>!x.1) && (YS cpos (X7 [] X.env)).all (λx=>x.1.isSome)
    && decide ([e].length+([]:List Xl).length+(if ([]:List Xl).isEmpty then 0 else 1) < 30))=true:=by rfl)
  (hline:(apos.endLine == cpos.line)=true:=by rfl) (hs1:UJ [e] X.env=(false,VN e X.env)::UJ [] X.env:=by rfl) (hplain:(VC cpos (UJ [] X.env)).any (·.1)=false:=by rfl)
  (hs:W7 (.Call (.Attribute (.Name x xp) "extend" apos) [e] [] cpos) UA pos.line X.env=pure false:=by rfl):
  PS X (.Expr (.Call (.Attribute (.Name x xp) "extend" apos) [e] [] cpos) pos) (tS cv XO (cx i f)):=by
 intro pins s σ H D I ⟨H₀,F,ρ,r,g,e',k⟩
 refine pe (Eg Wj PySem.F.slot_list_extend PySem.F.type_list_extend Ju (yk (i:=i) hN hv hd hcd) (we h xw hs1) hbase hfew hline hs1 hplain) hs pins s σ H D I ?_
 unfold cx at e'
 split at e'
 ·rename_i xs hρ
  obtain ⟨O,p,vs,o,hσ,hO,hp,rs⟩:=g.own hρ
  refine ⟨.ref p,hσ,.inl ⟨rfl,vs,SqL.of hp⟩,?_⟩
  refine kn g e' k λl d v H1 s1 r1 e1=>?_
  have g1:=g.same s1
  have o1:SO cv H₀ F ρ σ H1 O:=⟨o.fr,λa i e=>let ⟨vs,q⟩:=o.ls a i e;⟨vs,s1 _ _ q⟩,λi t e=>(o.sl i t e).same s1⟩
  split at e1
  ·rename_i ys
   split at e1
   ·rename_i hc
    cases e1
    rw [Ve] at hc
    have hlen:xs.length+ys.length<=big:=of_decide_eq_true hc.2
    obtain ⟨q,us,rfl,rl,ru⟩:=r1
    refine ⟨p,q,vs,us,rfl,rfl,s1 _ _ hp,.inl rl.rd,by rw [rs.length,ru.length];exact ah hlen,?_⟩
    exact k _ _ (g1.change o1 hρ hσ hO (s1 _ _ hp) ((rs.same s1).append (ru.nl hc.1)))
   ·cases e1
  ·rename_i ys
   split at e1
   ·rename_i hc
    cases e1
    rw [Ve] at hc
    have hlen:xs.length+ys.length<=big:=of_decide_eq_true hc.2
    obtain ⟨q,us,rfl,hq,ru⟩:=r1
    refine ⟨p,q,vs,us,rfl,rfl,s1 _ _ hp,.inr hq,by rw [rs.length,ru.length];exact ah hlen,?_⟩
    exact k _ _ (g1.change o1 hρ hσ hO (s1 _ _ hp) ((rs.same s1).append (ru.nl hc.1)))
   ·cases e1
  ·cases e1
 ·cases e'
end
section
variable{X:Cx}{XO:XOF}{cv:Cfg}{e:Vw}{f fa fb fc:FE}{st:VW}{rest sa sb body:List VW}{a b:FS}{pos:Xz}{tg iter:Vw}{fi:FI}{tf:FT}
variable{H₀ F F' H H1:Hp}{ρ:Rho}{σ:L2.St}
theorem Fx{c:Vw}(hp:Yz (Vh X.prog X.w) X.A X.env X.xe)(hc:PT X c (yd (tF ⟨cv.cv,XO⟩ fc)))(hb:PSs X body (tS cv XO b)):PS X (.While c body [] pos) (tS cv XO (dz fc b)):=
 PS.imp (MI hp hc hb) λD σ H ⟨H₀,F,ρ,r,g,e,k⟩=>by
  refine ⟨λm σ' H'=>∃ ρ',SR cv H₀ F ρ' σ' H'/\yx fc b m ρ'=U7 r,⟨wFuel,ρ,g,e⟩,?_⟩
  rintro m σ1 H1 ⟨ρ1,g1,e1⟩
  cases m with
  | zero=>cases e1
  | succ m=>
   unfold yx at e1
   refine kn g1 e1 k λl d v H2 s2 r2 e2=>?_
   have g2:=g1.same s2
   split at e2
   ·refine ⟨true,r2,L2.G0 ?_⟩
    refine ⟨λσ' H'=>∃ ρ',SR cv H₀ F ρ' σ' H'/\yx fc b m ρ'=U7 r,λσ' H' ⟨ρ',g',e'⟩=>⟨m,Nat.lt_succ_self m,ρ',g',e'⟩,?_⟩
    cases hbr:b ρ1 with
    | none=>rw [hbr] at e2;cases e2
    | some x=>
     rw [hbr] at e2
     refine ⟨H₀,F,ρ1,x,g2,hbr,?_⟩
     cases x with
     | next ρ'=>exact λσ' H' g'=>⟨ρ',g',e2⟩
     | cont ρ'=>exact λσ' H' g'=>⟨ρ',g',e2⟩
     | brk ρ'=>cases e2;exact k
     | ret d=>cases e2;exact k
     | retL d ds=>cases e2;exact k
     | exc c ρ'=>cases e2;exact k
   ·refine ⟨false,r2,L2.H8 ?_⟩
    cases e2
    exact k σ1 H2 g2
   ·cases e2
noncomputable def i4(Z:Hp)(J:It)(ds:List U8):Prop:=
 ∀ H2,Same Z H2->∀ i,(∀ d,ds[i]? =U7 d->J.go i H2/\∀ x H3,J.yld i H2 x H3->Same H2 H3/\Rep (λ_ _=>False) H3 d x)/\(i=ds.length->J.stop i H2)
noncomputable def MX(H₀ Hs:Hp)(l:Nat)(ds:List U8)(J:It)(H1:Hp):Prop:=
 ∀ Z,(∀ a xs,Rd H1 a (.tup xs)->Rd Z a (.tup xs))->(∀ a u,Rl (PL H₀ Hs l) H1 a u->Rd Z a u)->i4 Z J ds
noncomputable def tI(XO:XOT)(fi:FI):TI:=λσ H R=>∃ H₀ Hs ρ r,G XO.cv H₀ Hs ρ σ H/\fi ρ=U7 r/\(∀ l ds J H1,r= .ok l ds->Same H H1->MX H₀ Hs l ds J H1->R J H1)/\∀ c H',r= .exc c->Same H H'->XO.f c σ H'
theorem PI.imp{wi wi':TI}(h:PI X tg iter wi)(g:∀ σ H R,wi' σ H R->wi σ H R):PI X tg iter wi':=λpins s σ H R I q=>h pins s σ H R I (g σ H R q)
theorem PI.or{wi wi':TI}(h:PI X tg iter wi)(h':PI X tg iter wi'):PI X tg iter (λσ H R=>wi σ H R∨wi' σ H R):=λpins s σ H R I q=>q.elim (h pins s σ H R I) (h' pins s σ H R I)
theorem ck{K:UF}{Z:Hp}{p:UL}{vs:List V}{ds:List U8}(hl:Rd Z p (.lst vs))(r:Reps (λ_ _=>False) Z ds vs):i4 Z (Itl K p) ds:=λH2 s i=>by
 have hq:SqL K H2 p vs:=.inl (Rd.same s hl)
 refine ⟨λd hd=>?_,λhi=>⟨vs,hq,by rw [r.length,hi];exact UI _⟩⟩
 obtain ⟨v,hv,rv⟩:=r.get hd
 refine ⟨⟨vs,v,hq,hv⟩,λx H3 y=>?_⟩
 obtain ⟨e,y⟩:=y
 subst e
 have:=y vs hq
 rw [hv] at this
 cases this
 exact ⟨Same.refl _,rv.same s⟩
theorem s9{K:UF}{Z:Hp}{p:UL}{vs:List V}{ds:List U8}(hl:Rd Z p (.tup vs))(r:Reps (λ_ _=>False) Z ds vs):i4 Z (Itt K p) ds:=λH2 s i=>by
 have hq:SqT K H2 p vs:=.inl (Rd.same s hl)
 refine ⟨λd hd=>?_,λhi=>⟨vs,hq,by rw [r.length,hi];exact UI _⟩⟩
 obtain ⟨v,hv,rv⟩:=r.get hd
 refine ⟨⟨vs,v,hq,hv⟩,λx H3 y=>?_⟩
 obtain ⟨e,y⟩:=y
 subst e
 have:=y vs hq
 rw [hv] at this
 cases this
 exact ⟨Same.refl _,rv.same s⟩
theorem Gu{Z:Hp}{n:Nat}:i4 Z (Itr 0 n) (fy n):=λH2 s i=>by
 refine ⟨λd hd=>?_,λhi=>?_⟩
 ·unfold fy at hd
  rw [Vu] at hd
  cases hr:(VM n)[i]? with
  | none=>rw [hr] at hd;cases hd
  | some k=>
   rw [hr] at hd
   cases hd
   obtain ⟨hlt,hk⟩:=UV.mp hr
   rw [List.length_range] at hlt
   rw [List.getElem_range] at hk
   subst hk
   refine ⟨hlt,λx H3 y=>?_⟩
   obtain ⟨e,y⟩:=y
   subst e y
   refine ⟨Same.refl _,?_⟩
   show V.int (0+(i:Int))=V.int (i:Int)
   rw [Int.zero_add]
 ·show n<=i
  rw [hi]
  simp [fy]
theorem CG{XO:XOT}(h:PE X e (tF XO f)):PI X tg e (tI XO (xu f)):=PI.imp (PI.or (J8 h) (Iv h)) λσ H R ⟨H₀,Hs,ρ,r,g,e,k,kx⟩=>by
 unfold xu at e
 split at e
 ·rename_i l ds hf
  split at e
  ·rename_i hlf
   cases e
   refine .inl ⟨H₀,Hs,ρ,_,g,hf,⟨λl' d' v H1 e' s1 r1=>?_,λc H' e=>(nomatch e)⟩⟩
   cases e'
   obtain ⟨p,vs,rfl,rl,rs⟩:=r1
   refine ⟨p,rfl,⟨vs,.inl rl.rd⟩,k l ds (Itl X.K p) H1 rfl s1 λZ hT hL=>ck (hL p _ rl) ?_⟩
   exact Reps.free hT ds vs hlf rs
  ·cases e
 ·rename_i l ds hf
  split at e
  ·rename_i hlf
   cases e
   refine .inr ⟨H₀,Hs,ρ,_,g,hf,⟨λl' d' v H1 e' s1 r1=>?_,λc H' e=>(nomatch e)⟩⟩
   cases e'
   obtain ⟨p,vs,rfl,hp,rs⟩:=r1
   refine ⟨p,rfl,⟨vs,.inl hp⟩,k 2 ds (Itt X.K p) H1 rfl s1 λZ hT hL=>s9 (hT p vs hp) ?_⟩
   exact Reps.free hT ds vs hlf rs
  ·cases e
 ·rename_i c hf
  cases e
  exact .inl ⟨H₀,Hs,ρ,_,g,hf,⟨λl' d' v H1 e' s1 r1=>(nomatch e'),λc' H' e' s=>kx c' H' (by cases e';rfl) s⟩⟩
 ·cases e
theorem QD{XO:XOT}{p:Xz}(C:BC X)(h:PE X e (tF XO f))(hg:Gl X "range":=by rfl)(hs:UJ [e] X.env=[(false,VN e X.env)]:=by rfl):PI X tg (.Call (.Name "range" p) [e] [] pos) (tI XO (iR1 f)):=
 PI.imp (L8 hg C.mrange (we h xw (by rw [hs];rfl)) hs) λσ H R ⟨H₀,Hs,ρ,r,g,e,k,kx⟩=>by
  unfold iR1 at e
  split at e
  ·rename_i l n hf
   split at e
   ·rename_i hn
    cases e
    refine ⟨H₀,Hs,ρ,_,g,hf,⟨λl' d' v H1 e' s1 r1=>?_,λc H' e=>(nomatch e)⟩⟩
    cases e'
    have hb:big < 2 ^ 62:=by decide
    refine ⟨n,by rw [show v=V.int n from r1],by omega,by omega,?_⟩
    exact k 2 _ _ H1 rfl s1 λZ _ _=>Gu
   ·cases e
  ·rename_i c hf
   cases e
   exact ⟨H₀,Hs,ρ,_,g,hf,⟨λl' d' v H1 e' s1 r1=>(nomatch e'),λc' H' e' s=>kx c' H' (by cases e';rfl) s⟩⟩
  ·cases e
noncomputable def Dn(O:Own)(H:Hp):Hp:=λa=>match O a with
 | some _=>UA
 | none=>H a
theorem wx{O:Own}{H:Hp}{a:UL}(h:O a=UA):Dn O H a=H a:=by unfold Dn;rw [h]
theorem DZ{O:Own}{H:Hp}{a:UL}{i:Nat}(h:O a=U7 i):Dn O H a=UA:=by unfold Dn;rw [h]
theorem EG{O:Own}{H:Hp}{a:UL}{xs:List V}(ls:∀ a i,O a=U7 i->∃ vs:OwV,H a=U7 vs.ho)(h:Rd H a (.tup xs)):Rd (Dn O H) a (.tup xs):=by
 cases q:O a with
 | none=>
  rcases h with h | ⟨u,h⟩
  ·exact .inl (by rw [wx q];exact h)
  ·exact .inr ⟨u,by rw [wx q];exact h⟩
 | some i=>
  obtain ⟨vs,hv⟩:=ls a i q
  rcases h with h | ⟨_,h⟩<;>(rw [h] at hv;cases vs<;>cases hv)
theorem SR.freeze{O:Own}(g:SR cv H₀ F ρ σ H)(o:SO cv H₀ F ρ σ H O):SR cv H₀ (Dn O H) ρ σ H/\Same F (Dn O H):=by
 have hF:Same F (Dn O H):=λb u e=>by
  have:O b=UA:=by
   cases q:O b with
   | none=>rfl
   | some i=>rw [o.fr b i q] at e;cases e
  rw [wx this]
  exact g.s1 b u e
 refine ⟨⟨g.s0.trans hF,λb u e=>?_,g.len,g.ln,O,λa i e=>DZ e,o.ls,o.sl⟩,hF⟩
 cases q:O b with
 | none=>rw [wx q] at e;exact e
 | some i=>rw [DZ q] at e;cases e
theorem SR.thaw(g:SR cv H₀ F' ρ σ H)(h0:Same H₀ F)(h:Same F F'):SR cv H₀ F ρ σ H:=
 ⟨h0,h.trans g.s1,g.len,g.ln,let ⟨O,o⟩:=g.ex;⟨O,λa i e=>h.free (o.fr a i e),o.ls,o.sl⟩⟩
theorem KS.thaw{D:Ends}{r:RS}(h0:Same H₀ F)(h:Same F F')(k:KS cv XO H₀ F D r):KS cv XO H₀ F' D r:=by
 cases r with
 | next ρ'=>exact λσ' H' g=>k σ' H' (g.thaw h0 h)
 | ret d=>exact λv H' s rp=>k v H' (h.trans s) rp
 | exc c ρ'=>exact λσ' H' g=>k σ' H' (g.thaw h0 h)
 | brk ρ'=>exact λσ' H' g=>k σ' H' (g.thaw h0 h)
 | cont ρ'=>exact λσ' H' g=>k σ' H' (g.thaw h0 h)
 | retL d ds=>exact λv H' s rp q=>k v H' (h.trans s) rp q
noncomputable def TgD(cv:Cfg)(g:TG)(tf:FT):Prop:=∀ (H₀ F:Hp) (ρ ρ1:Rho) (σ:L2.St) (H:Hp) (d:U8) (x:V) (Q:L2.St->Hp->Prop),SR cv H₀ F ρ σ H->Rep (λ_ _=>False) H d x->tf d ρ=U7 ρ1->(∀ σ1,SR cv H₀ F ρ1 σ1 H->Q σ1 H)->g x σ H Q
theorem u6{J:It}{ds:List U8}{D:Ends}{r:RS}{g:TG}(s:SR cv H₀ F ρ σ H)(hy:i4 F J ds)(ht:TgD cv g tf)(e:qg tf b ds ρ=U7 r)(k:KS cv XO H₀ F D r):
  ∃ W:Nat->Nat->L2.St->Hp->Prop,(∃ m,W 0 m σ H)/\∀ i m σ H,W i m σ H->
   (J.stop i H/\D.nx σ H)∨(J.go i H/\∃ N:L2.St->Hp->Prop,(∀ σ' H',N σ' H'->∃ m',m' < m/\W (i+1) m' σ' H')/\∀ x H',J.yld i H x H'->g x σ H' λσ2 H2=>tS cv XO b {D with nx:=N,ct:=N,bk:=D.nx} σ2 H2):=by
 refine ⟨λi m σ H=>∃ ρ',SR cv H₀ F ρ' σ H/\qg tf b (ds.drop i) ρ'=U7 r/\i<=ds.length/\m=ds.length - i,⟨ds.length,ρ,s,e,VJ _,rfl⟩,?_⟩
 rintro i m σ1 H1 ⟨ρ1,s1,e1,hi,rfl⟩
 obtain ⟨y1,y2⟩:=hy H1 s1.s1 i
 cases hd:ds[i]? with
 | none=>
  have hl:ds.length<=i:=List.getElem?_eq_none_iff.mp hd
  have hil:i=ds.length:=by omega
  rw [List.drop_eq_nil_of_le hl] at e1
  cases e1
  exact .inl ⟨y2 hil,k σ1 H1 s1⟩
 | some d=>
  obtain ⟨hlt,hde⟩:=UV.mp hd
  rw [List.drop_eq_getElem_cons hlt,hde] at e1
  obtain ⟨hgo,hyl⟩:=y1 d hd
  refine .inr ⟨hgo,λσ' H'=>∃ ρ',SR cv H₀ F ρ' σ' H'/\qg tf b (ds.drop (i+1)) ρ'=U7 r,λσ' H' ⟨ρ',s',e'⟩=>⟨ds.length - (i+1),by omega,ρ',s',e',by omega,rfl⟩,λx H2 y=>?_⟩
  obtain ⟨sm,rx⟩:=hyl x H2 y
  unfold qg at e1
  cases htf:tf d ρ1 with
  | none=>rw [htf] at e1;cases e1
  | some ρ2=>
   rw [htf] at e1
   refine ht H₀ F ρ1 ρ2 σ1 H2 d x _ (s1.same sm) rx htf λσ2 s2=>?_
   dsimp only at e1
   cases hb:b ρ2 with
   | none=>rw [hb] at e1;cases e1
   | some y=>
    rw [hb] at e1
    refine ⟨H₀,F,ρ2,y,s2,hb,?_⟩
    cases y with
    | next ρ'=>exact λσ' H' g'=>⟨ρ',g',e1⟩
    | cont ρ'=>exact λσ' H' g'=>⟨ρ',g',e1⟩
    | brk ρ'=>cases e1;exact k
    | ret d=>cases e1;exact k
    | retL d ds=>cases e1;exact k
    | exc c ρ'=>cases e1;exact k
structure Tg(X:Cx)(cv:Cfg)(tg:Vw)(tf:FT):Prop where
 ex:∃ g,PG X tg g/\TgD cv g tf
theorem kg(i:Nat){x:Vk}(hN:X.N.Nodup)(hi:X.N[i]? =U7 x:=by rfl)(hx:Loc X.env.scope x:=by first | exact VE rfl | exact Vr rfl)
  (hf:X.fn x=true∨X.env.scope.names.lookup x=U7 .local:=by first | exact .inl rfl | exact .inr rfl | assumption) (hin:X0 i cv.n=true:=by rfl):Tg X cv (.Name x pos) (zw i):=
 ⟨Bg i,ph hN hi hx hf,λH₀ F ρ ρ1 σ H d x Q s r e q=>by cases e;exact q _ (s.putLoc hin r)⟩
theorem mi(hp:Yz (Vh X.prog X.w) X.A X.env X.xe)(hc:X.calm=true)(hi:PI X tg iter (tI ⟨cv.cv,XO⟩ fi))(ht:Tg X cv tg tf)(hb:PSs X body (tS cv XO b))(hs:∀ x,Xh iter X.env x=pure x:=by intro _;rfl):
  PS X (.For tg iter body [] pos) (tS cv XO (ye fi tf b)):=by
 obtain ⟨gt,hg,hd⟩:=ht.ex
 refine PS.imp (Js hp hc hi hg hb hs) λD σ H ⟨H₀,F,ρ,r,g,e,k⟩=>?_
 unfold ye at e
 cases hf:fi ρ with
 | none=>rw [hf] at e;cases e
 | some x=>
  rw [hf] at e
  refine ⟨H₀,H,ρ,x,g.g,hf,λl ds J H1 ex s1 it=>?_,λc H' ex s=>?_⟩
  ·subst ex
   dsimp only at e
   split at e
   ·rename_i h2
    obtain ⟨O,o⟩:=g.ex
    have o1:SO cv H₀ F ρ σ H1 O:=⟨o.fr,λa i e=>let ⟨vs,q⟩:=o.ls a i e;⟨vs,s1 _ _ q⟩,λi t e=>(o.sl i t e).same s1⟩
    obtain ⟨gf,hF⟩:=(g.same s1).freeze o1
    refine u6 gf (it (Dn O H1) (λa xs hx=>?_) λa vs rl=>?_) hd e (k.thaw g.s0 hF)
    ·exact EG o1.ls hx
    ·have no:∀ z,PL H₀ H l z a->O a=UA:=λz p=>by
       have hn:H a=UA:=by
        match l,h2,p with
        | l+2,_,p=>exact p.2
       cases q:O a with
       | none=>rfl
       | some i=>obtain ⟨vs,hv⟩:=o.ls a i q;rw [hn] at hv;cases vs<;>cases hv
     rcases rl with ⟨p,hx⟩ | ⟨p,u,hx⟩
     ·exact .inl (by rw [wx (no _ p)];exact hx)
     ·exact .inr ⟨u,by rw [wx (no _ p)];exact hx⟩
   ·cases e
  ·subst ex
   cases e
   exact k σ H' (g.same s)
theorem n0(i:Nat){x:Vk}{xp:Xz}(hp:Yz (Vh X.prog X.w) X.A X.env X.xe)(hc:X.calm=true)(ht:Tg X cv tg tf)(hb:PSs X body (tS cv XO b))(hN:X.N[i]? =U7 x:=by rfl)
  (hv:Vis X.env.scope x:=by first | exact VE rfl | exact Vr (VE rfl) | exact Vr (Vr rfl)) (hd:(x == ("__debug__":Vk))=false:=by decide) (hcd:(x == ("__classdict__":Vk))=false:=by decide)
  (hs:∀ y,Xh (.Name x xp) X.env y=pure y:=by intro _;rfl):PS X (.For tg (.Name x xp) body [] pos) (tS cv XO (yb i tf b)):=by
 obtain ⟨gt,hg,hd'⟩:=ht.ex
 refine PS.imp (Js hp hc (PI.or (J8 (yk (i:=i) hN hv hd hcd)) (Iv (yk (i:=i) hN hv hd hcd))) hg hb hs) λD σ H ⟨H₀,F,ρ,r,g,e,k⟩=>?_
 obtain ⟨O,o⟩:=g.ex
 obtain ⟨gf,hF⟩:=g.freeze o
 have hT:∀ a xs,Rd H a (.tup xs)->Rd (Dn O H) a (.tup xs):=λa xs hx=>EG o.ls hx
 unfold yb at e
 split at e
 ·rename_i xs hρ
  obtain ⟨p,vs,hσ,hO,hp',rs⟩:=o.sl i _ hρ
  have hρl:i < ρ.length:=(UV.mp hρ).1
  have o2:SO cv H₀ F (ρ.set i (U7 (.loc (.list xs)))) σ H (λa=>if a=p then UA else O a):=by
   refine ⟨λa j q=>?_,λa j q=>?_,λj t q=>?_⟩
   ·by_cases z:a=p
    ·rw [if_pos z] at q;cases q
    ·rw [if_neg z] at q;exact o.fr a j q
   ·by_cases z:a=p
    ·rw [if_pos z] at q;cases q
    ·rw [if_neg z] at q;exact o.ls a j q
   ·by_cases hij:i=j
    ·subst hij
     rw [jg _ _ _ _ hρl,if_pos rfl] at q
     cases q
     exact ⟨.ref p,hσ,p,vs,rfl,.inl ⟨⟨rfl,if_pos rfl,g.s0.free (o.fr p i hO)⟩,hp'⟩,rs.imp λ_ _ z=>z.elim⟩
    ·rw [jg _ _ _ _ hρl,if_neg hij] at q
     have h:=o.sl j t q
     have hn:∀ a,O a=UA->(if a=p then UA else O a)=UA:=λa q=>by
      by_cases z:a=p
      ·rw [if_pos z]
      ·rw [if_neg z];exact q
     cases t with
     | par d=>obtain ⟨w,e1,rr⟩:=h;exact ⟨w,e1,rr.imp λ_ a z=>hn a z⟩
     | loc d=>obtain ⟨w,e1,rr⟩:=h;exact ⟨w,e1,rr.imp λ_ a z=>⟨z.1,hn a z.2.1,z.2.2⟩⟩
     | own ds=>
      obtain ⟨q1,ws,e1,hq,hqp,rs'⟩:=h
      have hne:q1≠p:=λz=>by rw [z,hO] at hq;cases hq;exact hij rfl
      exact ⟨q1,ws,e1,(if_neg hne).trans hq,hqp,rs'⟩
     | own2 ds=>
      obtain ⟨q1,ws,e1,hq,hqp,rs'⟩:=h
      have hne:q1≠p:=λz=>by rw [z,hO] at hq;cases hq;exact hij rfl
      exact ⟨q1,ws,e1,(if_neg hne).trans hq,hqp,rs'.imp λ_ a z=>⟨z.1,hn a z.2.1,z.2.2⟩⟩
     | lent ds=>
      obtain ⟨ws,e1,hq,hqp,rs'⟩:=h
      have hne:cv.lend≠p:=λz=>by rw [z,hO] at hq;cases hq;exact hij rfl
      exact ⟨ws,e1,(if_neg hne).trans hq,hqp,rs'⟩
     | dct ks=>
      obtain ⟨q1,e1,hq,hd⟩:=h
      have hne:q1≠p:=λz=>by rw [z,hO] at hq;cases hq;exact hij rfl
      exact ⟨q1,e1,(if_neg hne).trans hq,hd⟩
     | duo c ds es=>exact DuoS.mv (λ_ _ x=>x) (λb u x y=>⟨(if_neg (λz=>by subst z;rw [hO] at x;cases x;exact hij rfl)).trans x,y⟩) h
     | ex c=>exact h
  have g2:SR cv H₀ F (ρ.set i (U7 (.loc (.list xs)))) σ H:=⟨g.s0,g.s1,by simp [g.len],g.ln,_,o2⟩
  obtain ⟨gf2,hF2⟩:=g2.freeze o2
  refine .inl ⟨.ref p,hσ,p,rfl,⟨vs,SqL.of hp'⟩,u6 gf2 (ck (vs:=vs) (.inl ?_) ?_) hd' e (k.thaw g.s0 hF2)⟩
  ·rw [wx (if_pos rfl)];exact hp'
  ·refine Reps.mono (λa ys hx=>?_) (λa ws rl=>by rcases rl with ⟨q,_⟩ | ⟨q,_⟩<;>exact q.elim) xs vs rs
   exact EG o2.ls hx
 ·rename_i xs hρ
  split at e
  ·rename_i hlf
   obtain ⟨v,hσ,p,vs,rfl,rl,rs⟩:=o.sl i _ hρ
   refine .inl ⟨.ref p,hσ,p,rfl,⟨vs,.inl rl.rd⟩,u6 gf (ck ?_ (Reps.free hT xs vs hlf rs)) hd' e (k.thaw g.s0 hF)⟩
   rcases rl with ⟨q,hx⟩ | ⟨q,u,hx⟩
   ·exact .inl (by rw [wx q];exact hx)
   ·exact .inr ⟨u,by rw [wx q];exact hx⟩
  ·cases e
 ·rename_i xs hρ
  split at e
  ·rename_i hlf
   obtain ⟨v,hσ,p,vs,rfl,rl,rs⟩:=o.sl i _ hρ
   refine .inl ⟨.ref p,hσ,p,rfl,⟨vs,.inl rl.rd⟩,u6 gf (ck ?_ (Reps.free hT xs vs hlf rs)) hd' e (k.thaw g.s0 hF)⟩
   rcases rl with ⟨q,hx⟩ | ⟨q,u,hx⟩
   ·exact .inl (by rw [wx q.2.1];exact hx)
   ·exact .inr ⟨u,by rw [wx q.2.1];exact hx⟩
  ·cases e
 ·rename_i xs hρ
  split at e
  ·rename_i hlf
   obtain ⟨v,hσ,p,vs,rfl,hq,rs⟩:=o.sl i _ hρ
   exact .inr ⟨.ref p,hσ,p,rfl,⟨vs,.inl hq⟩,u6 gf (s9 (hT p vs hq) (Reps.free hT xs vs hlf rs)) hd' e (k.thaw g.s0 hF)⟩
  ·cases e
 ·rename_i xs hρ
  split at e
  ·rename_i hlf
   obtain ⟨v,hσ,p,vs,rfl,hq,rs⟩:=o.sl i _ hρ
   exact .inr ⟨.ref p,hσ,p,rfl,⟨vs,.inl hq⟩,u6 gf (s9 (hT p vs hq) (Reps.free hT xs vs hlf rs)) hd' e (k.thaw g.s0 hF)⟩
  ·cases e
 ·cases e
end
noncomputable def spD(cv:Nat->UB)(n:Nat)(g:FC):Sp:=λvs H Q E=>∃ ds r,vs.length=n/\Reps (λ_ _=>True) H ds vs/\g ds=U7 r/\
 (∀ d v H',r= .ok d->Same H H'->Rep (λz a=>z=false/\H a=UA) H' d v->Q v H')/\∀ c H',r= .exc c->Same H H'->E (cv c) UA H'
noncomputable def FU(CX:CXT)(X:Cx)(XO:XOT):Prop:=∀ pins σ H s e s',Inv X pins σ H s->CX X.stack H s (λcls _ H'=>∃ c,cls=XO.cv c/\XO.f c σ H') e s'->X.xe e s'
structure FnF(CX:CXT)(P:Vn)(w:Vz)(K:UF)(mg:Vk->Option UB)(base:V1)(cv:Nat->UB)(n:Nat)(x:Vk)(ar:Nat)(g:FC):Prop where
 ex:∃ f fd ps,FnOk P w K mg base CX n f fd ps (spD cv ar g)/\mg x=U7 (.ref f)/\X2 K (.ref f)=true/\Binds K fd ps []
section
variable{X:Cx}{XO:XOT}{CX:CXT}{cv:Nat->UB}{a b c e:Vw}{es:List Vw}{fa fb fc f:FE}{fs:List FE}{pos p:Xz}{n ar:Nat}{x:Vk}{g:FC}
theorem zy(F:FnF CX X.prog X.w X.K X.mg X.base XO.cv n x ar g)(hr:Room n X.A)(L:FU CX X XO)(ha:PA X (e::es) (tAs XO fs))(hn:Zm ar fs.length=true:=by rfl)(hg:Gl X x:=by rfl)
  (hdb:(x == ("__debug__":Vk))=false:=by decide) (he:UJ (e::es) X.env=(false,VN e X.env)::UJ es X.env:=by exact qe rfl) (hpl:(VC pos (UJ es X.env)).any (·.1)=false:=by exact wj rfl):
  PE X (.Call (.Name x p) (e::es) [] pos) (tF XO (zd g fs)):=by
 obtain ⟨f,fd,ps,F,hm,hk,hb⟩:=F.ex
 intro pins s σ H Q I ⟨H₀,Hs,ρ,r,gg,ee,kk⟩
 refine W8 (EF I hg hm ?_ hdb)
 have hA:tAs XO fs σ H (λvs H1=>spD XO.cv ar g vs H1 Q (λcls _ H'=>∃ c,cls=XO.cv c/\XO.f c σ H')):=by
  refine Cv gg ee kk λl ds vs H1 s1 g1 r1 hl e1 k1=>?_
  have hlen:vs.length=ar:=by rw [r1.length,hl,Nat.eq_of_beq_eq_true hn]
  cases hg:g ds with
  | none=>rw [hg] at e1;cases e1
  | some rc=>
   rw [hg] at e1
   refine ⟨ds,rc,hlen,r1.imp λ_ _ _=>trivial,hg,λd v H' er s rp=>?_,λc H' er s=>?_⟩
   ·subst er
    exact k1.give (l:=2) e1 s (rp.imp λz a q=>⟨q.1,g1.s1.free q.2⟩)
   ·subst er
    exact ⟨c,rfl,k1.2 c H' (by cases e1;rfl) s⟩
 refine PySem.W.callWith_K (h₀:=X.base) I.ok.mod.kin hk (thn (ha pos pins s σ H _ I hA) λus s1 ⟨vs,H1,I1,r,q⟩=>⟨I1.kIn,?_⟩) he hpl
 have hl:(us++[]).length=ps.length:=by rw [V3,<- r.length];exact F.len _ _ _ _ q
 have hB:=hb s1 us I1.kIn hl
 rw [V3] at hB
 refine wpAny_call (codeAny_mono (F.run X.A X.stack s1 H1 ⟨us,[]⟩ us vs Q _ hr I1.env0 hB r q) λr s' hq=>?_)
 cases r with
 | error e=>exact L pins σ H1 s1 e s' I1 hq
 | ok fl=>
  cases fl with
  | ret u=>exact I1.after hq
  | next=>exact WY hq
  | brk=>exact WY hq
  | cont=>exact WY hq
noncomputable def JU(r:List V->Hp->VK->Prop)(op:U8->Option U8):Prop:=
 ∀ (H₀ Hs H:Hp) (l:Nat) (x d:U8) (v:V) (Q:VK),Same H₀ Hs->Same Hs H->op x=U7 d->Rep (PL H₀ Hs l) H x v->(∀ z H',Same H H'->Rep (PL H₀ Hs 2) H' d z->Q z H')->r [v] H Q
theorem AU{r:List V->Hp->VK->Prop}{op:U8->Option U8}(ho:JU r op){σ:L2.St}{H:Hp}{Q:VK}(h:tF XO (e1 op true fa) σ H Q):tCB r (GB (tF XO fa) tNil) σ H Q:=by
 obtain ⟨H₀,Hs,ρ,rr,g,e,kk⟩:=h
 refine wy g e kk λl x v H1 s1 g1 r1 e1 k1=>?_
 cases hd:op x with
 | none=>rw [hd] at e1;cases e1
 | some d=>
  rw [hd] at e1
  exact ho H₀ Hs H1 l x d v Q g1.s0 g1.s1 hd r1 λz H' s rp=>k1.give e1 s rp
theorem EH{id:String}{r:List V->Hp->VK->Prop}{op:U8->Option U8}(hc:CallR X (.builtin id) r)(ho:JU r op)(hm:X.mg x=UA)(hv:Wu x=U7 (.builtin id))(ha:PE X a (tF XO fa))(hg:Gl X x)(hn:x≠"__name__")(hdb:(x == ("__debug__":Vk))=false)
  (he:UJ [a] X.env=(false,VN a X.env)::UJ [] X.env) (hpl:(VC pos (UJ [] X.env)).any (·.1)=false):PE X (.Call (.Name x p) [a] [] pos) (tF XO (e1 op true fa)):=
 PE.imp (GK hc hg hm hv (we ha xw he) hn hdb he hpl) λ_ _ _ h=>AU ho h
theorem B6{T:String}{r:List V->Hp->VK->Prop}{op:U8->Option U8}(hc:CallR X (.type T) r)(ho:JU r op)(hm:X.mg x=UA)(hv:Wu x=U7 (.type T))(ha:PE X a (tF XO fa))(hg:Gl X x)(hn:x≠"__name__")(hdb:(x == ("__debug__":Vk))=false)
  (he:UJ [a] X.env=(false,VN a X.env)::UJ [] X.env) (hpl:(VC pos (UJ [] X.env)).any (·.1)=false):PE X (.Call (.Name x p) [a] [] pos) (tF XO (e1 op true fa)):=
 PE.imp (Ea hc hg hm hv (we ha xw he) hn hdb he hpl) λ_ _ _ h=>AU ho h
theorem xq(C:BC X)(ha:PE X a (tF XO fa))(hg:Gl X "len":=by rfl)(he:UJ [a] X.env=(false,VN a X.env)::UJ [] X.env:=by exact qe rfl)(hpl:(VC pos (UJ [] X.env)).any (·.1)=false:=by exact wj rfl):PE X (.Call (.Name "len" p) [a] [] pos) (tF XO (jd fa)):=
 EH (call_len_seq.or E2) (λH₀ Hs H l x d v Q s0 s1 e rx q=>by
  unfold fm at e
  split at e
  ·cases e
   obtain ⟨p,vs,rfl,hp,rs⟩:=rx
   exact .inl ⟨p,vs,rfl,.inr (.inl hp),q _ H (Same.refl H) (by rw [rs.length];rfl)⟩
  ·cases e
   obtain ⟨p,vs,rfl,hp,rs⟩:=rx
   exact .inl ⟨p,vs,rfl,.inl (.inl hp.rd),q _ H (Same.refl H) (by rw [rs.length];rfl)⟩
  ·split at e
   ·rename_i z hz
    cases e
    exact .inr ⟨z,by rw [show v=V.str z from rx],ah hz,q _ H (Same.refl H) rfl⟩
   ·cases e
  ·cases e) C.mlen PySem.boot_len ha hg (by decide) (by decide) he hpl
theorem MM(C:BC X)(ha:PE X a (tF XO fa))(hg:Gl X "int":=by rfl)(he:UJ [a] X.env=(false,VN a X.env)::UJ [] X.env:=by exact qe rfl)(hpl:(VC pos (UJ [] X.env)).any (·.1)=false:=by exact wj rfl):PE X (.Call (.Name "int" p) [a] [] pos) (tF XO (G6 fa)):=
 B6 Li (λH₀ Hs H l x d v Q s0 s1 e rx q=>by
  unfold KL at e
  split at e
  ·rename_i i
   cases e
   exact .inl ⟨i,by rw [show v=V.int i from rx],q _ H (Same.refl H) rfl⟩
  ·rename_i k
   cases e
   exact .inr ⟨k,by rw [show v=V.bl k from rx],q _ H (Same.refl H) rfl⟩
  ·cases e) C.mint PyProof.Rows.boot_int ha hg (by decide) (by decide) he hpl
theorem B7(C:BC X)(ha:PE X a (tF XO fa))(hg:Gl X "tuple":=by rfl)(he:UJ [a] X.env=(false,VN a X.env)::UJ [] X.env:=by exact qe rfl)(hpl:(VC pos (UJ [] X.env)).any (·.1)=false:=by exact wj rfl):PE X (.Call (.Name "tuple" p) [a] [] pos) (tF XO (fx fa)):=
 B6 rg (λH₀ Hs H l x d v Q s0 s1 e rx q=>by
  unfold mz at e
  split at e
  ·split at e
   ·rename_i hlf
    cases e
    obtain ⟨p,vs,rfl,hp,rs⟩:=rx
    exact ⟨p,vs,rfl,.inl ⟨.inl hp.rd,λl hl=>q _ _ (qc hl _) ⟨l,vs,rfl,(.inl z9),(rs.nl hlf).same (qc hl _)⟩⟩⟩
   ·cases e
  ·split at e
   ·rename_i hlf
    cases e
    obtain ⟨p,vs,rfl,hp,rs⟩:=rx
    exact ⟨p,vs,rfl,.inr ⟨.inl hp,q _ H (Same.refl H) ⟨p,vs,rfl,hp,rs.nl hlf⟩⟩⟩
   ·cases e
  ·cases e) C.mtuple Y4 ha hg (by decide) (by decide) he hpl
theorem Et(C:BC X)(ha:PE X a (tF XO fa))(hg:Gl X "list":=by rfl)(he:UJ [a] X.env=(false,VN a X.env)::UJ [] X.env:=by exact qe rfl)(hpl:(VC pos (UJ [] X.env)).any (·.1)=false:=by exact wj rfl):PE X (.Call (.Name "list" p) [a] [] pos) (tF XO (Bc fa)):=
 B6 ET (λH₀ Hs H l x d v Q s0 s1 e rx q=>by
  unfold JG at e
  split at e
  ·split at e
   ·rename_i hlf
    cases e
    obtain ⟨p,vs,rfl,hp,rs⟩:=rx
    exact ⟨p,vs,rfl,.inl (.inl hp.rd),λl hl=>q _ _ (qc hl _) ⟨l,vs,rfl,.inl ⟨⟨rfl,s1.free hl⟩,z9⟩,(rs.nl hlf).same (qc hl _)⟩⟩
   ·cases e
  ·split at e
   ·rename_i hlf
    cases e
    obtain ⟨p,vs,rfl,hp,rs⟩:=rx
    exact ⟨p,vs,rfl,.inr (.inl hp),λl hl=>q _ _ (qc hl _) ⟨l,vs,rfl,.inl ⟨⟨rfl,s1.free hl⟩,z9⟩,(rs.nl hlf).same (qc hl _)⟩⟩
   ·cases e
  ·cases e) C.mlist YA ha hg (by decide) (by decide) he hpl
noncomputable def sr:Ty->String
 | .int=>"int"
 | .bool=>"bool"
 | .str=>"str"
 | .tuple=>"tuple"
 | .list=>"list"
theorem Nl:CallR X (.builtin "isinstance") (λxs H Q=>∃ x T t b,xs=[x,.ty T]/\TyOf X.K H x t/\Zg X.K t (.type T)=U7 b/\Q (.bl b) H):=by
 intro pins s σ H xs us Q I r h
 obtain ⟨x,T,t,b,rfl,ht,hk,q⟩:=h
 obtain ⟨u,w',rfl,rx,ry⟩:=Tz r
 cases ry
 exact KY I rx ht hk λtk=>⟨.bl b,H,I.tok _,rfl,q⟩
theorem i8{K:UF}:∀ (t:Ty) (T:String),(T= "NoneType"∨T= "bool"∨T= "int"∨T= "str"∨T= "list"∨T= "tuple")->
  Zg K (.type T) (.type (sr t))=U7 (T == sr t || (T == "bool" && sr t == "int")):=by
 intro t T h
 rcases h with rfl | rfl | rfl | rfl | rfl | rfl<;>cases t<;>kernel_rfl
end
section
variable{X:Cx}{XO:XOT}{a b c e:Vw}{fa fb fc f:FE}{pos p p2:Xz}
theorem S6{K:UF}{P:PP}{H:Hp}(t:Ty):∀ {d:U8} {v:V},(∀ kvs,d≠.dict kvs)->Rep P H d v->∃ T,TyOf K H v (.type T)/\Zg K (.type T) (.type (sr t))=U7 (p7 t d)
 | .none,_,_,h=>by cases (show _=_ from h);exact ⟨_,.non,by rw [i8 t _ (.inl rfl)];cases t<;>rfl⟩
 | .bool _,_,_,h=>by cases (show _=_ from h);exact ⟨_,.bl _,by rw [i8 t _ (.inr (.inl rfl))];cases t<;>rfl⟩
 | .int _,_,_,h=>by cases (show _=_ from h);exact ⟨_,.int _,by rw [i8 t _ (.inr (.inr (.inl rfl)))];cases t<;>rfl⟩
 | .str _,_,_,h=>by cases (show _=_ from h);exact ⟨_,.str _,by rw [i8 t _ (.inr (.inr (.inr (.inl rfl))))];cases t<;>rfl⟩
 | .tuple _,_,_,⟨_,_,e,h,_⟩=>by subst e;exact ⟨_,.tup h,by rw [i8 t _ (.inr (.inr (.inr (.inr (.inr rfl)))))];cases t<;>rfl⟩
 | .list _,_,_,⟨_,_,e,h,_⟩=>by
  subst e
  rcases h with ⟨_,h⟩ | ⟨_,_,h⟩
  ·exact ⟨_,.lst h,by rw [i8 t _ (.inr (.inr (.inr (.inr (.inl rfl)))))];cases t<;>rfl⟩
  ·exact ⟨_,.frz h,by rw [i8 t _ (.inr (.inr (.inr (.inr (.inl rfl)))))];cases t<;>rfl⟩
 | .dict _,_,n,_=>absurd rfl (n _)
theorem Kc(t:Ty){x:Vk}(C:BC X)(ha:PE X a (tF XO fa))(hm:X.mg x=UA)(hv:Wu x=U7 (.type (sr t)))(hgx:Gl X x)(hnx:x≠"__name__")(hdx:(x == ("__debug__":Vk))=false)(hg:Gl X "isinstance")
  (hs1:UJ [a,.Name x p2] X.env=(false,VN a X.env)::UJ [.Name x p2] X.env) (hpl:(VC pos (UJ [.Name x p2] X.env)).any (·.1)=false):PE X (.Call (.Name "isinstance" p) [a,.Name x p2] [] pos) (tF XO (eIs t fa)):=
 PE.imp (GK Nl hg C.misi PyProof.Rows.boot_isinstance (we ha (we (PM (v:=.ty (sr t)) hgx hm hv rfl hnx hdx) xw rfl) hs1) (by decide) (by decide) hs1 hpl) λσ H Q ⟨H₀,Hs,ρ,rr,g,e,kk⟩=>by
  refine wy g e kk λl x v H1 s1 g1 r1 e1 k1=>?_
  have hn:∀ kvs,x≠.dict kvs:=λkvs z=>by subst z;cases e1
  obtain ⟨T,hT,hk⟩:=S6 (K:=X.K) t hn r1
  have hd:dIs t x=U7 (.bool (p7 t x)):=by cases x<;>first | rfl | exact absurd rfl (hn _)
  rw [hd] at e1
  exact ⟨v,sr t,_,_,rfl,hT,hk,k1.give e1 (Same.refl _) rfl⟩
theorem Pq(C:BC X)(ha:PE X a (tF XO fa))(hgx:Gl X "int":=by rfl)(hg:Gl X "isinstance":=by rfl)(hs1:UJ [a,.Name "int" p2] X.env=(false,VN a X.env)::UJ [.Name "int" p2] X.env:=by exact qe rfl)(hpl:(VC pos (UJ [.Name "int" p2] X.env)).any (·.1)=false:=by exact wj rfl):
 PE X (.Call (.Name "isinstance" p) [a,.Name "int" p2] [] pos) (tF XO (eIs .int fa)):=Kc .int C ha C.mint PyProof.Rows.boot_int hgx (by decide) (by decide) hg hs1 hpl
theorem Me(C:BC X)(ha:PE X a (tF XO fa))(hgx:Gl X "bool":=by rfl)(hg:Gl X "isinstance":=by rfl)(hs1:UJ [a,.Name "bool" p2] X.env=(false,VN a X.env)::UJ [.Name "bool" p2] X.env:=by exact qe rfl)(hpl:(VC pos (UJ [.Name "bool" p2] X.env)).any (·.1)=false:=by exact wj rfl):
 PE X (.Call (.Name "isinstance" p) [a,.Name "bool" p2] [] pos) (tF XO (eIs .bool fa)):=Kc .bool C ha C.mbool PyProof.Rows.boot_bool hgx (by decide) (by decide) hg hs1 hpl
theorem ij(C:BC X)(ha:PE X a (tF XO fa))(hgx:Gl X "tuple":=by rfl)(hg:Gl X "isinstance":=by rfl)(hs1:UJ [a,.Name "tuple" p2] X.env=(false,VN a X.env)::UJ [.Name "tuple" p2] X.env:=by exact qe rfl)(hpl:(VC pos (UJ [.Name "tuple" p2] X.env)).any (·.1)=false:=by exact wj rfl):
 PE X (.Call (.Name "isinstance" p) [a,.Name "tuple" p2] [] pos) (tF XO (eIs .tuple fa)):=Kc .tuple C ha C.mtuple Y4 hgx (by decide) (by decide) hg hs1 hpl
theorem CJ(C:BC X)(ha:PE X a (tF XO fa))(hgx:Gl X "list":=by rfl)(hg:Gl X "isinstance":=by rfl)(hs1:UJ [a,.Name "list" p2] X.env=(false,VN a X.env)::UJ [.Name "list" p2] X.env:=by exact qe rfl)(hpl:(VC pos (UJ [.Name "list" p2] X.env)).any (·.1)=false:=by exact wj rfl):
 PE X (.Call (.Name "isinstance" p) [a,.Name "list" p2] [] pos) (tF XO (eIs .list fa)):=Kc .list C ha C.mlist YA hgx (by decide) (by decide) hg hs1 hpl
end
structure Flown(fs:List UL)(ea:UL)(oe:WK)(h h':V1):Prop where
 keep:∀ b o,h.get? b=U7 o->b≠ea->b∉fs->h'.get? b=U7 o
 frm:∀ b o,h.get? b=U7 o->b∈fs->∃ sl,h'.get? b=U7 {o with slots:=sl}
 ex:∃ oe' vs T oT ts,h'.get? ea=U7 oe'/\oe'.cls=oe.cls/\oe'.dict=oe.dict/\oe'.data= .fields vs/\vs[1]? =U7 (.ref T)/\h.get? T=UA/\T≠ea/\h'.get? T=U7 oT/\oT.data= .fields ts/\ts[3]? =U7 .none
noncomputable def Jq(h:V1)(ea:UL)(vs:Array UB):Prop:=
 vs[1]? =U7 .none∨∃ T oT ts,vs[1]? =U7 (.ref T)/\T≠ea/\h.get? T=U7 oT/\oT.data= .fields ts/\ts[3]? =U7 .none
theorem Cd(o:WK)(f:Array UB->Array UB):(o.mapFields f).dict=o.dict:=by
 obtain ⟨_,_,dt,_⟩:=o
 cases dt<;>rfl
section
variable{M:Model}{A:VG}{E:UB->UG->Prop}{s:UG}{base:V1}{env:Env}{outer:List Env}{L ea:UL}{oe:WK}{vs:Array UB}{Q:Unit->UG->Prop}
theorem DX{hd0:UB}{nx:Bool}(hfr:A.frames=U7 (env::outer))(ff:s.heap.FunFrames base (env::outer))(hf:env.frame=U7 L)(he:s.heap.get? ea=U7 oe)(hd:oe.data= .fields vs)(hsz:1 < vs.size)
  (k:∀ h',Flown (frs (env::outer)) ea oe s.heap h'->Q () {s with heap:=h'}):
  UZ M A (do let fo <- frameOf env;let pl <- entryPlaceOf L nx;let t <- EntryCells.newEntry hd0 fo .none (XR L) .none pl;setField (.ref ea) 1 t) (λ_ s'=>UZ M A (setFlight (.ref ea) UA) Q E s') E s:=by
 have nfr:ea∉frs (env::outer):=λhm=>by
  obtain ⟨_,o,ho,no⟩:=ff.mem hm
  rw [he] at ho
  cases ho
  exact no vs hd
 refine U9 (wpAny_frameOf_fun hfr ff hf λg hg=>?_)
 refine U9 (wpAny_entryPlaceOf λpl hpl=>?_)
 unfold EntryCells.newEntry newFields
 refine U9 (VI ?_ (hpl.sizeOk5 _ _ _ _ _))
 generalize hob:({cls:=.type "traceback",dict:=UA,data:=.fields ([hd0,.ref L,.none,XR L,.none]++(if pl.isEmpty then UW 6 Vq else pl)).toArray}:WK)=ob
 have obd:∃ ts,ob.data= .fields ts/\3 < ts.size:=⟨_,by rw [<- hob],by simp only [UO,UC,UM,Vm]<;>omega⟩
 obtain ⟨ts,obd,ob3⟩:=obd
 have eg:g.get? ea=U7 oe:=(hg.2.1 ea nfr).trans he
 have ltE:ea < g.objs.size:=UT eg
 have e2:(g.push ob).get? ea=U7 oe:=UH ob eg
 refine X3 e2 hd hsz ?_
 have d3:=Wt hd (·.setIfInBounds 1 (VD g.objs.size))
 have e3:=VQ (Xx (·.setIfInBounds 1 (VD g.objs.size))) e2 (W5 d3)
 have neT:g.objs.size≠ea:=Wr ltE
 have obf:ob.isFreed=false:=W5 obd
 have t3:((g.push ob).update ea (Xx (·.setIfInBounds 1 (VD g.objs.size)))).get? g.objs.size=U7 ob:=by
  rw [V0 _ _ neT.symm]
  exact US g obf
 unfold setFlight
 refine U9 (VX e3 d3 (x:=.ref g.objs.size) (by simp [hsz]) ?_)
 rw [if_pos (by simp)]
 refine X3 t3 obd ob3 (k _ ?_)
 have stay:∀ b o,b≠ea->g.get? b=U7 o->(((g.push ob).update ea (Xx (·.setIfInBounds 1 (VD g.objs.size)))).update g.objs.size (Xx (·.setIfInBounds 3 ((UA:Option UL).elim Vq λf=>XR f)))).get? b=U7 o:=λb o hb q=>by
  rw [V0 _ _ (Wr (UT q)),V0 _ _ hb.symm]
  exact UH _ q
 refine ⟨λb o q hb hn=>stay b o hb ((hg.2.1 b hn).trans q),λb o q hb=>?_,?_⟩
 ·obtain ⟨sl,q'⟩:=hg.2.2 b o q
  exact ⟨sl,stay b _ (λz=>nfr (z ▸ hb)) q'⟩
 ·refine ⟨_,_,g.objs.size,_,_,(V0 _ _ neT).trans e3,WK.cls_mapFields _ _,Cd _ _,d3,by simp [hsz],?_,neT,VQ _ t3 (W5 (Wt obd _)),Wt obd _,by simp [ob3]⟩
  cases q:s.heap.get? g.objs.size with
  | none=>rfl
  | some o=>
   have:=UT q
   rw [hg.1] at this
   exact absurd this (Wo _)
theorem GW{h:V1}{T:UL}{oT:WK}{ts:Array UB}(hT:h.get? T=U7 oT)(hd:oT.data= .fields ts)(h3:ts[3]? =U7 .none):(h.update T (Xx (·.setIfInBounds 3 Vq))).get? T=U7 oT:=by
 have hz:ts.setIfInBounds 3 Vq=ts:=by
  obtain ⟨hlt,hv⟩:=Wy.mp h3
  apply Array.ext
  ·simp
  ·intro i h1 h2
   by_cases q:3=i
   ·subst q;simp [hv]
   ·rw [Array.getElem_setIfInBounds,if_neg q]
 rw [VQ _ hT (W5 (Wt hd _))]
 obtain ⟨c,d,dt,sl⟩:=oT
 cases hd
 show U7 ({cls:=c,dict:=d,data:=.fields (ts.setIfInBounds 3 Vq),slots:=sl}:WK)=_
 rw [hz]
theorem fly(hfr:A.frames=U7 (env::outer))(ff:s.heap.FunFrames base (env::outer))(hf:env.frame=U7 L)(he:s.heap.get? ea=U7 oe)(hd:oe.data= .fields vs)(hh:Jq s.heap ea vs)
  (k:∀ h',Flown (frs (env::outer)) ea oe s.heap h'->Q () {s with heap:=h'}):
  UZ M A (noteFrame (.ref ea) env) (λ_ s'=>UZ M A (setFlight (.ref ea) UA) Q E s') E s:=by
 unfold noteFrame
 simp only [hf]
 rcases hh with h1 | ⟨T,oT,ts,h1,neT,hT,hdT,h3⟩
 ·refine U9 (VX he hd h1 ?_)
  rw [if_neg (by decide)]
  exact DX hfr ff hf he hd (Wy.mp h1).1 k
 ·refine U9 (VX he hd h1 ?_)
  rw [if_pos (by simp)]
  refine U9 (VX hT hdT h3 ?_)
  rw [if_neg (by simp [XR])]
  refine U9 (X3 hT hdT (Wy.mp h3).1 ?_)
  have Zs:∀ b o,s.heap.get? b=U7 o->(s.heap.update T (Xx (·.setIfInBounds 3 Vq))).get? b=U7 o:=λb o q=>by
   by_cases z:b=T
   ·subst z
    rw [hT] at q
    cases q
    exact GW hT hdT h3
   ·rw [V0 _ _ (Wv z)];exact q
  have back:∀ b,(s.heap.update T (Xx (·.setIfInBounds 3 Vq))).get? b=UA->s.heap.get? b=UA:=λb q=>by
   cases z:s.heap.get? b with
   | none=>rfl
   | some o=>rw [Zs b o z] at q;cases q
  refine DX hfr (ff.of_keeps λb o q _=>⟨o,Zs b o q,rfl⟩) hf (Zs _ _ he) hd (Wy.mp h1).1 λh' fl=>k h' ⟨λb o q=>fl.keep b o (Zs b o q),λb o q=>fl.frm b o (Zs b o q),?_⟩
  obtain ⟨oe',ws,T',oT',us,x1,x2,x3,x4,x5,x6,x7⟩:=fl.ex
  exact ⟨oe',ws,T',oT',us,x1,x2,x3,x4,x5,back _ x6,x7⟩
end
noncomputable def XT(h0:V1)(H':Hp)(ea:UL)(cls:UB)(h:V1):Prop:=h0.get? ea=UA/\H' ea=UA/\
 ∃ oe vs T oT ts,h.get? ea=U7 oe/\oe.cls=cls/\oe.dict=UA/\oe.data= .fields vs/\vs[1]? =U7 (.ref T)/\h0.get? T=UA/\H' T=UA/\T≠ea/\h.get? T=U7 oT/\oT.data= .fields ts/\ts[3]? =U7 .none
noncomputable def CX1(P:Vn)(w:Vz):CXT:=λouter H s E e s'=>∃ ea cls H',e= .ref ea/\s'.os=s.os/\Za s'.gens/\Un (frs outer) [] H H' s.heap s'.heap/\HOk P w H' s'.heap/\XT s.heap H' ea cls s'.heap/\E cls UA H'
theorem Un.narrow{fs fs' ex:List UL}{H H':Hp}{h h':V1}(u:Un fs ex H H' h h')(hx:∀ b o,h.get? b=U7 o->b∉ex)(hf:∀ b o,h.get? b=U7 o->b∈fs->b∈fs'):Un fs' [] H H' h h' where
 keep:=λb o q n hb _=>u.keep b o q n (λz=>hb (hf b o q z)) (hx b o q)
 slot:=λb o q n _ _=>u.any q n (hx b o q)
 free:=λb o q n _=>u.free b o q n (hx b o q)
 there:=λb o q _=>u.there b o q (hx b o q)
 tups:=u.tups
 frzs:=u.frzs
 tbls:=u.tbls
theorem iq{h h' base base':V1}:∀ {l:List Env},h.FunFrames base l->(∀ b∈frs l,∀ o,h.get? b=U7 o->∃ sl,h'.get? b=U7 {o with slots:=sl})->(∀ b∈frs l,base'.get? b=UA)->h'.FunFrames base' l
 | [],_,_,_=>trivial
 | env::rest,⟨hk,⟨L,o,hf,hn,ho,hd⟩,hr⟩,ks,kb=>by
  have hm:L∈frs (env::rest):=by unfold frs;rw [Wz,hf];exact UN ..
  have hs:∀ b,b∈frs rest->b∈frs (env::rest):=λb hb=>by unfold frs at hb ⊢;rw [Wz,hf];exact UQ _ hb
  obtain ⟨sl,e⟩:=ks L hm o ho
  exact ⟨hk,⟨L,_,hf,kb L hm,e,hd⟩,iq hr (λb hb=>ks b (hs b hb)) λb hb=>kb b (hs b hb)⟩
theorem QU{P:Vn}{w:Vz}{H:Hp}{h h':V1}(x:HOk P w H h)(k:∀ b o u,H b=U7 u->h.get? b=U7 o->h'.get? b=U7 o):HOk P w H h':=λa o e=>
 (x a o e).stay (λb u hb q=>by
   rcases hb with rfl | hb
   ·exact k b u _ e q
   ·exact k b u _ hb q) (λ_ q=>q) λ_ _ q=>q
theorem LZ{P:Vn}{w:Vz}{H:Hp}{h:V1}{a:UL}:∀ {o:HO},ObjOk P w H h a o->∃ ob,h.get? a=U7 ob
 | .lst _,⟨_,_,_,_,e⟩=>⟨_,e⟩
 | .tup _,⟨_,_,_,o,e,_⟩=>⟨o,e⟩
 | .dK _,⟨_,_,_,_,o,_,_,e,_⟩=>⟨o,e⟩
 | .dT _ _,⟨_,_,_,_,o,_,e,_⟩=>⟨o,e⟩
 | .set _ _,⟨o,_,_,_,e,_⟩=>⟨o,e⟩
 | .ins _ _ _,⟨_,_,_,e,_⟩=>⟨_,e⟩
 | .own _,⟨o,e⟩=>⟨o,e⟩
 | .xd _,⟨_,⟨_,_,_,e,_⟩,_⟩=>⟨_,e⟩
 | .rng _ _,⟨_,_,_,e⟩=>⟨_,e⟩
 | .frz _ _,⟨e,_⟩=>⟨_,e⟩
 | .tbl _,e=>⟨_,e⟩
 | .met _ _,e=>⟨_,e⟩
 | .ext _,⟨_,⟨o,e⟩,_⟩=>⟨o,e⟩
theorem HC{P:Vn}{w:Vz}{fs:List UL}{ea:UL}{oe:WK}{H₀ H':Hp}{h₀ h h2:V1}(U:Un fs [] H₀ H' h₀ h)(hok:HOk P w H' h)(hfree:∀ b∈fs,H' b=UA)(e0:h₀.get? ea=UA)(e1:H' ea=UA)
  (fl:Flown fs ea oe h h2) (hd:oe.dict=UA):Un fs [] H₀ H' h₀ h2/\HOk P w H' h2/\XT h₀ H' ea oe.cls h2:=by
 have U1:Un fs [ea] H' H' h h2:=by
  refine ⟨λb o q _ hb hx=>fl.keep b o q (λz=>hx (by simp [z])) hb,λb o q _ hb _=>fl.frm b o q hb,λ_ _ _ z _=>z,λb o q hx=>?_,λ_ _ z=>z,λ_ _ _ z=>z,λ_ ps z=>⟨#[],by rw [z];simp⟩⟩
  by_cases hb:b∈fs
  ·obtain ⟨sl,z⟩:=fl.frm b o q hb
   exact ⟨_,z⟩
  ·exact ⟨o,fl.keep b o q (λz=>hx (by simp [z])) hb⟩
 refine ⟨KT.Un.narrow ((U.mono (λ_ z=>z) λ_ z=>(nomatch z)).trans U1) (λb o q hm=>?_) λ_ _ _ z=>z,QU hok λb o u hu q=>fl.keep b o q (λz=>?_) λhm=>?_,e0,e1,?_⟩
 ·have z:b=ea:=by simpa using hm
  rw [z,e0] at q
  cases q
 ·rw [z,e1] at hu;cases hu
 ·rw [hfree b hm] at hu;cases hu
 ·obtain ⟨oe',vs,T,oT,ts,x1,x2,x3,x4,x5,x6,x7,x8,x9,x10⟩:=fl.ex
  refine ⟨oe',vs,T,oT,ts,x1,x2,x3.trans hd,x4,x5,?_,?_,x7,x8,x9,x10⟩
  ·cases q:h₀.get? T with
   | none=>rfl
   | some o=>obtain ⟨o',z⟩:=U.there T o q (by simp);rw [x6] at z;cases z
  ·cases q:H' T with
   | none=>rfl
   | some u=>obtain ⟨o,z⟩:=LZ (hok T u q);rw [x6] at z;cases z
theorem XT.head{h0:V1}{H':Hp}{ea:UL}{cls:UB}{h:V1}(x:XT h0 H' ea cls h):∃ oe vs,h.get? ea=U7 oe/\oe.cls=cls/\oe.dict=UA/\oe.data= .fields vs/\Jq h ea vs:=by
 obtain ⟨_,_,oe,vs,T,oT,ts,he,hc,hdd,hd,h1,_,_,ne,hT,hdT,h3⟩:=x
 exact ⟨oe,vs,he,hc,hdd,hd,.inr ⟨T,oT,ts,h1,ne,hT,hdT,h3⟩⟩
theorem Ut{P:Vn}{w:Vz}{A:VG}{env:Env}{outer:List Env}{L ea:UL}{cls:UB}{base:V1}{H₀ H H':Hp}{s₀ s s':UG}{Q:Unit->UG->Prop}{Ee:UB->UG->Prop}
  (hfr:A.frames=U7 (env::outer)) (hf:env.frame=U7 L) (ff:s.heap.FunFrames base (env::outer)) (hfree:∀ b∈frs (env::outer),H b=UA)
  (U:Un (frs (env::outer)) [] H₀ H s₀.heap s.heap) (un:Un (frs (env::outer)) [] H H' s.heap s'.heap) (hok:HOk P w H' s'.heap) (xt:XT s.heap H' ea cls s'.heap)
  (k:∀ h2,Un (frs (env::outer)) [] H₀ H' s₀.heap h2->HOk P w H' h2->XT s₀.heap H' ea cls h2->Q () {s' with heap:=h2}):
  UZ (Vh P w) A (noteFrame (.ref ea) env) (λ_ s2=>UZ (Vh P w) A (setFlight (.ref ea) UA) Q Ee s2) Ee s':=by
 obtain ⟨oe,vs,he,hc,hdd,hd,hh⟩:=xt.head
 have slots:∀ b∈frs (env::outer),∀ o,s.heap.get? b=U7 o->∃ sl,s'.heap.get? b=U7 {o with slots:=sl}:=λb hb o e=>un.slot b o e (hfree b hb) hb (by simp)
 have free':∀ b∈frs (env::outer),H' b=UA:=λb hb=>by
  obtain ⟨_,o,e,_⟩:=ff.mem hb
  exact un.free b o e (hfree b hb) (by simp)
 refine fly (base:=PySem.W.hideAll s'.heap (frs (env::outer))) hfr (iq ff slots λb hb=>YO _ hb) hf he hd hh λh2 fl=>?_
 have e0:s₀.heap.get? ea=UA:=by
  cases q:s₀.heap.get? ea with
  | none=>rfl
  | some o=>obtain ⟨o',z⟩:=U.there ea o q (by simp);rw [xt.1] at z;cases z
 obtain ⟨y1,y2,y3⟩:=HC (U.trans un) hok free' e0 xt.2.1 fl hdd
 exact k h2 y1 y2 (hc ▸ y3)
theorem Hv{env:Env}{outer:List Env}{L:UL}{H H':Hp}{h h':V1}(hf:env.frame=U7 L)(hL:h.objs.size<=L)(U:Un (frs (env::outer)) [] H H' h h'):Un (frs outer) [] H H' h h':=
 KT.Un.narrow U (λ_ _ _ z=>nomatch z) λb o q hm=>by
  unfold frs at hm
  rw [Wz,hf] at hm
  rcases Vl.mp hm with z | z
  ·subst z;exact absurd (UT q) (Nat.not_lt.mpr hL)
  ·exact z
theorem HJ{env:Env}{outer:List Env}{L:UL}{H H':Hp}{h h':V1}(hf:env.frame=U7 L)(U:Un (frs outer) [] H H' h h'):Un (frs (env::outer)) [] H H' h h':=
 U.mono (λb hb=>by unfold frs;rw [Wz,hf];exact UQ _ hb) λ_ z=>z
theorem Bp{P:Vn}{w:Vz}{A:VG}{env:Env}{e:UB}{Q:Unit->UG->Prop}{Ee:UB->UG->Prop}{s:UG}(h:UZ (Vh P w) A (noteFrame e env) (λ_ s2=>UZ (Vh P w) A (setFlight e UA) Q Ee s2) Ee s):
  UZ (Vh P w) A (leaving env e) Q Ee s:=by
 unfold leaving
 exact U9 h
theorem Re{P:Vn}{w:Vz}{H:Hp}{h h':V1}{ea:UL}{cls:UB}{args:List UB}(hok:HOk P w H h)(hx:V1.MadeExcOf h h' ea cls args):h.get? ea=UA/\H ea=UA/\∃ oe vs,h'.get? ea=U7 oe/\oe.cls=cls/\oe.dict=UA/\oe.data= .fields vs/\Jq h' ea vs:=by
 obtain ⟨t,he,_,_⟩:=hx.there
 refine ⟨hx.new,?_,_,_,he,rfl,rfl,rfl,.inl rfl⟩
 cases q:H ea with
 | none=>rfl
 | some u=>obtain ⟨o,e⟩:=LZ (hok ea u q);rw [hx.new] at e;cases e
section
variable{CX:CXT}{P:Vn}{w:Vz}{K:UF}{mg:Vk->Option UB}{base:V1}{N:List Vk}{qual:Vk}{scope:Zf}{f:UL}{cd:UB}{A:VG}{outer:List Env}{s:UG}{H:Hp}{E:XK}{cv:Nat->UB}
theorem DV{X:Cx}{pins:List (UL×WK)}{σ:L2.St}{H1:Hp}{s1:UG}(I:Inv X pins σ H1 s1)(hs:X.stack=X.env::X.outer):X.env.frame=U7 X.env.locals:=by
 rcases I.ok.stk with z | z
 ·rw [hs] at z
  have:=congrArg Xj z
  simp at this
 ·exact z.2
theorem G9:FU (CX1 P w) (sy (CX1 P w) P w K mg base N qual scope f cd A outer s H E) ⟨cv,λc _ H'=>E (cv c) UA H'⟩:=by
 intro pins σ H1 s1 e s' I hcx
 obtain ⟨ea,cls,H',rfl,os,bare,un,hok,xt,c,rfl,hE⟩:=hcx
 have hf:=DV I rfl
 exact Bp (Ut (H₀:=H) (s₀:=s) I.ok.frames hf I.stack I.stkFree (HJ hf I.base) un hok xt λh2 y1 y2 y3=>⟨ea,cv c,H',rfl,os.trans I.os,bare,Hv hf I.ok.above y1,y2,y3,hE⟩)
noncomputable def Qk(cv:Nat->UB)(X:Cx)(XO:XOF):Prop:=∀ pins σ H s ea c h' args,Inv X pins σ H s->V1.MadeExcOf s.heap h' ea (cv c) args->XO c σ H->X.xe (.ref ea) {s with heap:=h'}
theorem GD:Qk cv (sy (CX1 P w) P w K mg base N qual scope f cd A outer s H E) (λc _ H'=>E (cv c) UA H'):=by
 intro pins σ H1 s1 ea c h' args I hx hE
 have hf:=DV I rfl
 obtain ⟨x1,x2,oe,vs,he,hc,hdd,hd,hh⟩:=Re I.hok hx
 have U:Un _ [] H H1 s.heap s1.heap:=HJ hf I.base
 have e0:s.heap.get? ea=UA:=by
  cases q:s.heap.get? ea with
  | none=>rfl
  | some o=>obtain ⟨o',z⟩:=U.there ea o q (by simp);rw [x1] at z;cases z
 refine Bp (fly (base:=PySem.W.hideAll h' (frs _)) I.ok.frames (iq I.stack (λb hb o e=>⟨o.slots,hx.keeps b o e⟩) λb hb=>YO _ hb) hf he hd hh λh2 fl=>?_)
 obtain ⟨y1,y2,y3⟩:=HC (U.trans (Un.kept hx.keeps)) (I.hok.kept hx.keeps) I.stkFree e0 x2 fl hdd
 exact ⟨ea,cv c,H1,rfl,I.os,I.bare,Hv hf I.ok.above y1,y2,hc ▸ y3,hE⟩
end
structure MF(mg:Vk->Option UB):Prop where
 mlen:mg "len" =UA
 mint:mg "int" =UA
 mbool:mg "bool" =UA
 mstr:mg "str" =UA
 mtuple:mg "tuple" =UA
 mlist:mg "list" =UA
 misi:mg "isinstance" =UA
 mrange:mg "range" =UA
 menum:mg "enumerate" =UA
 mzip:mg "zip" =UA
 mrev:mg "reversed" =UA
structure Body(P:Vn)(w:Vz)(cv:Nat->UB)(k:Nat)(X:Cx)(XO:XOF):Prop where
 C:BC X
 hr:Room k X.A
 L:FU (CX1 P w) X ⟨cv,XO⟩
 R:Qk cv X XO
 pw:Yz (Vh X.prog X.w) X.A X.env X.xe
 hc:X.calm=true
 nd:X.N.Nodup
theorem Mv{cv:Nat->UB}{N ps:List Vk}{vs:List V}{ds:List U8}{H:Hp}(hp:N.take ps.length=ps)(hl:vs.length=ps.length)(r:Reps (λ_ _=>True) H ds vs):
  SR ⟨cv,N.length,0⟩ H H (ds.map (λd=>U7 (.par d))++UW (N.length - ds.length) UA) (L2.bf N vs) H:=by
 have hle:ps.length<=N.length:=by
  have:=congrArg Xj hp
  rw [Ye] at this
  omega
 have hd:=r.length
 refine ⟨Same.refl H,Same.refl H,?_,?_,λ_=>UA,λa i e=>(nomatch e),λa i e=>(nomatch e),λi t e=>?_⟩
 ·simp;omega
 ·unfold L2.bf;simp;omega
 ·by_cases hi:i < ds.length
  ·rw [V4 (by simpa using hi)] at e
   rw [Vu] at e
   cases hx:ds[i]? with
   | none=>rw [hx] at e;cases e
   | some d=>
    rw [hx] at e
    cases e
    obtain ⟨v,hv,rv⟩:=r.get hx
    refine ⟨v,?_,rv.imp λ_ _ _=>rfl⟩
    unfold L2.bf
    rw [V4 (by simp;omega),Vu,hv]
    rfl
  ·rw [Vs (by simp;omega)] at e
   rw [X1] at e
   split at e<;>cases e
theorem jo{P:Vn}{w:Vz}{K:UF}{mg:Vk->Option UB}{base:V1}{cv:Nat->UB}{x qual:Vk}{st:VW}{f:UL}{fd:Yn}{N ps:List Vk}{k:Nat}{b:FS}(M:MF mg)(F:Fun K x qual st f fd)(S:FnScope N ps (zx st))
  (hbody:∀ (cdv:UB) (A:VG) (outer:List Env) (s:UG) (H:Hp) (E:XK),Body P w cv k (sy (CX1 P w) P w K mg base N qual (zx st) f cdv A outer s H E) (λc _ H'=>E (cv c) UA H')->
    PSs (sy (CX1 P w) P w K mg base N qual (zx st) f cdv A outer s H E) (vz st) (tS ⟨cv,N.length,0⟩ (λc _ H'=>E (cv c) UA H') b)):
  FnOk P w K mg base (CX1 P w) (k+1) f fd ps (spD cv ps.length (qj N.length b)):=by
 obtain ⟨oc,od,kV,doc,pm,an,cdv,ct,osl,rfl,lk,hcd⟩:=F.ex
 refine Qr lk hcd S (λvs H Q E h=>?_) λA outer s H vs Q E hr hsp=>?_
 ·obtain ⟨ds,r,hl,_⟩:=h
  exact hl
 obtain ⟨ds,r,hl,rp,hg,hok,hex⟩:=hsp
 refine ⟨tS ⟨cv,N.length,0⟩ (λc _ H'=>E (cv c) UA H') b,hbody cdv A outer s H E ⟨⟨hr.units,M.mlen,M.mint,M.mbool,M.mstr,M.mtuple,M.mlist,M.misi,M.mrange,M.menum,M.mzip,M.mrev⟩,hr,G9,GD,Yz.leaving,rfl,S.nd⟩,?_⟩
 have g:=Mv (cv:=cv) S.pre hl rp
 unfold qj at hg
 cases hb:b (ds.map (λd=>U7 (.par d))++UW (N.length - ds.length) UA) with
 | none=>rw [hb] at hg;cases hg
 | some y=>
  rw [hb] at hg
  refine ⟨H,H,_,y,g,hb,?_⟩
  cases y with
  | ret d=>cases hg;exact λv H' s rp=>hok d v H' rfl s rp
  | next ρ'=>cases hg;exact λσ' H' g'=>hok .none .non H' rfl g'.s1 rfl
  | exc c ρ'=>cases hg;exact λσ' H' g'=>hex c H' rfl g'.s1
  | brk ρ'=>cases hg
  | cont ρ'=>cases hg
  | retL d ds=>cases hg
noncomputable def Cx.tr(X:Cx)(xe:UB->UG->Prop)(pn:List (UL×WK)):Cx:={X with xe:=xe,pn:=pn}
noncomputable def Cx.hn(X:Cx)(e:UB):Cx:={X with A:=X.A.mark (U7 e),calm:=false,xe:=λ_ _=>False}
noncomputable def lu(cells:List (Vk×UL)):List (Vk×WH)->List (Vk×UL)->List (Vk×UL)
 | [],acc=>acc
 | (n,k)::r,acc=>lu cells r (if k == .free then (n,(cells.lookup n).getD 0)::acc else acc)
theorem JE{env:Env}:∀ (ns:List (Vk×WH)) (acc:List (Vk×UL)),(∀ z∈ns,z.2= .free->∃ c,env.cells.lookup z.1=U7 c)->
  (forIn ns acc λ(x:Vk×WH) (cs:List (Vk×UL))=>if x.2 == .free then (do let a <- cellOf env x.1;pure (WM ((x.1,a)::cs)):Sem _) else pure (WM cs))=(pure (lu env.cells ns acc):Sem _)
 | [],acc,_=>by simp [lu]
 | (n,k)::r,acc,h=>by
  rw [List.forIn_cons]
  have ih:=λacc'=>JE (env:=env) r acc' λz hz=>h z (UQ _ hz)
  by_cases hk:k= .free
  ·obtain ⟨c,hc⟩:=h (n,k) UN hk
   have hc:env.cells.lookup n=U7 c:=hc
   have e:cellOf env n=pure c:=by unfold cellOf;rw [hc]
   simp only [hk,beq_self_eq_true,if_true,e]
   exact (ih ((n,c)::acc)).trans (by simp [lu,hc])
  ·have hb:(k == WU)=false:=by simpa using hk
   simp only [hb,WA,if_false]
   exact (ih acc).trans (by simp [lu,hb])
theorem Ik{scope:Zf}{env:Env}(h:∀ z∈scope.names,z.2= .free->∃ c,env.cells.lookup z.1=U7 c):closureFor scope env=pure (lu env.cells scope.names []):=by
 have:=JE (env:=env) scope.names [] h
 unfold closureFor
 show (forIn scope.names [] _ >>= _)=_
 have e:(forIn scope.names ([]:List (Vk×UL)) λ(x:Vk×WH) (cs:List (Vk×UL))=>(match x with
  | (name,kind)=>if (kind == WU)=true then (do let a <- cellOf env name;pure (WM ((name,a)::cs)):Sem _) else pure (WM cs)))=pure (lu env.cells scope.names []):=this
 first
  | (rw [e];rfl)
  | exact congrArg (λm:Sem (List (Vk×UL))=>m >>= λcs=>pure cs) e
theorem Aa{cells:List (Vk×UL)}:∀ (ns:List (Vk×WH)) (acc:List (Vk×UL)),(∀ z∈ns,z.2= .free->∃ c,cells.lookup z.1=U7 c)->∀ x c,(x,c)∈lu cells ns acc->(x,c)∈acc∨cells.lookup x=U7 c
 | [],acc,_,x,c,h=>.inl h
 | (n,k)::r,acc,hf,x,c,h=>by
  unfold lu at h
  rcases Aa r _ (λz hz=>hf z (UQ _ hz)) x c h with z | z
  ·by_cases hk:k= .free
   ·obtain ⟨c',hc⟩:=hf (n,k) UN hk
    have hc:cells.lookup n=U7 c':=hc
    rw [if_pos (by simp [hk]),hc] at z
    rcases Vl.mp z with e | e
    ·cases e;exact .inr hc
    ·exact .inl e
   ·rw [if_neg (by simp [hk])] at z;exact .inl z
  ·exact .inr z
theorem G8{cells:List (Vk×UL)}:∀ (ns:List (Vk×WH)) (acc:List (Vk×UL)) x,(∃ c,acc.lookup x=U7 c)->∃ c,(lu cells ns acc).lookup x=U7 c
 | [],acc,x,h=>h
 | (n,k)::r,acc,x,h=>by
  unfold lu
  refine G8 r _ x ?_
  by_cases hk:k= .free
  ·rw [if_pos (by simp [hk])]
   obtain ⟨c,hc⟩:=h
   by_cases e:(x == n)=true
   ·exact ⟨_,by rw [WW,e]⟩
   ·have e:(x == n)=false:=by simpa using e
    exact ⟨c,by rw [WW,e];exact hc⟩
  ·rw [if_neg (by simp [hk])];exact h
theorem t7{cells:List (Vk×UL)}:∀ (ns:List (Vk×WH)) (acc:List (Vk×UL)) x,(x,WU)∈ns->∃ c,(lu cells ns acc).lookup x=U7 c
 | [],acc,x,h=>by cases h
 | (n,k)::r,acc,x,h=>by
  unfold lu
  rcases Vl.mp h with e | e
  ·cases e
   refine G8 r _ _ ?_
   rw [if_pos (by simp)]
   exact ⟨_,by rw [WW,beq_self_eq_true]⟩
  ·exact t7 r _ x e
theorem lq{β:Type}:∀ {l:List (Vk×β)} {x:Vk} {c:β},l.lookup x=U7 c->(x,c)∈l:=λh=>WO h
noncomputable def cxC(X:Cx)(scope:Zf)(N:List Vk)(cl:List (Vk×UL))(Ca:UL)(s2:UG)(H2:Hp)(fp:List UL):Cx:=
 {X with N:=N,s₀:=s2,H₀:=H2,env:=compEnvC scope cl Ca X.env,outer:=X.stack,ex:=fp,fn:=λ_=>false,pn:=[],xe:=λ_ _=>False}
structure BodyC(cv:Nat->UB)(k:Nat)(X:Cx):Prop where
 C:BC X
 hr:Room k X.A
 L:FU (CX1 X.prog X.w) X ⟨cv,λ_ _ _=>False⟩
theorem Ay{env:Env}:∀ {names:List (Vk×WH)} {x:Vk} {k:WH},(names.map λ(n,k)=>if (k == WU && env.scope.kind == .function && env.kindOf n == U7 .cell) then (n,WH.cell) else (n,k)).lookup x=U7 k->
  (k= .cell∨k= .free)->(∀ z∈names,z.2≠.cell)->(x,WU)∈names
 | [],_,_,h,_,_=>by simp at h
 | (n,k0)::r,x,k,h,hk,hc=>by
  rw [UR,WW] at h
  have hc':∀ z∈r,z.2≠.cell:=λz hz=>hc z (UQ _ hz)
  by_cases hb:(k0 == WU && env.scope.kind == .function && env.kindOf n == U7 .cell)=true
  ·have k0f:k0= .free:=by
     simp only [Ve,beq_iff_eq] at hb
     exact hb.1.1
   simp only [if_pos hb] at h
   by_cases e:(x == n)=true
   ·have:x=n:=by simpa using e
    subst this;subst k0f
    exact UN
   ·have e:(x == n)=false:=by simpa using e
    rw [e] at h
    exact UQ _ (Ay h hk hc')
  ·simp only [if_neg hb] at h
   by_cases e:(x == n)=true
   ·have:x=n:=by simpa using e
    subst this
    rw [e] at h
    cases h
    rcases hk with z | z
    ·exact absurd z (hc _ UN)
    ·rw [z];exact UN
   ·have e:(x == n)=false:=by simpa using e
    rw [e] at h
    exact UQ _ (Ay h hk hc')
section
variable{X:Cx}{XO:XOT}{y:Vk}{yp pos:Xz}{iter elt:Vw}{scope:Zf}{fi:FI}{f:FE}{ids:List Nat}{fr:List Vk}{k:Nat}
theorem P5{pins:List (UL×WK)}{σ:L2.St}{H2:Hp}{s2:UG}{fp:List UL}{Ca:UL}{N:List Vk}(I:Inv X pins σ H2 s2)(hf:∀ b∈fp,E6 X pins H2 b)(hfo:∀ b∈fp,∃ o,s2.heap.get? b=U7 o)(hC:s2.heap.objs.size<=Ca)
  (hkind:scope.kind= .function) (hcell:∀ z∈scope.names,z.2≠.cell) (hfree:∀ z∈scope.names,z.2= .free->∃ c,X.env.cells.lookup z.1=U7 c):
  (cxC X scope N (lu X.env.cells scope.names []) Ca s2 H2 fp).Ok:=by
 have sub:∀ x c,(lu X.env.cells scope.names []).lookup x=U7 c->X.env.cells.lookup x=U7 c:=λx c e=>by
  rcases Aa _ _ hfree x c (lq e) with z | z
  ·cases z
  ·exact z
 refine ⟨I.ok.mod,hkind,I.ok.glob,I.ok.blt,hC,λx z c h1 h2=>I.ok.inj x z c (sub x c h1) (sub z c h2),λx hx=>?_,λx c h=>(nomatch h),I.ok.hd,I.ok.frames,.inl rfl,λb hb=>?_,I.bs,UU I.ok.bsz I.sz,λb o e hb=>?_,λb hb hs=>?_,I.stack,I.stkFree⟩
 ·rcases hx with h | h
  ·exact t7 _ _ x (Ay (show (relabel scope X.env).names.lookup x=U7 _ from h) (.inl rfl) hcell)
  ·exact t7 _ _ x (Ay (show (relabel scope X.env).names.lookup x=U7 _ from h) (.inr rfl) hcell)
 ·obtain ⟨o,e⟩:=hfo b hb
  exact ⟨Vt (Vj (UT e) hC),λx c h=>(hf b hb).2.2.2.2.1 x c (sub x c h)⟩
 ·rcases (hf b hb).2.2.2.1 with z | z
  ·exact I.ok.noex b o e z
  ·exact absurd (UT (I.ok.bs b o e).1) (Nat.not_lt.mpr z)
 ·rcases Vl.mp (I.stkSub b hs) with z | z
  ·exact (hf b hb).2.1 z
  ·exact (hf b hb).2.2.1 z
theorem Uu{N:List Vk}{cl:List (Vk×UL)}{Ca:UL}{s2:UG}{H2:Hp}{fp:List UL}(C:BC X):BC (cxC X scope N cl Ca s2 H2 fp):=⟨C.hu,C.mlen,C.mint,C.mbool,C.mstr,C.mtuple,C.mlist,C.misi,C.mrange,C.menum,C.mzip,C.mrev⟩
end
end KT
namespace KT
open PySem
noncomputable def Jm{α:Type}(lt:α->α->Bool)(x:α):List α->List α
 | []=>[x]
 | y::ys=>if lt y x=true then y::Jm lt x ys else x::y::ys
noncomputable def q0{α:Type}(lt:α->α->Bool):List α->List α
 | []=>[]
 | x::xs=>Jm lt x (q0 lt xs)
noncomputable def ltI(a b:Int):Bool:=decide (a < b)
noncomputable def zt(r:List Int):U8:=.tuple (r.map .int)
noncomputable def si:List U8->Option (List (List Int))
 | []=>U7 []
 | .tuple xs::r=>(match yn xs,si r with
  | some a,U7 b=>U7 (a::b)
  | _,_=>UA)
 | _::_=>UA
noncomputable def Bl(xs:List U8):Option U8:=if xs.length < 64 then (match yn xs with
 | some ns=>U7 (.list ((q0 ltI ns).map .int))
 | none=>(match si xs with
  | some rs=>U7 (.list ((q0 g9 rs).map zt))
  | none=>UA)) else UA
noncomputable def dSorted:U8->Option U8
 | .list xs=>Bl xs
 | .tuple xs=>Bl xs
 | _=>UA
noncomputable def vw:FE->FE:=e1 dSorted true
theorem AG:∀ ns:List Int,lfs (ns.map .int)=true
 | []=>rfl
 | n::ns=>by simp [lfs,lf,AG ns]
theorem lfR(r:List Int):lf (zt r)=true:=by simp [zt,lf,AG]
theorem t5:∀ rs:List (List Int),lfs (rs.map zt)=true
 | []=>rfl
 | r::rs=>by simp [lfs,lfR,t5 rs]
theorem vv:∀ ns:List Int,yn (ns.map .int)=U7 ns
 | []=>rfl
 | n::ns=>by simp [yn,vv ns]
theorem BJ:∀ rs:List (List Int),si (rs.map zt)=U7 rs
 | []=>rfl
 | r::rs=>by
  show (match yn (r.map .int),si (rs.map zt) with
   | some a,U7 b=>U7 (a::b)
   | _,_=>UA)=_
  rw [vv,BJ rs]
theorem IJ{ns:List Int}(h:ns.length < 64):Bl (ns.map .int)=U7 (.list ((q0 ltI ns).map .int)):=by
 unfold Bl
 rw [if_pos (by simpa using h),vv]
theorem IE{rs:List (List Int)}(h:rs.length < 64):Bl (rs.map zt)=U7 (.list ((q0 g9 rs).map zt)):=by
 unfold Bl
 rw [if_pos (by simpa using h)]
 cases rs with
 | nil=>rfl
 | cons r rs=>rw [show yn ((r::rs).map zt)=UA from rfl,BJ]
abbrev FL:=List U8->Option (Option Nat×List U8)
noncomputable def je(i:Nat)(f:FE):FS:=λρ=>match ρ[i]? with
 | some (U7 (.lent xs))=>zi (f ρ) ρ λ_ d=>if (lf d && decide (xs.length < big))=true then U7 (.next (ρ.set i (U7 (.lent (xs++[d]))))) else UA
 | _=>UA
mutual
noncomputable def ltD:U8->U8->Option Bool
 | .int i,.int j=>U7 (decide (i < j))
 | .str x,.str y=>U7 (decide (x.cps.toList < y.cps.toList))
 | .tuple xs,.tuple ys=>ltDs xs ys
 | _,_=>UA
noncomputable def ltDs:List U8->List U8->Option Bool
 | [],[]=>U7 false
 | [],_::_=>U7 true
 | _::_,[]=>U7 false
 | x::xs,y::ys=>if Vf x y=true then ltDs xs ys else ltD x y
end
noncomputable def Hf(x y:U8):Option U8:=if (x.canLay0 && y.canLay0 && decide (x.depth<=60))=true then (ltD x y).map .bool else UA
noncomputable def NL:FE->FE->FE:=e2 Hf true
inductive Arg where
 | f (e:FE)
 | n (j:Nat)
 | x (j k:Nat)
noncomputable def ko:Option (Option Slot)->Option U8
 | some (U7 (.par d))=>U7 d
 | some (U7 (.loc d))=>U7 d
 | some (U7 (.own ds))=>U7 (.list ds)
 | _=>UA
noncomputable def di(i:Nat)(ρ:Rho):Arg->Option U8
 | .f e=>(match e ρ with
  | some (.ok _ d)=>if lf d=true then U7 d else UA
  | _=>UA)
 | .n j=>if j=i then UA else ko ρ[j]?
 | .x j k=>if j=i then UA else (match ko ρ[j]? with
  | some (.list ds)=>ds[k]?
  | _=>UA)
noncomputable def xb(i:Nat)(ρ:Rho):List Arg->Option (List U8)
 | []=>U7 []
 | a::as=>match di i ρ a,xb i ρ as with
  | some d,U7 ds=>U7 (d::ds)
  | _,_=>UA
noncomputable def A5:Option Slot->Option Slot
 | some (.own ds)=>U7 (.loc (.list ds))
 | some (.own2 ds)=>U7 (.loc (.list ds))
 | some (.par d)=>U7 (.par d)
 | some (.loc d)=>U7 (.loc d)
 | some (.ex c)=>U7 (.ex c)
 | _=>UA
noncomputable def au(ρ:Rho)(i:Nat):Option (List U8):=match (ρ[i]?:Option (Option Slot)) with
 | some (U7 (.own ds))=>U7 ds
 | some (U7 (.lent ds))=>U7 ds
 | _=>UA
noncomputable def As(ρ:Rho)(i:Nat)(ds:List U8):Option Slot:=match (ρ[i]?:Option (Option Slot)) with
 | some (U7 (.own _))=>U7 (.own ds)
 | some (U7 (.lent _))=>U7 (.lent ds)
 | _=>UA
noncomputable def dj(ρ:Rho)(i:Nat)(ds:List U8):Rho:=(ρ.map A5).set i (As ρ i ds)
abbrev FR:=List U8->List U8->Option (U8×List U8)
noncomputable def xj(g:FR)(as:List Arg)(i:Nat)(ρ:Rho):Option (U8×List U8):=match xb i ρ as,au ρ i with
 | some ds,U7 rs=>g ds rs
 | _,_=>UA
noncomputable def yi(j:Nat)(g:FR)(as:List Arg)(i:Nat):FS:=λρ=>match xj g as i ρ with
 | some (d,rs)=>if j=i then UA else U7 (.next ((dj ρ i rs).set j (U7 (.par d))))
 | none=>UA
noncomputable def n9(g:FR)(as:List Arg)(i:Nat):FS:=λρ=>match xj g as i ρ with
 | some (_,rs)=>U7 (.next (dj ρ i rs))
 | none=>UA
noncomputable def ab(ρ:Rho)(i:Nat):Bool:=match (ρ[i]?:Option (Option Slot)) with
 | some (U7 (.lent _))=>true
 | _=>false
noncomputable def u1(g:FR)(as:List Arg)(i:Nat):FS:=λρ=>match xj g as i ρ with
 | some (d,rs)=>if ab ρ i=true then U7 (.retL d rs) else UA
 | none=>UA
noncomputable def F5(g:FR)(as:List Arg)(i:Nat):FS:=λρ=>match xj g as i ρ with
 | some (.list xs,rs)=>if (ab ρ i && lfs xs)=true then U7 (.retL (.tuple xs) rs) else UA
 | _=>UA
noncomputable def ku(i:Nat)(f:FE):FS:=λρ=>match (ρ[i]?:Option (Option Slot)) with
 | some (U7 (.lent rs))=>zi (f ρ) ρ λl d=>if (lf d || decide (2<=l))=true then U7 (.retL d rs) else UA
 | _=>UA
noncomputable def me(i j:Nat):FS:=λρ=>match (ρ[i]?:Option (Option Slot)) with
 | some (U7 (.lent rs))=>(match (if j=i then UA else ko ρ[j]?) with
  | some d=>U7 (.retL d rs)
  | none=>UA)
 | _=>UA
noncomputable def DQ(i j k:Nat):FS:=λρ=>match (ρ[i]?:Option (Option Slot)) with
 | some (U7 (.lent rs))=>(match (if j=i then UA else ko ρ[j]?),(if k=i then UA else ko ρ[k]?) with
  | some d,U7 e=>U7 (.retL (.list [d,e]) rs)
  | _,_=>UA)
 | _=>UA
noncomputable def qo(n:Nat)(b:FS):FR:=λargs ds=>match b (args.map (λd=>U7 (.par d))++U7 (.lent ds)::UW (n - args.length - 1) UA) with
 | some (.retL d ds')=>U7 (d,ds')
 | _=>UA
noncomputable def A0(j i:Nat):FS:=λρ=>match ρ[i]? with
 | some (U7 (.own ds))=>if i=j then UA else U7 (.next ((ρ.set i UA).set j (U7 (.own ds))))
 | _=>UA
noncomputable def Au(i j:Nat):FS:=λρ=>match ρ[i]? with
 | some (U7 (.own xs))=>(match ρ[j]? with
  | some (U7 (.own (y::ys)))=>if i≠j/\xs.length < big/\lf y=true then U7 (.next ((ρ.set j (U7 (.own ys))).set i (U7 (.own (xs++[y]))))) else UA
  | _=>UA)
 | _=>UA
noncomputable def HZ:U8->U8->Option U8
 | .tuple xs,.int k=>if (lfs xs && decide (xs.length * k.toNat<=big) && decide (k.natAbs<=big) && decide (0 < xs.length))=true then U7 (.tuple (UW k.toNat xs).flatten) else UA
 | _,_=>UA
noncomputable def tq:FE->FE->FE:=e2 HZ true
abbrev Ent:=List Int×Int
noncomputable def v9(x:Ent):U8:=.tuple [.tuple (x.1.map .int),.int x.2]
noncomputable def jz(ts:List Ent):U8:=.dict (ts.map λx=>(.tuple (x.1.map .int),.int x.2))
noncomputable def Q5:U8×U8->Option Ent
 | (.tuple xs,.int n)=>(yn xs).map λk=>(k,n)
 | _=>UA
noncomputable def Cs:List (U8×U8)->Option (List Ent)
 | []=>U7 []
 | x::r=>match Q5 x,Cs r with
  | some a,U7 b=>U7 (a::b)
  | _,_=>UA
noncomputable def Bf:U8->Option (List Ent)
 | .dict kvs=>Cs kvs
 | _=>UA
noncomputable def O4:U8->Option Ent
 | .tuple [.tuple xs,.int n]=>(yn xs).map λk=>(k,n)
 | _=>UA
noncomputable def DP:List U8->Option (List Ent)
 | []=>U7 []
 | x::r=>match O4 x,DP r with
  | some a,U7 b=>U7 (a::b)
  | _,_=>UA
noncomputable def u3(ts:List Ent)(k:List Int)(n:Int):List Ent:=if (ts.any λx=>decide (x.1=k))=true then ts.map (λx=>if x.1=k then (x.1,n) else x) else ts++[(k,n)]
noncomputable def xa(ts:List Ent)(k:List Int):Option Int:=(ts.find? λx=>decide (x.1=k)).map (·.2)
theorem rk:∀ ts:List Ent,Cs (ts.map λx=>(.tuple (x.1.map .int),.int x.2))=U7 ts
 | []=>rfl
 | (k,n)::ts=>by
  have h:Q5 (.tuple (k.map .int),.int n)=U7 (k,n):=by
   show (yn (k.map .int)).map _=_
   rw [vv];rfl
  simp only [UR,Cs,h,rk ts]
theorem s8(ts:List Ent):Bf (jz ts)=U7 ts:=rk ts
theorem Es:∀ ts:List Ent,DP (ts.map v9)=U7 ts
 | []=>rfl
 | (k,n)::ts=>by
  have h:O4 (v9 (k,n))=U7 (k,n):=by
   show (yn (k.map .int)).map _=_
   rw [vv];rfl
  simp only [UR,DP,h,Es ts]
theorem cq:∀ {xs:List U8} {k:List Int},yn xs=U7 k->xs=k.map .int
 | [],_,e=>by cases e;rfl
 | .int i::r,k,e=>by
  simp only [yn,WR] at e
  obtain ⟨a,h,rfl⟩:=e
  simp [cq h]
 | .none::_,_,e=>by cases e
 | .bool _::_,_,e=>by cases e
 | .str _::_,_,e=>by cases e
 | .tuple _::_,_,e=>by cases e
 | .list _::_,_,e=>by cases e
 | .dict _::_,_,e=>by cases e
theorem LG{d:U8}{x:Ent}(e:O4 d=U7 x):d=v9 x:=by
 unfold O4 at e
 split at e
 ·rename_i xs n
  rw [WR] at e
  obtain ⟨k,h,rfl⟩:=e
  rw [cq h];rfl
 ·cases e
theorem BI:∀ {ds:List U8} {ts:List Ent},DP ds=U7 ts->ds=ts.map v9
 | [],_,e=>by cases e;rfl
 | d::ds,ts,e=>by
  unfold DP at e
  split at e
  ·rename_i a b h1 h2
   cases e
   rw [LG h1,BI h2];rfl
  ·cases e
noncomputable def ti(f:FE):FI:=λρ=>match f ρ with
 | some (.ok l d)=>(Bf d).map λts=>.ok l (ts.map v9)
 | some (.exc c)=>U7 (.exc c)
 | none=>UA
noncomputable def HW(i:Nat)(tg:FT)(body:FS):FS:=λρ=>match ρ[i]? with
 | some (U7 (.par d))=>(Bf d).bind λts=>qg tg body (ts.map v9) ρ
 | some (U7 (.loc d))=>(Bf d).bind λts=>qg tg body (ts.map v9) ρ
 | _=>UA
noncomputable def iC(ds:List U8):FI:=λ_=>U7 (.ok 2 ds)
noncomputable def BW(i:Nat):FS:=λρ=>U7 (.next (ρ.set i (U7 (.dct []))))
noncomputable def u9(neg:Bool)(i j:Nat)(f:FE):FS:=λρ=>match ρ[i]? with
 | some (U7 (.dct ts))=>(match za j ρ with
  | some (.ok _ (.tuple xs))=>(match yn xs with
   | some k=>zi (f ρ) ρ λ_ d=>(match d with
    | .int n=>if ts.length < big then U7 (.next (ρ.set i (U7 (.dct (u3 ts k ((xa ts k).getD 0+(if neg then -n else n))))))) else UA
    | _=>UA)
   | none=>UA)
  | _=>UA)
 | _=>UA
noncomputable def dictOf(ts:List Ent):List Ent:=ts.foldl (λacc x=>u3 acc x.1 x.2) []
noncomputable def JF:U8->Option U8
 | .list ds=>if ds.length<=big then (DP ds).map λts=>jz (dictOf ts) else UA
 | _=>UA
noncomputable def JZ:FE->FE:=e1 JF true
noncomputable def Kw(d:U8):Option U8:=(Bf d).map λts=>.int ts.length
noncomputable def Ko:FE->FE:=e1 Kw true
noncomputable def Hw(j i:Nat):FS:=λρ=>match ρ[i]? with
 | some (U7 (.loc d))=>U7 (.next (ρ.set j (U7 (.loc d))))
 | _=>UA
noncomputable def ro(fa fb:FE):FE:=λρ=>zk (fa ρ) λ_ x=>match x with
 | .tuple xs=>(match yn xs with
  | some ns=>zk (fb ρ) λ_ y=>(match y with
   | .int i=>U7 (.ok 2 (.int (ns.countP λn=>decide (n=i):Nat)))
   | _=>UA)
  | none=>UA)
 | _=>UA
noncomputable def tc1(d:U8):Option Rho:=U7 [U7 (.par d)]
noncomputable def tc2:U8->Option Rho
 | .tuple [x,y]=>U7 [U7 (.par x),U7 (.par y)]
 | _=>UA
noncomputable def yt(tf:U8->Option Rho)(tst elt:FE)(env:Rho):List U8->Option (List U8)
 | []=>U7 []
 | d::ds=>match tf d with
  | none=>UA
  | some ρ1=>match tst (ρ1++env) with
   | some (.ok _ (.bool true))=>(match elt (ρ1++env) with
    | some (.ok _ x)=>if lf x=true then (yt tf tst elt env ds).map (x::·) else UA
    | _=>UA)
   | some (.ok _ (.bool false))=>yt tf tst elt env ds
   | _=>UA
noncomputable def ue(it:FI)(ids:List Nat)(tf:U8->Option Rho)(tst elt:FE):FE:=λρ=>match it ρ with
 | none=>UA
 | some (.exc c)=>U7 (.exc c)
 | some (.ok _ ds)=>if ds.length<=big then (yt tf tst elt (ids.map λi=>du ρ[i]?) ds).map λxs=>.ok 2 (.list xs) else UA
noncomputable def OU(c:U8)(ds es:List U8):U8:=.dict [(c,.list ds),(.none,.list es)]
noncomputable def Mt(fa fb fc:FE):FE:=λρ=>zk (fa ρ) λ_ x=>zk (fb ρ) λl y=>zk (fc ρ) λm z=>match y,z with
 | .list ds,.list es=>if (lf x && lfs ds && lfs es && decide (2<=l) && decide (2<=m))=true then U7 (.ok 2 (OU x ds es)) else UA
 | _,_=>UA
noncomputable def Qc(l:Nat):U8->Option Slot
 | .dict [(c,.list ds),(.none,.list es)]=>if 2<=l then U7 (.duo c ds es) else UA
 | d=>asg l d
noncomputable def nu(i:Nat)(f:FE):FS:=λρ=>zi (f ρ) ρ λl d=>(Qc l d).map λs=>.next (ρ.set i (U7 s))
noncomputable def ux(fst:Bool)(i:Nat)(f:FE):FS:=λρ=>match (ρ[i]?:Option (Option Slot)) with
 | some (U7 (.duo c ds es))=>zi (f ρ) ρ λ_ d=>if (lf d && decide (ds.length < big) && decide (es.length < big))=true then U7 (.next (ρ.set i (U7 (if fst then .duo c (ds++[d]) es else .duo c ds (es++[d]))))) else UA
 | _=>UA
end KT
namespace KT
open PySem PySem.Spec PyProof.Rows L2
theorem De{env:Env}:∀ {names:List (Vk×WH)} {x:Vk},names.lookup x=U7 .free->
  (names.map λ(n,k)=>if (k == WU && env.scope.kind == .function && env.kindOf n == U7 .cell) then (n,WH.cell) else (n,k)).lookup x=U7 .cell∨
  (names.map λ(n,k)=>if (k == WU && env.scope.kind == .function && env.kindOf n == U7 .cell) then (n,WH.cell) else (n,k)).lookup x=U7 .free
 | [],_,h=>by simp at h
 | (n,k)::r,x,h=>by
  rw [UR,WW]
  rw [WW] at h
  by_cases hb:(k == WU && env.scope.kind == .function && env.kindOf n == U7 .cell)=true
  ·simp only [if_pos hb]
   by_cases e:(x == n)=true
   ·rw [e];exact .inl rfl
   ·have e:(x == n)=false:=by simpa using e
    rw [e] at h ⊢
    exact De h
  ·simp only [if_neg hb]
   by_cases e:(x == n)=true
   ·rw [e] at h ⊢;exact .inr h
   ·have e:(x == n)=false:=by simpa using e
    rw [e] at h ⊢
    exact De h
noncomputable def frv(σ:L2.St)(ids:List Nat):L2.St:=ids.map λi=>(σ[i]?).join
theorem E8{prog:Vn}{w:Vz}{A:VG}{elt target iter:Vw}{ifs:List Vw}{scope:Zf}{pos:Xz}{it acc:UB}{env:Env}{R:Result->UG->Prop}{s:UG}(I:Nat->UG->Prop)
  (turn:∀ n s,I n s->UZ (Vh prog w) A (Zq it) (λr s₁=>match r with
    | none=>R (.ok .next) s₁
    | some v=>UZ (Vh prog w) A (YX target it v) (λ_ s₁'=>UZ (Vh prog w) A (assign target env v) (λ_ s₂=>
     UZ (Vh prog w) A (forIn ifs true λc r=>if r=true then do let ok <- isTrue c env (VN c env);pure (WM ok) else pure (WM r)) (λok s₃=>
      if ok=true then UZ (Vh prog w) A (VN elt env) (λx s₄=>
       UZ (Vh prog w) A (call (.builtin "list.append") [acc,x]) (λ_ s₅=>∃ m,m < n/\I m s₅) (notedBy (Vh prog w) A env λe s'=>R (.error e) s') s₄) (notedBy (Vh prog w) A env λe s'=>R (.error e) s') s₃
      else ∃ m,m < n/\I m s₃) (notedBy (Vh prog w) A env λe s'=>R (.error e) s') s₂) (notedBy (Vh prog w) A env λe s'=>R (.error e) s') s₁') (notedBy (Vh prog w) A env λe s'=>R (.error e) s') s₁) (notedBy (Vh prog w) A env λe s'=>R (.error e) s') s)
  (n:Nat) (h:I n s):Yu (Vh prog w) A (.compLoop (.ListComp elt [⟨target,iter,ifs,0⟩] scope pos) 0 it acc env) R s:=by
 refine codeAny_loop rfl I (λn s hI=>?_) n h
 show UZ _ A ((compTurn (.ListComp elt [⟨target,iter,ifs,0⟩] scope pos) 0 it acc env).onRaise (λx=>do noteFrame x env;theTreesLotGoes x)) _ _ s
 refine wpAny_noted ?_
 rw [compTurn_list]
 refine U9 (wpAny_standAt (U9 (W6 (turn n s hI) (λr s₁ h₁=>?_) λ_ _ h'=>h')))
 cases r with
 | none=>exact UK h₁
 | some v=>
  refine U9 (W6 h₁ (λ_ s₁' h₁'=>?_) λ_ _ h'=>h')
  refine U9 (W6 h₁' (λ_ s₂ h₂=>U9 (W6 h₂ (λok s₃ h₃=>?_) λ_ _ h'=>h')) λ_ _ h'=>h')
  cases ok with
  | false=>exact UK ⟨rfl,h₃⟩
  | true=>exact U9 (U9 (W6 h₃ (λx s₄ h₄=>U9 (W6 h₄ (λ_ s₅ h₅=>UK (UK ⟨rfl,h₅⟩)) λ_ _ h'=>h')) λ_ _ h'=>h'))
noncomputable def PTs(X:Cx)(ifs:List Vw)(t:TT):Prop:=
 ∀ (pins:List (UL×WK)) (s:UG) (σ:L2.St) (H:Hp) (Q:Bool->Hp->Prop),Inv X pins σ H s->t σ H Q->UZ (Vh X.prog X.w) X.A (forIn ifs true λc r=>if r=true then do let ok <- isTrue c X.env (VN c X.env);pure (WM ok) else pure (WM r)) (TP X pins σ Q) X.xe s
theorem JM{X:Cx}{c:Vw}{t:TT}(h:PT X c t):PTs X [c] t:=λpins s σ H Q I q=>wpAny_tests_one (h pins s σ H Q I q)
theorem Pe{X:Cx}{XO:XOT}:PTs X [] (yd (tF XO (eC (.bool true)))):=λpins s σ H Q I ⟨H₀,Hs,ρ,r,g,e,kk⟩=>by
 obtain ⟨k,e1,q⟩:=kk.give (v:=.bl true) e (Same.refl _) rfl
 cases e1
 exact wpAny_tests_nil ⟨H,I,q⟩
structure TgC(X:Cx)(scope:Zf)(N:List Vk)(tg:Vw)(n:Nat)(tf:U8->Option Rho):Prop where
 ex:∃ g:TG,(∀ cl Ca s2 H2 fp,PG (cxC X scope N cl Ca s2 H2 fp) tg g)/\∀ (ws σf:L2.St) (H:Hp) (d:U8) (x:V) (Q:L2.St->Hp->Prop) (ρ1:Rho),ws.length=n->Rep (λ_ _=>False) H d x->tf d=U7 ρ1->
  (∀ ws':L2.St,ws'.length=n->ρ1.length=n->(∀ (i:Nat) (t:Slot),ρ1[i]? =U7 (U7 t)->∃ v d',t= .par d'/\ws'[i]? =U7 (U7 v)/\Rep (λ_ _=>False) H d' v)->Q (ws'++σf) H)->g x (ws++σf) H Q
section
variable{X:Cx}{scope:Zf}{y z:Vk}{yp zp tp:Xz}{fr:List Vk}{k1:Nat}
theorem J5(nd:(y::fr).Nodup:=by decide +kernel)(hy:scope.names.lookup y=U7 .local:=by rfl):TgC X scope ([y]++fr) (.Name y yp) 1 tc1:=
 ⟨Bg 0,λcl Ca s2 H2 fp=>ph (X:=cxC X scope ([y]++fr) cl Ca s2 H2 fp) nd rfl (.inl (WI hy)) (.inr (WI hy)),λws σf H d x Q ρ1 hl r e q=>by
   cases e
   match ws,hl with
   | [w],_=>
    refine q [U7 x] rfl rfl λi t e=>?_
    match i,e with
    | 0,e=>cases e;exact ⟨x,d,rfl,rfl,r⟩
    | i+1,e=>cases e⟩
theorem Pz(hc:X.calm=true)(nd:(y::z::fr).Nodup:=by decide +kernel)(hy:scope.names.lookup y=U7 .local:=by rfl)(hz:scope.names.lookup z=U7 .local:=by rfl):TgC X scope ([y,z]++fr) (.Tuple [.Name y yp,.Name z zp] k1 tp) 2 tc2:=
 ⟨Sg X.K 2 (GI (Bg 0) (GI (Bg 1) gNil)),λcl Ca s2 H2 fp=>Oi (X:=cxC X scope ([y,z]++fr) cl Ca s2 H2 fp) hc (Ar (ph nd rfl (.inl (WI hy)) (.inr (WI hy))) (Ar (ph nd rfl (.inl (WI hz)) (.inr (WI hz))) JY)),λws σf H d x Q ρ1 hl r e q=>by
   unfold tc2 at e
   split at e
   ·rename_i d1 d2
    cases e
    obtain ⟨p,vs,rfl,hp,rs⟩:=r
    obtain ⟨v1,vr,rfl,r1,rs⟩:=rs
    obtain ⟨v2,vr,rfl,r2,rs⟩:=rs
    have rs:vr=[]:=rs
    subst rs
    match ws,hl with
    | [w1,w2],_=>
     refine ⟨p,_,rfl,.inl hp,rfl,v1,_,rfl,v2,_,rfl,rfl,q [U7 v1,U7 v2] rfl rfl λi t e=>?_⟩
     match i,e with
     | 0,e=>cases e;exact ⟨v1,d1,rfl,rfl,r1⟩
     | 1,e=>cases e;exact ⟨v2,d2,rfl,rfl,r2⟩
     | i+2,e=>cases e
   ·cases e⟩
end
section
variable{X:Cx}{XO:XOT}{pos:Xz}{iter elt tgt:Vw}{ifs:List Vw}{scope:Zf}{fi:FI}{f ft:FE}{ids:List Nat}{ys fr:List Vk}{k:Nat}{tf:U8->Option Rho}
theorem L7{pins:List (UL×WK)}{σ:L2.St}{H2:Hp}{s2:UG}{fp:List UL}{Ca:UL}{h1:V1}{t1:Nat}{m:Vk->Option UB}(I:Inv X pins σ H2 s2)(ok:(cxC X scope (ys++fr) (lu X.env.cells scope.names []) Ca s2 H2 fp).Ok)
  (hfree:∀ z∈scope.names,z.2= .free->∃ c,X.env.cells.lookup z.1=U7 c) (hC:s2.heap.objs.size<=Ca) (old:∀ b o,s2.heap.get? b=U7 o->h1.get? b=U7 o) (hns:h1.Ns Ca m)
  (hids:ids.map (λi=>X.N[i]?)=fr.map U7) (hfr:∀ n∈fr,scope.names.lookup n=U7 .free/\X.env.scope.names.lookup n=U7 .cell):
  Inv (cxC X scope (ys++fr) (lu X.env.cells scope.names []) Ca s2 H2 fp) [] (UW ys.length UA++frv σ ids) H2 {s2 with heap:=h1,toks:=t1}:=by
 have sub:∀ x c,(lu X.env.cells scope.names []).lookup x=U7 c->X.env.cells.lookup x=U7 c:=λx c e=>by
  rcases Aa _ _ hfree x c (lq e) with z | z
  ·cases z
  ·exact z
 have hlen:ids.length=fr.length:=by simpa using congrArg Xj hids
 refine ⟨ok,rfl,I.bare,Un.kept old,⟨m,hns,λi x v e1 e2 e3=>?_⟩,λx c e=>?_,I.hok.fresh hC,λx c e=>I.freeC x c (sub x c e),λp hp=>(nomatch hp),I.hok.kept old,by simp [cxC,frv,hlen]⟩
 ·by_cases hlt:i < ys.length
  ·have e2:(UW ys.length UA++frv σ ids)[i]? =U7 (U7 v):=e2
   rw [V4 (by simpa using hlt),X1,if_pos hlt] at e2
   cases e2
  ·have e1:(ys++fr)[i]? =U7 x:=e1
   have e2:(UW ys.length UA++frv σ ids)[i]? =U7 (U7 v):=e2
   rw [Vs (by omega)] at e1
   rw [Vs (by simpa using hlt),YF] at e2
   generalize i - ys.length=j at e1 e2
   have e2:(ids.map λi=>(σ[i]?).join)[j]? =U7 (U7 v):=e2
   rw [Vu] at e2
   cases hj:ids[j]? with
   | none=>rw [hj] at e2;cases e2
   | some i'=>
    rw [hj] at e2
    have e2:(σ[i']?).join=U7 v:=Vx e2
    have hσ:σ[i']? =U7 (U7 v):=by
     cases q:σ[i']? with
     | none=>rw [q] at e2;cases e2
     | some w=>rw [q] at e2;cases w with
      | none=>cases e2
      | some w=>cases e2;rfl
    have hN:X.N[i']? =U7 x:=by
     have:=congrArg (λl=>l[j]?) hids
     simp only [Vu,hj,e1,Va] at this
     exact Vx this
    obtain ⟨hf1,hf2⟩:=hfr x (YQ e1)
    obtain ⟨m0,_,hl⟩:=I.loc
    obtain ⟨u,ru,lk⟩:=hl i' x v hN hσ (.inr (.inl hf2))
    refine ⟨u,ru,.inr ⟨De (env:=X.env) hf1,?_⟩⟩
    rcases lk with ⟨z,_⟩ | ⟨_,c,hc,hcell⟩
    ·rw [show X.env.kindOf x=U7 WH.cell from hf2] at z;cases z
    ·obtain ⟨c',hc'⟩:=t7 (cells:=X.env.cells) scope.names [] x (lq hf1)
     have:=sub x c' hc'
     rw [hc] at this
     cases this
     obtain ⟨o,ho,hd⟩:=hcell
     exact ⟨c,hc',o,old c o ho,hd⟩
 ·obtain ⟨v,o,ho,hd⟩:=I.cell x c (sub x c e)
  exact ⟨v,o,old c o ho,hd⟩
theorem Pj{H₀ Hs H H1:Hp}{ρ ρ1:Rho}{σ ws:L2.St}(g:G XO.cv H₀ Hs ρ σ H)(s:Same H H1)(hw:ws.length=ρ1.length)(rx:∀ (i:Nat) (t:Slot),ρ1[i]? =U7 (U7 t)->∃ v d',t= .par d'/\ws[i]? =U7 (U7 v)/\Rep (λ_ _=>False) H1 d' v):
  G XO.cv H1 H1 (ρ1++ids.map λi=>du ρ[i]?) (ws++frv σ ids) H1:=by
 refine ⟨Same.refl _,Same.refl _,λi t e=>?_⟩
 by_cases hlt:i < ρ1.length
 ·rw [V4 hlt] at e
  rw [V4 (by omega)]
  obtain ⟨v,d',rfl,e1,r⟩:=rx i t e
  exact ⟨v,e1,r.imp λ_ _ z=>z.elim⟩
 ·rw [Vs (by omega)] at e
  rw [Vs (by omega),hw]
  generalize i - ρ1.length=j at e ⊢
  rw [Vu] at e
  show VS XO.cv H1 (frv σ ids)[j]? H1 t
  unfold frv
  rw [Vu]
  cases hj:ids[j]? with
  | none=>rw [hj] at e;cases e
  | some i'=>
   rw [hj] at e
   have e:du ρ[i']? =U7 t:=Vx e
   unfold du at e
   split at e
   ·rename_i d' hρ
    cases e
    obtain ⟨v,h1,h2⟩:=g.vr i' _ hρ
    exact ⟨v,by simp [h1],h2.same s⟩
   ·rename_i d' hρ
    cases e
    obtain ⟨v,h1,h2⟩:=g.vr i' _ hρ
    exact ⟨v,by simp [h1],(h2.imp λ_ _ _=>trivial).same s⟩
   ·rename_i d' hρ
    cases e
    obtain ⟨v,h1,h2⟩:=g.vr i' _ hρ
    exact ⟨v,by simp [h1],(h2.imp λ_ _ _=>trivial).same s⟩
   ·cases e
theorem Fe(C:BC X)(hr:Room k X.A)(hc:X.calm=true)(hi:PI X tgt iter (tI XO fi))(hT:TgC X scope (ys++fr) tgt ys.length tf)
  (ht:∀ cl Ca s2 H2 fp,BodyC XO.cv k (cxC X scope (ys++fr) cl Ca s2 H2 fp)->PTs (cxC X scope (ys++fr) cl Ca s2 H2 fp) ifs (yd (tF ⟨XO.cv,λ_ _ _=>False⟩ ft)))
  (he:∀ cl Ca s2 H2 fp,BodyC XO.cv k (cxC X scope (ys++fr) cl Ca s2 H2 fp)->PE (cxC X scope (ys++fr) cl Ca s2 H2 fp) elt (tF ⟨XO.cv,λ_ _ _=>False⟩ f))
  (hkind:scope.kind= .function:=by rfl) (hcell:∀ z∈scope.names,z.2≠.cell:=by decide +kernel) (hnames:∀ z∈scope.names,z.2= .local->scope.names.lookup z.1=U7 .local:=by decide +kernel)
  (hids:ids.map (λi=>X.N[i]?)=fr.map U7:=by rfl)
  (hfr:∀ n∈fr,scope.names.lookup n=U7 .free/\X.env.scope.names.lookup n=U7 .cell:=by first | (dsimp only [sy,Zi,Cx.tr,Cx.hn,cxC,compEnvC];decide +kernel) | decide +kernel) (hall:∀ z∈scope.names,z.2= .free->X.env.scope.names.lookup z.1=U7 .cell:=by first | (dsimp only [sy,Zi,Cx.tr,Cx.hn,cxC,compEnvC];decide +kernel) | decide +kernel)
  (hs:∀ x,Xh iter X.env x=pure x:=by intro _;rfl):PE X (.ListComp elt [⟨tgt,iter,ifs,0⟩] scope pos) (tF XO (ue fi ids tf ft f)):=by
 intro pins s σ H Q I ⟨H₀,Hs,ρ,r,g,e,kk⟩
 have hfree:∀ z∈scope.names,z.2= .free->∃ c,X.env.cells.lookup z.1=U7 c:=λz hz hk=>I.ok.has z.1 (.inl (hall z hz hk))
 rw [eval_ListComp]
 refine wpAny_comprehension_free (use:=UA) rfl hs (Ik hfree) hkind hnames ?_
 unfold ue at e
 cases hfi:fi ρ with
 | none=>rw [hfi] at e;cases e
 | some ri=>
 rw [hfi] at e
 cases ri with
 | exc c=>
  refine thn (hi pins s σ H (λ_ _=>False) I ⟨H₀,Hs,ρ,.exc c,g,hfi,λl ds J H1 z=>(nomatch z),λc' H' z sm=>?_⟩) λv s1 h1=>thn h1 λitv s2 h2=>?_
  ·cases z
   exact kk.2 c H' (Vx e).symm sm
  ·obtain ⟨_,_,_,_,_,_,_,_,_,_,z⟩:=h2
   exact z.elim
 | ok l ds=>
 dsimp only at e
 split at e
 rotate_left
 ·cases e
 rename_i hbig
 cases hgo:yt tf ft f (ids.map λi=>du ρ[i]?) ds with
 | none=>rw [hgo] at e;cases e
 | some xs=>
 rw [hgo] at e
 have er:r= .ok 2 (.list xs):=(Vx e).symm
 subst er
 refine thn (hi pins s σ H (λJ H1=>Same H H1/\MX H₀ Hs l ds J H1) I ⟨H₀,Hs,ρ,.ok l ds,g,hfi,λl' ds' J H1 z sm it=>?_,λc H' z=>(nomatch z)⟩) λv s1 h1=>thn h1 λitv s2 h2=>?_
 ·cases z
  exact ⟨sm,it⟩
 obtain ⟨it,fp,tn,J,H2,rfl,I2,T,st2,f2,sm2,hfrom⟩:=h2
 have hy2:i4 H2 J ds:=hfrom H2 (λ_ _ z=>z) λ_ _ z=>z.rd
 obtain ⟨gt,hPG,hG⟩:=hT.ex
 have fobj:∀ b∈fp,∃ o,s2.heap.get? b=U7 o:=λb hb=>let ⟨o,e,_⟩:=T.obj 0 _ st2 b hb;⟨o,e⟩
 refine VI (wpAny_newFunctionEnv hcell (by intro z hz;simp at hz) (λh1 hns hsb=>?_) hkind)
 dsimp only at hns hsb ⊢
 generalize hHp:s2.heap.push {cls:=.type "list",dict:=UA,data:=.seq ([]:List UB).toArray} =Hp1 at hns hsb ⊢
 have hCz:Hp1.objs.size=s2.heap.objs.size+1:=by rw [<- hHp,YB]
 have hDC:s2.heap.objs.size≠Hp1.objs.size:=by omega
 have hC:s2.heap.objs.size<=Hp1.objs.size:=by omega
 have old:∀ b o,s2.heap.get? b=U7 o->h1.get? b=U7 o:=λb o q=>by
  have:=UT q
  exact hsb.extBut b o (Vt (Vj this hC)) (UH _ (hHp ▸ UH _ q))
 have hD1:h1.get? s2.heap.objs.size=U7 {cls:=.type "list",data:=.seq ([]:List UB).toArray 0}:=hsb.extBut _ _ hDC (UH _ (hHp ▸ US _ rfl))
 have ok:=P5 (N:=ys++fr) (scope:=scope) I2 f2 fobj hC hkind hcell hfree
 generalize hcl:lu X.env.cells scope.names []=cl at ok ⊢
 have sub:∀ x c,cl.lookup x=U7 c->X.env.cells.lookup x=U7 c:=λx c q=>by
  subst hcl
  rcases Aa _ _ hfree x c (lq q) with z | z
  ·cases z
  ·exact z
 generalize hCa:Hp1.objs.size=Ca at hns hsb hDC hC ok ⊢
 generalize hDa:s2.heap.objs.size=Da at hDC hC hD1 hCz hCa
 have ltD:∀ b o,s2.heap.get? b=U7 o->b < Da:=λb o q=>by
  have:=UT q
  rw [hDa] at this
  exact this
 have hDf:Da∉fp:=λhm=>by
  obtain ⟨o,q⟩:=fobj Da hm
  exact absurd (ltD _ _ q) (Wo Da)
 have hDs:Da∉frs X.stack:=λhm=>by
  obtain ⟨_,o,q,_⟩:=I2.stack.mem hm
  exact absurd (ltD _ _ q) (Wo Da)
 have hDcell:∀ x c,cl.lookup x=U7 c->c≠Da:=λx c q z=>by
  obtain ⟨v,w⟩:=I2.cell x c (sub x c q)
  obtain ⟨o,q',_⟩:=w
  exact absurd (z ▸ ltD _ _ q') (Wo Da)
 have fpok:∀ {H':Hp} {ps:List (UL×WK)},(∀ b∈fp,H' b=UA)->(∀ p∈ps,p.1∉fp)->∀ b∈fp,E6 (cxC X scope (ys++fr) cl Ca s2 H2 fp) ps H' b:=λ{H' ps} hn hp b hb=>by
  obtain ⟨o,q⟩:=fobj b hb
  refine ⟨hn b hb,Vt (Vj (ltD _ _ q) hC),λz=>?_,.inl hb,λx c z=>(f2 b hb).2.2.2.2.1 x c (sub x c z),λp hp' z=>?_⟩
  ·rcases Vl.mp (I2.stkSub b z) with z | z
   ·exact (f2 b hb).2.1 z
   ·exact (f2 b hb).2.2.1 z
  ·exact hp p hp' (z ▸ hb)
 have hB:BodyC XO.cv k (cxC X scope (ys++fr) cl Ca s2 H2 fp):=⟨Uu C,hr,λps σ' H' s' ev s'' J' z=>by
  obtain ⟨_,_,_,_,_,_,_,_,_,_,_,w⟩:=z
  exact w.elim⟩
 have I0:Inv (cxC X scope (ys++fr) cl Ca s2 H2 fp) [] (UW ys.length UA++frv σ ids) H2 {s2 with heap:=h1,toks:=s2.toks+([]:List (Vk×UB)).length}:=by
  subst hcl
  exact L7 I2 ok hfree (by rw [hDa];exact hC) old hns hids hfr
 have loop:Yu (Vh X.prog X.w) X.A (.compLoop (.ListComp elt [⟨tgt,iter,ifs,0⟩] scope pos) 0 (.ref it) (.ref Da) (compEnvC scope cl Ca X.env)) (compPost (Vh X.prog X.w) X.A X.xe UA (EP X pins σ Q) (.ref Da) Ca) {s2 with heap:=h1,toks:=s2.toks+([]:List (Vk×UB)).length}:=by
  refine E8 (λn s'=>∃ i H' w0 its nn dv done rest,Inv (cxC X scope (ys++fr) cl Ca s2 H2 fp) [] (w0++frv σ ids) H' s'/\w0.length=ys.length/\tn i s'.heap/\(∀ b∈fp,H' b=UA)/\s'.heap.get? Da=U7 {cls:=.type "list",data:=.seq its.toArray nn}/\H' Da=UA/\Same H2 H'/\
   Vals dv its/\Reps (λ_ _=>False) H' done dv/\yt tf ft f (ids.map λi=>du ρ[i]?) (ds.drop i)=U7 rest/\xs=done++rest/\done.length<=i/\i<=ds.length/\n=ds.length - i) ?_ ds.length
   ⟨0,H2,UW ys.length UA,[],0,[],[],xs,I0,YF,T.keep _ _ _ st2 λb hb o q=>old b o q,λb hb=>(f2 b hb).1,hD1,I2.hok.fresh (Zc hDa),Same.refl _,.nil,rfl,hgo,rfl,UI _,VJ _,rfl⟩
  rintro n s3 ⟨i,H3,w0,its,nn,dv,done,rest,I3,hwl,st3,fr3,hD3,nD3,sm3,rv,rd,hgo3,hxs,hdl,hil,rfl⟩
  have pinD:Inv (cxC X scope (ys++fr) cl Ca s2 H2 fp) [(Da,{cls:=.type "list",data:=.seq its.toArray nn})] (w0++frv σ ids) H3 s3:=I3.pins_of λp hp=>by
   have z:p=(Da,{cls:=.type "list",data:=.seq its.toArray nn}):=by simpa using hp
   subst z
   exact ⟨hD3,nD3,hDC,hDs,λv z=>(nomatch z)⟩
  have fok3:=fpok (ps:=[(Da,({cls:=.type "list",data:=.seq its.toArray nn}:WK))]) fr3 λp hp=>by
   have z:p=(Da,{cls:=.type "list",data:=.seq its.toArray nn}):=by simpa using hp
   subst z
   exact hDf
  obtain ⟨y1,y2⟩:=hy2 H3 sm3 i
  cases hd:ds[i]? with
  | none=>
   have hle:ds.length<=i:=List.getElem?_eq_none_iff.mp hd
   have hieq:i=ds.length:=by omega
   refine thn (T.done (cxC X scope (ys++fr) cl Ca s2 H2 fp) rfl rfl rfl hc i _ s3 _ H3 _ pinD fok3 st3 (y2 hieq)) λrr s4 ⟨hrr,I4⟩=>?_
   subst hrr
   obtain ⟨mC,hnC,_⟩:=I4.loc
   refine ⟨mC,hnC,λh5 sb5=>?_⟩
   obtain ⟨hD4,nD4,_⟩:=I4.pin _ (Vp _ (V7.mpr rfl))
   rw [hieq,List.drop_length] at hgo3
   cases hgo3
   rw [V3] at hxs
   subst hxs
   have far:∀ b o,s2.heap.get? b=U7 o->b≠Ca/\b≠Da:=λb o q=>⟨Vt (Vj (ltD _ _ q) hC),Vt (ltD _ _ q)⟩
   have U5:Un (frs X.stack) fp H2 (upd H3 Da (.lst dv)) s2.heap h5:=by
    have U4:Un (frs X.stack) fp H2 H3 s2.heap s4.heap:=I4.base
    refine ⟨λb o q n hb hx=>(sb5.2 b (far b o q).1).trans (U4.keep b o q n hb hx),λb o q n hb hx=>?_,λb o q n hx=>?_,λb o q hx=>?_,λb ys q=>?_,λb o u q=>?_,λb ps q=>?_⟩
    ·obtain ⟨sl,z⟩:=U4.slot b o q n hb hx
     exact ⟨sl,(sb5.2 b (far b o q).1).trans z⟩
    ·rw [z0 (far b o q).2];exact U4.free b o q n hx
    ·obtain ⟨o',z⟩:=U4.there b o q hx
     exact ⟨o',(sb5.2 b (far b o q).1).trans z⟩
    ·rw [z0 (qv (U4.tups b ys q) nD4)];exact U4.tups b ys q
    ·rw [z0 (qv (U4.frzs b o u q) nD4)];exact U4.frzs b o u q
    ·obtain ⟨more,z⟩:=U4.tbls b ps q
     exact ⟨more,by rw [z0 (qv z nD4)];exact z⟩
   have hok5:HOk X.prog X.w (upd H3 Da (.lst dv)) h5:=λb u q=>by
    have fC:H3 Ca=UA:=I4.free
    by_cases z:b=Da
    ·subst z
     rw [z9] at q
     cases q
     have hlen:=rv.length
     have hl2:=rd.length
     exact ⟨by rw [hl2];exact UU hdl (by rw [hieq];exact ah hbig),its,nn,rv,(sb5.2 _ hDC).trans hD4⟩
    ·rw [z0 z] at q
     refine (I4.hok b u q).stay (λc v hcc w=>(sb5.2 c λzz=>?_).trans w) (λc w=>by rw [z0 (qv w nD4)];exact w) λc ys w=>by rw [z0 (qv w nD4)];exact w
     subst zz
     rcases hcc with zz | zz
     ·rw [<- zz,fC] at q;cases q
     ·rw [fC] at zz;cases zz
   have I5:Inv X pins σ (upd H3 Da (.lst dv)) {s4 with heap:=h5}:=I2.call' (s':={s4 with heap:=h5}) I4.os U5 hok5 I4.bare λb hb=>⟨(f2 b hb).2.2.2.1,(f2 b hb).2.1,(f2 b hb).2.2.2.2.1,(f2 b hb).2.2.2.2.2⟩
   refine ⟨.ref Da,_,I5,rfl,kk.give rfl ((sm2.trans sm3).trans (qc nD3 _)) ⟨Da,dv,rfl,.inl ⟨⟨rfl,g.s1.free (sm2.free (I2.hok.fresh (Zc hDa)))⟩,z9⟩,(rd.imp λ_ _ z=>z.elim).same (qc nD3 _)⟩⟩
  | some d=>
   obtain ⟨hlt,hde⟩:=UV.mp hd
   rw [List.drop_eq_getElem_cons hlt,hde] at hgo3
   unfold yt at hgo3
   split at hgo3
   ·cases hgo3
   rename_i ρ1 htf
   obtain ⟨hgo,hyl⟩:=y1 d hd
   refine thn (T.item (cxC X scope (ys++fr) cl Ca s2 H2 fp) rfl rfl rfl hc i _ s3 _ H3 _ pinD fok3 st3 hgo) λrr s4 ⟨u,hrr,h4⟩=>?_
   subst hrr
   refine thn h4 λ_ s5 ⟨x,H5,I5,rx,hyd,st5,fr5⟩=>?_
   obtain ⟨sm5,rp5⟩:=hyl x H5 hyd
   have ho5:=T.obj _ _ st5
   have I5':=I5.pinned (fpok fr5 λp hp=>by
    have z:p=(Da,{cls:=.type "list",data:=.seq its.toArray nn}):=by simpa using hp
    subst z
    exact hDf) ho5
   refine W6 (hPG cl Ca s2 H2 fp _ s5 _ H5 x u (λσ' H'=>H'=H5/\∃ ws':L2.St,ws'.length=ys.length/\ρ1.length=ys.length/\σ'=ws'++frv σ ids/\∀ (i:Nat) (t:Slot),ρ1[i]? =U7 (U7 t)->∃ v d',t= .par d'/\ws'[i]? =U7 (U7 v)/\Rep (λ_ _=>False) H5 d' v) I5' rx
    (hG w0 _ H5 d x _ ρ1 hwl rp5 htf λws' e1 e2 e3=>⟨rfl,ws',e1,e2,rfl,e3⟩)) (λ_ s6 h6=>?_) λ_ _ z=>z.elim
   obtain ⟨σ6,H6,I6,e6,ws',hw1,hw2,eσ,hvs⟩:=h6
   subst e6 eσ
   have g6:=Pj (XO:=XO) (ids:=ids) g ((sm2.trans sm3).trans sm5) (hw1.trans hw2.symm) hvs
   have hitl:its.length<=i:=by rw [<- rv.length,rd.length];exact hdl
   split at hgo3
   case h_1 lt hft=>
    split at hgo3
    case h_2=>cases hgo3
    rename_i l' x' hfx
    split at hgo3
    case isFalse=>cases hgo3
    rename_i hlf
    cases hgo4:yt tf ft f (ids.map λi=>du ρ[i]?) (ds.drop (i+1)) with
    | none=>rw [hgo4] at hgo3;cases hgo3
    | some rest4=>
    rw [hgo4] at hgo3
    cases hgo3
    refine W6 (ht cl Ca s2 H2 fp hB _ s6 _ H6 (λb H'=>b=true/\Same H6 H') I6 ⟨H6,H6,_,.ok lt (.bool true),g6,hft,⟨λl'' d'' v H' z sm rp=>?_,λc H' z=>(nomatch z)⟩⟩) (λok sT hTs=>?_) λ_ _ z=>z.elim
    ·cases z
     exact ⟨true,rp,rfl,sm⟩
    obtain ⟨HT,IT,rfl,smT⟩:=hTs
    rw [if_pos rfl]
    have gT:=g6.same smT
    refine W6 (he cl Ca s2 H2 fp hB _ sT _ HT (λv H'=>Same HT H'/\Rep (λ_ _=>False) H' x' v) IT ⟨H6,H6,_,.ok l' x',gT,hfx,⟨λl'' d'' v H' z sm rp=>?_,λc H' z=>(nomatch z)⟩⟩) (λxv s7 h7=>?_) λ_ _ z=>z.elim
    ·cases z
     exact ⟨sm,rp.nl hlf⟩
    obtain ⟨v7,H7,I7,r7,sm7,rp7⟩:=h7
    obtain ⟨hD7,nD7,_⟩:=I7.pin (Da,({cls:=.type "list",data:=.seq its.toArray nn}:WK)) (Vp _ (XX _ (V7.mpr rfl)))
    refine wpAny_list_append_plain (items:=its.toArray) ⟨nn,hD7⟩ (λh8 hp8 sb8=>?_) (by rw [UO];exact UU hitl (UU (Zb hlt) (ah hbig)))
    obtain ⟨n8,hD8⟩:=hp8
    have I8:Inv (cxC X scope (ys++fr) cl Ca s2 H2 fp) [] _ H7 {s7 with heap:=h8}:=(I7.pins_of (pins':=[]) λp hp=>(nomatch hp)).turned (t':=s7.toks) (it:=Da) (λb o hb q=>(sb8.2 b hb).trans q) nD7 hDC (.inr (Zc hDa)) hDcell λp hp=>(nomatch hp)
    refine ⟨ds.length - (i+1),by omega,i+1,H7,ws',its++[xv],n8,dv++[v7],done++[x'],rest4,I8,hw1,T.keep _ _ _ st5 λb hb o q=>?_,λb hb=>?_,?_,nD7,((sm3.trans sm5).trans smT).trans sm7,rv.append (.cons r7 .nil),?_,hgo4,by rw [hxs];simp,by simp;omega,hlt,rfl⟩
    ·have:=(I7.pin (b,o) (Vp _ (Vp _ (ug hb q)))).1
     exact (sb8.2 b λz=>hDf (z ▸ hb)).trans this
    ·obtain ⟨o,q,_⟩:=ho5 b hb
     exact (I7.pin (b,o) (Vp _ (Vp _ (ug hb q)))).2.1
    ·rw [hD8];simp
    ·exact Reps.append (((rd.same sm5).same smT).same sm7) (Reps.one rp7)
   case h_2 lt hft=>
    refine W6 (ht cl Ca s2 H2 fp hB _ s6 _ H6 (λb H'=>b=false/\Same H6 H') I6 ⟨H6,H6,_,.ok lt (.bool false),g6,hft,⟨λl'' d'' v H' z sm rp=>?_,λc H' z=>(nomatch z)⟩⟩) (λok sT hTs=>?_) λ_ _ z=>z.elim
    ·cases z
     exact ⟨false,rp,rfl,sm⟩
    obtain ⟨HT,IT,rfl,smT⟩:=hTs
    rw [if_neg (by decide)]
    obtain ⟨hD7,nD7,_⟩:=IT.pin (Da,({cls:=.type "list",data:=.seq its.toArray nn}:WK)) (Vp _ (XX _ (V7.mpr rfl)))
    refine ⟨ds.length - (i+1),by omega,i+1,HT,ws',its,nn,dv,done,rest,IT.pins_of (pins':=[]) λp hp=>(nomatch hp),hw1,T.keep _ _ _ st5 λb hb o q=>?_,λb hb=>?_,hD7,nD7,(sm3.trans sm5).trans smT,rv,(rd.same sm5).same smT,hgo3,hxs,by omega,hlt,rfl⟩
    ·exact (IT.pin (b,o) (Vp _ (Vp _ (ug hb q)))).1
    ·obtain ⟨o,q,_⟩:=ho5 b hb
     exact (IT.pin (b,o) (Vp _ (Vp _ (ug hb q)))).2.1
   case h_3=>cases hgo3
 exact codeAny_compStart_list loop (T.self X.A 0 _ _ _ (T.keep _ _ _ st2 λb hb o q=>old b o q) loop)
theorem Ef(f:FE)(env:Rho):∀ ds:List U8,AN f env ds=yt tc1 (eC (.bool true)) f env ds
 | []=>rfl
 | d::ds=>by
  rw [AN,yt,Ef f env ds]
  rfl
theorem Jc(fi:FI)(ids:List Nat)(f:FE):Ep fi ids f=ue fi ids tc1 (eC (.bool true)) f:=by
 funext ρ
 unfold Ep ue
 simp only [Ef]
 try rfl
theorem QE{y:Vk}{yp:Xz}(C:BC X)(hr:Room k X.A)(hc:X.calm=true)(hi:PI X (.Name y yp) iter (tI XO fi))
  (he:∀ cl Ca s2 H2 fp,BodyC XO.cv k (cxC X scope ([y]++fr) cl Ca s2 H2 fp)->PE (cxC X scope ([y]++fr) cl Ca s2 H2 fp) elt (tF ⟨XO.cv,λ_ _ _=>False⟩ f))
  (nd:(y::fr).Nodup:=by decide +kernel) (hkind:scope.kind= .function:=by rfl) (hcell:∀ z∈scope.names,z.2≠.cell:=by decide +kernel) (hnames:∀ z∈scope.names,z.2= .local->scope.names.lookup z.1=U7 .local:=by decide +kernel)
  (hy:scope.names.lookup y=U7 .local:=by rfl) (hids:ids.map (λi=>X.N[i]?)=fr.map U7:=by rfl)
  (hfr:∀ n∈fr,scope.names.lookup n=U7 .free/\X.env.scope.names.lookup n=U7 .cell:=by first | (dsimp only [sy,Zi,Cx.tr,Cx.hn,cxC,compEnvC];decide +kernel) | decide +kernel) (hall:∀ z∈scope.names,z.2= .free->X.env.scope.names.lookup z.1=U7 .cell:=by first | (dsimp only [sy,Zi,Cx.tr,Cx.hn,cxC,compEnvC];decide +kernel) | decide +kernel)
  (hs:∀ x,Xh iter X.env x=pure x:=by intro _;rfl):PE X (.ListComp elt [⟨.Name y yp,iter,[],0⟩] scope pos) (tF XO (Ep fi ids f)):=by
 rw [Jc]
 exact Fe (ys:=[y]) C hr hc hi (J5 nd hy) (λ_ _ _ _ _ _=>Pe) he hkind hcell hnames hids hfr hall hs
end
noncomputable def Ite(K:UF)(a:UL):It:=
 ⟨λi H=>∃ xs x,SqL K H a xs/\xs[i]? =U7 x,λi H x H'=>∃ p v,x= .ref p/\H p=UA/\H'=upd H p (.tup [.int i,v])/\∀ xs,SqL K H a xs->xs[i]? =U7 v,λi H=>∃ xs,SqL K H a xs/\xs.length<=i⟩
theorem LA{P:Vn}{w:Vz}{K:UF}{elts:List Vw}{x1}{tpos:Xz}(a e it:UL)(hne:e≠it):Turn P w K (.Tuple elts x1 tpos) (Ite K a) [e,it] e (λi h=>∃ old,IsEnum h e it (i:Int) old/\h.IsListIter it a i) where
 mem:=by simp
 obj:=λi h ⟨old,st,li⟩ b hb=>by
  rcases Vl.mp hb with rfl | hb
  ·exact ⟨_,st,λv z=>by
    have z':Data.fields _=Data.cell v:=z
    cases z'⟩
  ·have e:b=it:=by simpa using hb
   subst e
   obtain ⟨o,e,c,d⟩:=li
   exact ⟨o,e,λv z=>by rw [d] at z;cases z⟩
 keep:=λi h h' ⟨old,st,li⟩ k=>⟨old,k e (by simp) _ st,li.at λo q=>k it (by simp) o q⟩
 item:=by
  intro X hP hw hK hc i pins s σ H E I hf ⟨old,st,li⟩ hg
  subst hP hw hK
  obtain ⟨xs,x,hq,hx⟩:=hg
  obtain ⟨its,rv,p,hz⟩:=I.list hq
  obtain ⟨u,hu,ru⟩:=rv.get hx
  obtain ⟨f0,f1,f2,f3,f4,f5⟩:=hf e (by simp)
  obtain ⟨g0,g1,g2,g3,g4,g5⟩:=hf it (by simp)
  refine wpAny_pyNext_enum_item st li p.isList (x:=u) (by simpa using hu) hne λh1 heo li1 ht1 hz1 hk1=>⟨_,rfl,?_⟩
  refine wpAny_letOwnedTupleGo_enum heo λh2 he2 hs2=>?_
  replace hs2:Wq e h1 h2:=hs2
  have hel:e < s.heap.objs.size:=UT st
  have nP:H s.heap.objs.size=UA:=I.hok.fresh (UI _)
  have keep2:∀ b o,b≠e->b≠it->s.heap.get? b=U7 o->h2.get? b=U7 o:=λb o n1 n2 q=>(hs2.2 b n1).trans (hk1 b o n1 n2 q)
  have hp2:h2.get? s.heap.objs.size=U7 {cls:=.type "tuple",data:=.seq #[.int i s.toks,u]}:=(hs2.2 _ (Wr hel)).trans ht1
  have nm:∀ b,b∉[e,it]->b≠e/\b≠it:=λb hb=>⟨λz=>hb (by simp [z]),λz=>hb (by simp [z])⟩
  have tr:∀ b o,H b=U7 o->b≠e/\b≠it:=λb o q=>⟨(λz=>by rw [z,f0] at q;cases q),(λz=>by rw [z,g0] at q;cases q)⟩
  have hok2:HOk X.prog X.w (upd H s.heap.objs.size (.tup [.int i,x])) h2:=λb ob q=>by
   by_cases z:b=s.heap.objs.size
   ·subst z
    rw [z9] at q
    cases q
    exact ⟨⟨by show 2<=Vc;decide,tv hp2 rfl⟩,[.int i s.toks,u],.cons ⟨_,rfl⟩ (.cons ru .nil),_,hp2,rfl,_,rfl⟩
   ·rw [z0 z] at q
    refine (I.hok b ob q).stay (λc v hcc r=>?_) (λc r=>by rw [z0 (qv r nP)];exact r) λc ys r=>by rw [z0 (qv r nP)];exact r
    rcases hcc with hcc | hcc
    ·rw [hcc] at r ⊢
     exact keep2 b v (tr b _ q).1 (tr b _ q).2 r
    ·exact keep2 c v (tr c _ hcc).1 (tr c _ hcc).2 r
  have I2:Inv X pins σ (upd H s.heap.objs.size (.tup [.int i,x])) {s with heap:=h2,gens:=s.gens,drawn:=s.drawn,toks:=s.toks+1}:=by
   refine I.step (ch:=[e,it]) (λb hb=>?_) (λb o _ _ hb q _=>keep2 b o (nm b hb).1 (nm b hb).2 q) (λb o _ _ hb q _=>⟨o.slots,keep2 b o (nm b hb).1 (nm b hb).2 q⟩) (λb o hb q n=>?_) (λb o hb q=>⟨o,keep2 b o (nm b hb).1 (nm b hb).2 q⟩)
    (λb ys q=>by rw [z0 (qv q nP)];exact q) (λb o y q=>by rw [z0 (qv q nP)];exact q) (λb ps q=>⟨#[],by rw [z0 (qv q nP),q];simp⟩) (λm hm=>?_) hok2 I.bare
   ·rcases Vl.mp hb with rfl | hb
    ·exact ⟨f3,f1,f4,f5⟩
    ·have z:b=it:=by simpa using hb
     subst z
     exact ⟨g3,g1,g4,g5⟩
   ·rw [z0 (Vt (UT q))];exact n
   ·obtain ⟨o,es,ep,ho,r⟩:=hm
    exact ⟨o,es,ep,keep2 _ o (Wv f1) (Wv g1) ho,r⟩
  refine ⟨.ref s.heap.objs.size,_,I2,rfl,⟨_,x,rfl,nP,rfl,λys hy=>by rw [I.list_inj hy hq];exact hx⟩,⟨u,?_,?_⟩,λb hb=>?_⟩
  ·have:=he2
   push_cast
   exact this
  ·exact li1.at λo q=>(hs2.2 it (Wv hne)).trans q
  ·have hn:=(hf b hb).1
   have hb2:b≠s.heap.objs.size:=λz=>by
    rcases Vl.mp hb with q | q
    ·rw [q] at z;exact absurd hel (by rw [z];exact Wo _)
    ·have q:b=it:=by simpa using q
     obtain ⟨o,ho,_⟩:=li
     have:=UT ho
     rw [<- q,z] at this
     exact absurd this (Wo _)
   rw [z0 hb2];exact hn
 done:=by
  intro X hP hw hK hc i pins s σ H E I hf ⟨old,st,li⟩ hg
  subst hP hw hK
  obtain ⟨xs,hq,hx⟩:=hg
  obtain ⟨its,rv,p,hz⟩:=I.list hq
  obtain ⟨g0,g1,g2,g3,g4,g5⟩:=hf it (by simp)
  have hl:=rv.length
  exact wpAny_pyNext_enum_end (I.ok.hd hc) st li p.isList (by simp;omega) λh' eb=>⟨rfl,I.turned (t':=s.toks) (λb o hb q=>eb b o hb q) g0 g1 g3 g4 g5⟩
 self:=λ_ _ _ _ _ ⟨_,st,_⟩ h=>wpAny_pyIter_enum st h
section
variable{X:Cx}{XO:XOT}{cv:Cfg}{e:Vw}{f fa fb fc:FE}{st:VW}{rest sa sb body:List VW}{a b:FS}{pos p tpos:Xz}{tg iter:Vw}{fi:FI}{tf:FT}{elts:List Vw}{k1:Nat}
noncomputable def Ud(K:UF)(tl:TE):TI:=λσ H R=>tl σ H λx H1=>∃ a,x= .ref a/\(∃ xs,SqL K H1 a xs)/\R (Ite K a) H1
theorem BY:Wu "enumerate" =U7 (.type "enumerate"):=by decide +kernel
theorem Ol{l:Vw}{tl:TE}(hg:Gl X "enumerate")(hm:X.mg "enumerate" =UA)(hl:PE X l tl)(he:UJ [l] X.env=(false,VN l X.env)::UJ [] X.env)(hpl:(VC pos (UJ [] X.env)).any (·.1)=false):
  PI X (.Tuple elts k1 tpos) (.Call (.Name "enumerate" p) [l] [] pos) (Ud X.K tl):=by
 intro pins s σ H R I h
 refine W8 (oj I hg hm BY ?_ (by decide) (by decide))
 have hA:GB tl tNil σ H (λvs H1=>match vs with
  | [x]=>∃ a,x= .ref a/\(∃ xs,SqL X.K H1 a xs)/\R (Ite X.K a) H1
  | _=>False):=h
 refine Wg (thn (we hl xw he pos pins s σ H _ I hA) λus s1 ⟨vs,H1,I1,r1,q1⟩=>?_) he hpl
 match vs,r1,q1 with
 | [x],r1,⟨a,hx,⟨xs,hq⟩,hR⟩=>
  subst hx
  obtain ⟨u,rfl,ru⟩:=Av r1
  cases ru
  obtain ⟨its,rv,pl,hz⟩:=I1.list hq
  refine call_enumerate_list pl.isList λh' he' li' hz' hk'=>wpAny_pyIter_enum he' ?_
  have hs:s1.heap.objs.size<=s1.heap.objs.size+1:=Nat.le_succ _
  refine ⟨s1.heap.objs.size+1,[s1.heap.objs.size+1,s1.heap.objs.size],_,Ite X.K a,H1,rfl,I1.kept (t':=s1.toks) hk',LA a _ _ (Nat.succ_ne_self _),⟨_,he',li'⟩,λb hb=>?_,hR⟩
  rcases Vl.mp hb with rfl | hb
  ·exact I1.fpOk hs (I1.hok.fresh hs)
  ·have z:b=s1.heap.objs.size:=by simpa using hb
   subst z
   exact I1.fpOk (UI _) (I1.hok.fresh (UI _))
theorem Gi:∀ (ds:List U8) (n i:Nat),(w5 n ds)[i]? =(ds[i]?).map λd=>.tuple [.int ((n+i:Nat):Int),d]
 | [],_,_=>by simp [w5]
 | d::ds,n,0=>by simp [w5]
 | d::ds,n,i+1=>by
  have:=Gi ds (n+1) i
  simp only [w5,UD,this]
  congr 1
  funext x
  rw [show n+1+i=n+(i+1) by omega]
theorem Gg:∀ (ds:List U8) (n:Nat),(w5 n ds).length=ds.length
 | [],_=>rfl
 | d::ds,n=>by simp [w5,Gg ds (n+1)]
theorem GP{K:UF}{Z:Hp}{p:UL}{vs:List V}{ds:List U8}(hl:Rd Z p (.lst vs))(r:Reps (λ_ _=>False) Z ds vs):i4 Z (Ite K p) (w5 0 ds):=λH2 s i=>by
 have hq:SqL K H2 p vs:=.inl (Rd.same s hl)
 refine ⟨λd hd=>?_,λhi=>⟨vs,hq,by rw [r.length,hi,Gg];exact UI _⟩⟩
 rw [Gi] at hd
 cases hx:ds[i]? with
 | none=>rw [hx] at hd;cases hd
 | some x=>
  rw [hx] at hd
  cases hd
  obtain ⟨v,hv,rv⟩:=r.get hx
  refine ⟨⟨vs,v,hq,hv⟩,λy H3 yl=>?_⟩
  obtain ⟨q,v',rfl,hn,rfl,hv'⟩:=yl
  have:=hv' vs hq
  rw [hv] at this
  cases this
  refine ⟨qc hn _,q,_,rfl,(.inl z9),⟨_,_,rfl,?_,_,_,rfl,(rv.same s).same (qc hn _),rfl⟩⟩
  show V.int _=V.int _
  rw [Nat.zero_add]
theorem NF(hm:X.mg "enumerate" =UA)(h:PE X e (tF XO f))(hg:Gl X "enumerate":=by rfl)(he:UJ [e] X.env=(false,VN e X.env)::UJ [] X.env:=by exact qe rfl)(hpl:(VC pos (UJ [] X.env)).any (·.1)=false:=by exact wj rfl):
  PI X (.Tuple elts k1 tpos) (.Call (.Name "enumerate" p) [e] [] pos) (tI XO (Ba f)):=PI.imp (Ol hg hm h he hpl) λσ H R ⟨H₀,Hs,ρ,r,g,e,k,kx⟩=>by
 unfold Ba at e
 split at e
 ·rename_i l ds hf
  split at e
  ·rename_i hlf
   cases e
   refine ⟨H₀,Hs,ρ,_,g,hf,⟨λl' d' v H1 e' s1 r1=>?_,λc H' e=>(nomatch e)⟩⟩
   cases e'
   obtain ⟨p,vs,rfl,rl,rs⟩:=r1
   exact ⟨p,rfl,⟨vs,.inl rl.rd⟩,k l _ (Ite X.K p) H1 rfl s1 λZ hT hL=>GP (hL p _ rl) (Reps.free hT ds vs hlf rs)⟩
  ·cases e
 ·rename_i c hf
  cases e
  exact ⟨H₀,Hs,ρ,_,g,hf,⟨λl' d' v H1 e' s1 r1=>(nomatch e'),λc' H' e' s=>kx c' H' (by cases e';rfl) s⟩⟩
 ·cases e
end
section
variable{X:Cx}{XO:XOF}{cv:Cfg}{e:Vw}{f fa fb fc:FE}{st:VW}{rest sa sb body:List VW}{a b:FS}{pos p tpos:Xz}{tg iter:Vw}{fi:FI}{tf:FT}{elts:List Vw}{k1:Nat}
theorem Df(i j:Nat){x y:Vk}{xp yp:Xz}(hc:X.calm=true)(hN:X.N.Nodup)(hi:X.N[i]? =U7 x:=by rfl)(hx:Loc X.env.scope x:=by first | exact VE rfl | exact Vr rfl)
  (hf:X.fn x=true∨X.env.scope.names.lookup x=U7 .local:=by first | exact .inl rfl | exact .inr rfl | assumption) (hin:X0 i cv.n=true:=by rfl)
  (hj:X.N[j]? =U7 y:=by rfl) (hy:Loc X.env.scope y:=by first | exact VE rfl | exact Vr rfl)
  (hfy:X.fn y=true∨X.env.scope.names.lookup y=U7 .local:=by first | exact .inl rfl | exact .inr rfl | assumption) (hjn:X0 j cv.n=true:=by rfl):Tg X cv (.Tuple [.Name x xp,.Name y yp] k1 pos) (wc i j):=
 ⟨Sg X.K 2 (GI (Bg i) (GI (Bg j) gNil)),Oi hc (Ar (ph hN hi hx hf) (Ar (ph hN hj hy hfy) JY)),λH₀ F ρ ρ1 σ H d x Q s r e q=>by
   unfold wc at e
   split at e
   ·cases e
    obtain ⟨p,vs,rfl,hp,rs⟩:=r
    obtain ⟨v1,vr,rfl,r1,rs⟩:=rs
    obtain ⟨v2,vr,rfl,r2,rs⟩:=rs
    have rs:vr=[]:=rs
    subst rs
    exact ⟨p,_,rfl,.inl hp,rfl,v1,_,rfl,v2,_,rfl,rfl,q _ ((s.putLoc hin r1).putLoc hjn r2)⟩
   ·cases e⟩
end
end KT
namespace KT
open PySem PyProof.Rows
section
open PySem.SeqAt
open PySem.AutoSeq1 (wpAny_loadPart')
open PySem.MeetsSeq PySem.MeetsSeq2 PySem.MeetsSeq3
end
open PySem.Spec L2
end KT
namespace KT
open PySem PySem.Spec PyProof.Rows L2
theorem i0:∀ xs ys:List Int,g9 xs ys=HT.lexLt xs ys
 | [],[]=>rfl
 | [],_::_=>rfl
 | _::_,[]=>rfl
 | x::xs,y::ys=>by rw [HT.lexLt_cons,<- i0 xs ys];rfl
theorem ng{P:PP}{H:Hp}:∀ {ds:List U8} {ns:List Int} {vs:List V},yn ds=U7 ns->Reps P H ds vs->vs=ns.map V.int
 | [],ns,vs,e,r=>by cases e;exact r
 | d::ds,ns,vs,e,r=>by
  unfold yn at e
  split at e
  ·rename_i h;cases h
  ·rename_i i ds' hh
   cases hh
   cases hx:yn ds with
   | none=>rw [hx] at e;cases e
   | some ms=>
    rw [hx] at e
    cases e
    obtain ⟨v,ws,rfl,rv,rs⟩:=r
    rw [ng hx rs,show v=V.int i from rv]
    rfl
  ·cases e
end KT
namespace KT
open PySem PySem.Spec PyProof.Rows
theorem AV:Manifest.owners.lookup (String.ofList ['d','e','s','r','e','v','e','r'].reverse)=U7 Manifest.sig_reversed:=by kernel_rfl
theorem slot_rev_next:PySem.Slot "reversed" "__next__" "reversed.__next__":=
 .of (owner:="reversed") (n:="__next__") (by rw [W3,VR];kernel_rfl) (by decide +kernel) (by decide +kernel) (by decide +kernel)
  (by first | exact .inl (by decide +kernel) | exact .inr (by decide +kernel)) (by rw [WJ];kernel_rfl)
theorem oh:entryFor table "reversed.__next__" =U7 Vo.«reversed.__next__»:=YL (by kernel_rfl)
theorem ma(a:UB):argsOk "reversed.__next__" ⟨[a],[]⟩:=by
 unfold argsOk;rw [signature?_of (id:="reversed.__next__") (n:=['_','_','t','x','e','n','_','_']) (o:=['d','e','s','r','e','v','e','r']) (by kernel_rfl) AV];kernel_rfl
theorem rh:PySem.Slot "reversed" "__iter__" "reversed.__iter__":=
 .of (owner:="reversed") (n:="__iter__") (by rw [W3,VR];kernel_rfl) (by decide +kernel) (by decide +kernel) (by decide +kernel)
  (by first | exact .inl (by decide +kernel) | exact .inr (by decide +kernel)) (by rw [WJ];kernel_rfl)
theorem Bx(a:UB):argsOk "reversed.__iter__" ⟨[a],[]⟩:=by
 unfold argsOk;rw [signature?_of (id:="reversed.__iter__") (n:=['_','_','r','e','t','i','_','_']) (o:=['d','e','s','r','e','v','e','r']) (by kernel_rfl) AV];kernel_rfl
theorem BS:entryFor table "reversed.__iter__" =U7 Vo.«dict_keyiterator.__iter__»:=
 entryFor_alias (id':="dict_keyiterator.__iter__") (by kernel_rfl) (by first | rfl | decide +kernel | (unfold String.splitOn;simp +decide [String.splitOnAux])) (by decide +kernel) (by kernel_rfl)
theorem slot_rev_hint:PySem.Slot "reversed" "__length_hint__" "reversed.__length_hint__":=
 .of (owner:="reversed") (n:="__length_hint__") (by rw [W3,VR];kernel_rfl) (by decide +kernel) (by decide +kernel) (by decide +kernel)
  (by first | exact .inl (by decide +kernel) | exact .inr (by decide +kernel)) (by rw [WJ];kernel_rfl)
theorem BH:entryFor table "reversed.__length_hint__" =U7 Vo.«reversed.__length_hint__»:=YL (by kernel_rfl)
theorem Bw(a:UB):argsOk "reversed.__length_hint__" ⟨[a],[]⟩:=by
 unfold argsOk;rw [signature?_of (id:="reversed.__length_hint__") (n:=['_','_','t','n','i','h','_','h','t','g','n','e','l','_','_']) (o:=['d','e','s','r','e','v','e','r']) (by kernel_rfl) AV];kernel_rfl
theorem IZ:Zj (.type "tuple") "__reversed__" =pure UA:=by rw [W3,VR];kernel_rfl
theorem IM:Zj (.type "reversed") "__len__" =pure UA:=by rw [W3,VR];kernel_rfl
theorem Ii:TypeCalled "reversed" "reversed.__new__" "object.__init__":=
 ⟨by decide +kernel,by decide +kernel,⟨_,_,F.mro_reversed⟩,madeBy_type F.mro_reversed F.lookup_reversed_new (by decide +kernel),by decide +kernel,F.sub_reversed_self,by
   exact .of (owner:="object") (n:="__init__") (by rw [W3,VR];kernel_rfl) (by decide +kernel) (by decide +kernel) (by decide +kernel) (by first | exact .inl (by decide +kernel) | exact .inr (by decide +kernel)) (by rw [WJ];kernel_rfl)⟩
theorem DS{h h':V1}{t:UL}{items:Array UB}(x:Yg h t items)(e:∀ o,h.get? t=U7 o->h'.get? t=U7 o):Yg h' t items:=let ⟨o,ho,r⟩:=x;⟨o,e _ ho,r⟩
noncomputable def KR(t:UL)(i:Int):WK:={cls:=.type "reversed",data:=.fields #[.ref t,XR i]}
theorem Fq:isSubtype (.type "tuple") (.type "dict")=pure false:=by rw [WJ];kernel_rfl
section
variable{prog:Vn}{w:Vz}{A:VG}{E:UB->UG->Prop}{s:UG}
theorem Jx{t:UL}{items:Array UB}{Q:Fin->UG->Prop}(ht:Yg s.heap t items)(hfit:(items.size:Int) < 2 ^ 63)
  (h:Q (.done (.ret (.ref s.heap.objs.size))) {s with heap:=s.heap.push (KR t ((items.size:Int) - 1)),toks:=s.toks+1+1}):
  UZ (Vh prog w) A (Vo.«reversed.__new__» ⟨[.type "reversed",.ref t],[]⟩) Q E s:=by
 have hT:s.TypeIs (.ref t) "tuple":=ht.typeIs
 unfold Vo.«reversed.__new__»
 refine U9 (Xn (newClass_reversed _) ?_)
 try dsimp only
 refine U9 (Xn (a:=()) (by first | rfl | kernel_rfl) ?_)
 refine U9 (Xn (a:=()) (by first | rfl | kernel_rfl) ?_)
 try dsimp only
 refine U9 (Xf hT IZ ?_)
 try dsimp only
 refine U9 ?_
 try wp_delta
 refine U9 (Yf (T:="tuple") (b:=false) hT Fq ?_)
 refine Vy (λhab=>absurd hab (by decide)) (λ_=>?_)
 refine U9 (Xf hT PySem.F.slot_tuple_getitem.lookup ?_)
 refine Vy (λ_=>UK ?_) (λhab=>absurd (by decide +kernel) hab)
 refine Vy (λhab=>absurd hab (by decide)) (λ_=>?_)
 refine U9 (PyProof.Rows.len_tuple ht hfit ?_)
 refine U9 (m:=asInt? _) (UK ?_)
 try dsimp only
 refine U9 ?_
 unfold Vo.SmallTypes.newRecord
 try dsimp only
 exact VI (UK h)
theorem Bt(a b:UB):argsOk "object.__init__" ⟨[a,b],[]⟩:=F.args_object_init_2 a b
theorem Fd{t:UL}{items:Array UB}{Q:UB->UG->Prop}(ht:Yg s.heap t items)(hfit:(items.size:Int) < 2 ^ 63)
  (h:Q (.ref s.heap.objs.size) {s with heap:=s.heap.push (KR t ((items.size:Int) - 1)),toks:=s.toks+1+1}):
  UZ (Vh prog w) A (call (.type "reversed") [.ref t]) Q E s:=by
 refine callType_new (S:=λ_ R s=>Yg s.heap t items/\R (.ok (.ret (.ref s.heap.objs.size))) {s with heap:=s.heap.push (KR t ((items.size:Int) - 1)),toks:=s.toks+1+1}) Ii (by decide) (F.typeCall_reversed_1 _) (F.newCall_reversed_1 _) (λobj=>Bt obj _) F.entry_reversed_new
  (.of_wp λprog w A R s ⟨h1,h2⟩=>Jx h1 hfit ⟨_,rfl,h2⟩) ⟨ht,⟨_,US _ rfl,rfl⟩,h⟩
noncomputable def IsRevT(h:V1)(a t:UL)(i:Int):Prop:=∃ o,h.get? a=U7 o/\o.cls= .type "reversed"/\o.data= .fields #[.ref t,XR i]
theorem IsRevT.typeIs{a t:UL}{i:Int}(x:IsRevT s.heap a t i):s.TypeIs (.ref a) "reversed":=let ⟨o,ho,hc,_⟩:=x;⟨o,ho,hc⟩
theorem IsRevT.at{h h':V1}{a l:UL}{i:Int}(x:IsRevT h a l i)(e:∀ o,h.get? a=U7 o->h'.get? a=U7 o):IsRevT h' a l i:=let ⟨o,ho,r⟩:=x;⟨o,e _ ho,r⟩
theorem Dl{it t:UL}{i:Nat}{items:Array UB}{x:UB}{Q:Option UB->UG->Prop}(hit:IsRevT s.heap it t (i:Int))(hl:Yg s.heap t items)(hx:items[i]? =U7 x)(hne:t≠it)(hfit:(items.size:Int) < 2 ^ 63)
  (hQ:∀ h' tk,IsRevT h' it t ((i:Int) - 1)->Wq it s.heap h'->Q (U7 x) {s with heap:=h',toks:=tk}):UZ (Vh prog w) A (Zq (.ref it)) Q E s:=by
 obtain ⟨o,ho,hc,hd⟩:=id hit
 have hil:i < items.size:=(Wy.mp hx).1
 unfold Zq
 refine U9 (Yq (Wi (name:=X8 "__next__") hit.typeIs slot_rev_next
  (Wc slot_rev_next hit.typeIs oh ?_ (ma _))))
 unfold Vo.«reversed.__next__»
 refine U9 (Xn (a:=(VD it,[])) rfl ?_)
 try dsimp only
 refine U9 (VX ho hd (x:=.ref t) rfl ?_)
 refine U9 (VX ho hd (x:=XR (i:Int)) rfl ?_)
 show UZ _ _ (if (i:Int) < 0 then _ else _) _ _ s
 rw [if_neg (by omega)]
 refine U9 (Xf hl.typeIs PySem.F.slot_tuple_getitem.lookup ?_)
 refine Vy (λhab=>absurd hab (by decide)) (λ_=>?_)
 refine U9 (wpAny_mkInt ?_)
 refine U9 (Yq (PyProof.Rows.getItem_tuple hl (by omega) (by omega) (j:=i) (by have:=seqIndex_of (k:=(i:Int)) (n:=items.size) (by omega) (by omega);simpa using this) hx ?_))
 try dsimp only
 refine U9 (VX ho hd (x:=XR (i:Int)) rfl ?_)
 try dsimp only
 show UZ _ _ (setField (.ref it) 1 (XR ((i:Int) - 1)) >>= λ_=>ret x) _ _ _
 refine U9 (X3 ho hd (by simp) ?_)
 refine UK ⟨x,rfl,UK (hQ _ _ ?_ (Wq.update ..))⟩
 exact ⟨_,VQ _ ho (W5 (Wt hd _)),(WK.cls_mapFields ..).trans hc,by
  rw [Wt hd];simp⟩
theorem F7{it t:UL}{Q:Option UB->UG->Prop}(hh:A.handled=UA)(hit:IsRevT s.heap it t (-1))
  (hQ:∀ h',V1.ExtBut it s.heap h'->Q UA {s with heap:=h'}):UZ (Vh prog w) A (Zq (.ref it)) Q E s:=by
 obtain ⟨o,ho,hc,hd⟩:=id hit
 unfold Zq
 refine U9 (Yq (Wi (name:=X8 "__next__") hit.typeIs slot_rev_next
  (Wc slot_rev_next hit.typeIs oh ?_ (ma _))))
 unfold Vo.«reversed.__next__»
 refine U9 (Xn (a:=(VD it,[])) rfl ?_)
 try dsimp only
 refine U9 (VX ho hd (x:=.ref t) rfl ?_)
 refine U9 (VX ho hd (x:=XR (-1)) rfl ?_)
 show UZ _ _ (if (-1:Int) < 0 then _ else _) _ _ s
 rw [if_pos (by decide)]
 refine U9 (wpAny_rule ?_)
 refine U9 ?_
 try wp_delta
 have ho1:=VQ (Xx (·.setIfInBounds 1 (XR (-1)))) ho (W5 (Wt hd _))
 refine U9 (X3 ho hd (by simp) ?_)
 refine X3 ho1 (Wt hd _) (by simp) ?_
 refine U9 ?_
 unfold Vo.SmallTypes.stopIteration
 refine U9 ?_
 simp only [newExc,newTuple]
 refine U9 (VI ?_ (by size_fits))
 refine U9 (m:=Zl _ _) (Xn (a:=Vq) (by first | rfl | (simp only [Zl];rfl)) ?_)
 refine VI ?_ (by size_fits)
 simp only [raiseNew]
 refine U9 (wpAny_handled ?_)
 first | rw [show A.in1.handled=UA from hh] | rw [hh]
 refine U9 (UK (wpAny_throw ?_))
 refine U9 (Yf (T:="StopIteration") (b:=true) ⟨_,US _ rfl,rfl⟩ isSubtype_stop ?_)
 exact UK (hQ _ λb o hb e=>UH _ (UH _ ((V0 _ _ (Wv hb)).trans ((V0 _ _ (Wv hb)).trans e))))
theorem He{it t:UL}{i:Int}{Q:UB->UG->Prop}(hit:IsRevT s.heap it t i)(h:Q (.ref it) s):UZ (Vh prog w) A (pyIter (.ref it)) Q E s:=by
 refine wpAny_pyIter_slot hit.typeIs rh (Wc rh hit.typeIs BS ?_ (Bx _))
 show UZ _ _ (ret (.ref it)) _ _ s
 exact UK ⟨_,rfl,"reversed",_,hit.typeIs,slot_rev_next.lookup,h⟩
theorem Na{it t:UL}{items:Array UB}{Q:Bool->UG->Prop}(hit:IsRevT s.heap it t ((items.size:Int) - 1))(hl:Yg s.heap t items)(hlen:items.size<=2 ^ 24)
  (h:∀ tk,Q ((items.size:Int) != 0) {s with toks:=tk}):UZ (Vh prog w) A (WS (.ref it)) Q E s:=by
 obtain ⟨o,ho,hc,hd⟩:=id hit
 unfold WS
 refine U9 (Xf hit.typeIs IM ?_)
 try dsimp only
 refine Vy (λhab=>absurd hab (by decide +kernel)) (λ_=>?_)
 refine Vy (λhab=>absurd hab (by decide)) (λ_=>?_)
 refine U9 (Xf hit.typeIs slot_rev_hint.lookup ?_)
 generalize hid:("reversed.__length_hint__":String)=id0
 wp_delta
 rw [show splitId id0=U7 ("reversed","__length_hint__") from by subst hid;decide +kernel]
 subst hid
 refine U9 (Yf (T:="reversed") (b:=true) hit.typeIs F.sub_reversed_self ?_)
 refine Vy (λhab=>absurd hab (by decide)) (λ_=>?_)
 refine Vy (λhab=>absurd hab (by decide +kernel)) (λ_=>?_)
 refine U9 (wpAny_rule ?_)
 refine U9 (Xn (slot_rev_hint.bind _) ?_)
 try dsimp only
 refine U9 (Yq (Wc slot_rev_hint hit.typeIs BH ?_ (Bw _)))
 unfold Vo.«reversed.__length_hint__»
 refine U9 (Xn (a:=VD it) rfl ?_)
 try dsimp only
 refine U9 (VX ho hd (x:=.ref t) rfl ?_)
 refine Vy (λhab=>by simp at hab) (λ_=>?_)
 refine U9 (PyProof.Rows.len_tuple hl (by omega) ?_)
 refine U9 (m:=asInt? _) (UK ?_)
 try dsimp only
 refine U9 (VX ho hd (x:=XR ((items.size:Int) - 1)) rfl ?_)
 try dsimp only
 show UZ _ _ (if (items.size:Int) < ((items.size:Int) - 1)+1 then _ else retInt (((items.size:Int) - 1)+1)) _ _ _
 rw [if_neg (by omega),show ((items.size:Int) - 1)+1=(items.size:Int) by omega]
 have hfi:Vo.List.listFitsIndex (items.size:Int)=true:=by simp [Vo.List.listFitsIndex];omega
 have htl:VO ((items.size:Int).toNat)=false:=by simp [VO,Vc];omega
 have hn0:¬ (items.size:Int) < 0:=by omega
 generalize (items.size:Int)=n at h hfi htl hn0 ⊢
 refine U9 (wpAny_mkInt (UK ⟨_,rfl,?_⟩))
 refine U9 (m:=asInt? _) (UK ?_)
 refine Vy (λhab=>absurd hab (by rw [hfi];decide)) (λ_=>?_)
 refine Vy (λhab=>absurd hab hn0) (λ_=>?_)
 exact Vy (λhab=>absurd hab (by rw [htl];decide)) (λ_=>UK (h _))
end
theorem KO{prog:Vn}{w:Vz}{A:VG}(hh:A.handled=UA)(I t:UL)(hne:t≠I)(items:Array UB)(hfit:(items.size:Int) < 2 ^ 63):
  Walks prog w A I [I,t] [I] items.size (λi v=>items[items.size - 1 - i]? =U7 v) (λi h=>i<=items.size/\IsRevT h I t ((items.size:Int) - 1 - (i:Int))/\Yg h t items) where
 sub:=λb hb=>by simp at hb;simp [hb]
 frame:=λ_ _ _ x hk=>⟨x.1,x.2.1.at λo e=>hk I (by simp) o e,DS x.2.2 λo e=>hk t (by simp) o e⟩
 item:=λi s Q E hi x hQ=>by
  have e:(items.size:Int) - 1 - (i:Int)=((items.size - 1 - i:Nat):Int):=by omega
  have hit:=x.2.1
  rw [e] at hit
  have hx:items[items.size - 1 - i]? =U7 (items[items.size - 1 - i]'(by omega)):=Yj (by omega)
  refine Dl hit x.2.2 hx hne hfit λh' tk hit' hs'=>?_
  have e2:((items.size - 1 - i:Nat):Int) - 1=(items.size:Int) - 1 - ((i+1:Nat):Int):=by omega
  rw [e2] at hit'
  exact hQ _ h' tk hx ⟨hi,hit',DS x.2.2 λo eo=>(hs'.2 t hne).trans eo⟩ λb o hb eo=>hs'.extBut b o (λh=>hb (by simp [h])) eo
 done:=λs Q E x hQ=>by
  have e:(items.size:Int) - 1 - (items.size:Int)= -1:=by omega
  have hit:=x.2.1
  rw [e] at hit
  exact F7 hh hit λh' he'=>hQ h' s.toks λb o hb eo=>he' b o (λh=>hb (by simp [h])) eo
 self:=λ_ _ _ _ x hQ=>He x.2.1 hQ
section
variable{prog:Vn}{w:Vz}{A:VG}{E:UB->UG->Prop}{s:UG}
theorem Jf{R:Result->UG->Prop}{r t:UL}{items:Array UB}(hh:A.handled=UA)(hr:IsRevT s.heap r t ((items.size:Int) - 1))(ht:Yg s.heap t items)(hlen:items.size<=2 ^ 20)(hne:t≠r)(S:UL)(res:UB)(c₀:Nat)(hSr:S≠r)(hSt:S≠t)
  (hS:s.heap.get? S=U7 {cls:=.type "list",data:=.seq #[] c₀})
  (hR:∀ h' tk acc' c',(∀ b o,b≠S->b≠r->s.heap.get? b=U7 o->h'.get? b=U7 o)->h'.get? S=U7 {cls:=.type "list",dict:=UA,data:=.seq acc' c',slots:=#[]}->
    Zn (λi v=>items[items.size - 1 - i]? =U7 v) acc' items.size->R (.ok (.ret res)) {s with heap:=h',toks:=tk}):
  UZ (Vh prog w) A.in1 (Vv (.ref S) (.ref r) res)
   (λfin s'=>match fin with | .done f=>R (.ok f) s' | .again c'=>c'.quiet=true/\Yu (Vh prog w) A c' R s') (λe s'=>R (.error e) s') s:=by
 have hSf:S∉[r,t]:=by simp [hSr,hSt]
 have W:=(KO (prog:=prog) (w:=w) (A:=A.in1) hh r t hne items (by omega)).toS
 have key:∀ (h:V1) (c₁ tk:Nat),(∀ b o,b≠S->s.heap.get? b=U7 o->h.get? b=U7 o)->
   h.get? S=U7 {cls:=.type "list",data:=.seq #[] c₁}->Yu (Vh prog w) A (.builtin "list.extend.loop" ⟨[.ref S,.ref r,res],[]⟩) R {s with heap:=h,toks:=tk}:=by
  intro h c₁ tk hk hS₁
  refine codeAny_extend_loopS W (by rw [Y0];omega) S hSf res items.size 0 _ #[] c₁ rfl (VJ _) ⟨VJ _,by simpa using hr.at λo e=>hk r o (Wv hSr) e,DS ht λo e=>hk t o (Wv hSt) e⟩ hS₁ (Zn.nil _) λs' acc' c' hm hS' hacc=>?_
  rw [Moved.eq_with hm]
  refine hR s'.heap s'.toks acc' c' (λb o hb hb2 e=>hm.heap b o (λhmem=>?_) (hk b o hb e)) hS' hacc
  rcases Vl.mp hmem with e' | hmem
  ·exact hb e'
  ·exact hb2 (V7.mp hmem)
 unfold Vv
 refine U9 (X9 (T:="reversed") hr.typeIs ?_)
 have h1:Xy (.ref S) (.ref r)=false:=by simp [Xy,hSr]
 have h2:(Wa "reversed" == Wa "list")=false:=by decide
 have h3:(Wa "reversed" == Wa "tuple")=false:=by decide
 simp only [h1,h2,h3,Bool.or_false,WA,if_false]
 refine U9 (He hr ?_)
 refine U9 (WE (Na hr ht (by omega) λtk=>?_))
 refine Vy (λ_=>?_) (λ_=>UK ⟨Yr F.plain_extend_loop _,key _ c₀ _ (λb o _ e=>e) hS⟩)
 refine U9 (wpAny_rule ?_)
 refine U9 ?_
 show UZ _ _ (updateSeq S (·.push .none) >>= λ_=>updateSeq S (·.pop)) _ _ _
 refine U9 (Yv hS rfl ?_)
 have hS₂:=VQ (WZ (·.push Vq)) hS rfl
 refine Yv (hz:=by seq_fits) hS₂ rfl ?_
 have hS₃:=VQ (WZ (·.pop)) hS₂ rfl
 refine UK ⟨Yr F.plain_extend_loop _,key _ _ _ (λb o hb e=>?_) hS₃⟩
 exact (V0 _ _ (Wv hb)).trans ((V0 _ _ (Wv hb)).trans e)
theorem MP{R:Result->UG->Prop}{r t:UL}{items:Array UB}(hh:A.handled=UA)(hr:IsRevT s.heap r t ((items.size:Int) - 1))(ht:Yg s.heap t items)(hlen:items.size<=2 ^ 20)(hne:t≠r)(S:UL)(hSr:S≠r)(hSt:S≠t)
  (hS:s.heap.get? S=U7 {cls:=.type "list",data:=.seq #[]})
  (hR:∀ h' tk acc' c',(∀ b o,b≠S->b≠r->s.heap.get? b=U7 o->h'.get? b=U7 o)->h'.get? S=U7 {cls:=.type "list",dict:=UA,data:=.seq acc' c',slots:=#[]}->
    Zn (λi v=>items[items.size - 1 - i]? =U7 v) acc' items.size->R (.ok (.ret .none)) {s with heap:=h',toks:=tk}):
  UZ (Vh prog w) A.in1 (Vo.«list.__init__» ⟨[.ref S,.ref r],[]⟩)
   (λfin s'=>match fin with | .done f=>R (.ok f) s' | .again c'=>c'.quiet=true/\Yu (Vh prog w) A c' R s') (λe s'=>R (.error e) s') s:=by
 show UZ _ _ (do let old <- XB (.ref S);Y5 (.ref S) (λ_=>#[]);letGo old.toList.reverse;Vv (.ref S) (.ref r) .none) _ _ s
 refine U9 ?_
 unfold XB
 refine U9 (wpAny_seqItems hS rfl (UK ?_))
 show UZ _ _ (updateSeq S (λ_=>#[]) >>= λ_=>letGo (#[]:Array UB).toList.reverse >>= λ_=>Vv (.ref S) (.ref r) .none) _ _ s
 refine U9 (Yv hS rfl ?_)
 have hS₂:=VQ (WZ (λ_=>(#[]:Array UB))) hS rfl
 have oth:∀ b o,b≠S->s.heap.get? b=U7 o->(s.heap.update S (WZ (λ_=>(#[]:Array UB)))).get? b=U7 o:=
  λb o hb e=>(V0 _ _ (Wv hb)).trans e
 refine U9 (wpAny_letGo ?_)
 refine Jf hh (hr.at λo e=>oth r o (Wv hSr) e) (DS ht λo e=>oth t o (Wv hSt) e) hlen hne S .none _ hSr hSt hS₂ λh' tk acc' c' hk hS' hacc=>?_
 exact hR h' tk acc' c' (λb o hb hb2 e=>hk b o hb hb2 (oth b o hb e)) hS' hacc
theorem Dp{Q:UB->UG->Prop}{r t:UL}{items:Array UB}(hh:A.handled=UA)(hr:IsRevT s.heap r t ((items.size:Int) - 1))(ht:Yg s.heap t items)(hlen:items.size<=2 ^ 20)(hne:t≠r)
  (hQ:∀ h' tk acc' c',(∀ b o,b≠r->s.heap.get? b=U7 o->h'.get? b=U7 o)->
    h'.get? s.heap.objs.size=U7 {cls:=.type "list",dict:=UA,data:=.seq acc' c',slots:=#[]}->Zn (λi v=>items[items.size - 1 - i]? =U7 v) acc' items.size->Q (.ref s.heap.objs.size) {s with heap:=h',toks:=tk}):
  UZ (Vh prog w) A (call (.type "list") [.ref r]) Q E s:=by
 refine callType_codes (Q₁:=λobj s₁=>obj= .ref s.heap.objs.size/\s₁= {s with heap:=s.heap.push {cls:=.type "list",data:=.seq #[]}}) F.called_list (F.typeCall_list_1 _) F.entry_list_init
  (code_list_new _ ⟨rfl,rfl⟩) λobj s₁ h₁=>?_
 obtain ⟨rfl,rfl⟩:=h₁
 have hS:(s.heap.push {cls:=.type "list",data:=.seq #[]}).get? s.heap.objs.size=U7 {cls:=.type "list",data:=.seq #[]}:=US _ rfl
 have n1:s.heap.objs.size≠r:=by obtain ⟨o,e,_⟩:=hr;exact Wr (UT e)
 have n2:s.heap.objs.size≠t:=by obtain ⟨o,e,_⟩:=ht;exact Wr (UT e)
 refine ⟨⟨_,hS,rfl⟩,F.args_list_init_2 _ _,MP (A:=A.in1) hh (hr.at λo e=>UH _ e) (DS ht λo e=>UH _ e) hlen hne _ n1 n2 hS λh' tk acc' c' hk hS' hacc=>?_⟩
 exact ⟨rfl,hQ h' tk acc' c' (λb o hb e=>hk b o (Vt (UT e)) hb (UH _ e)) hS' hacc⟩
end
end KT
namespace KT
open PySem PySem.Spec PyProof.Rows L2
theorem Ce:∀ {xs:List V} {us:List UB},Vals xs us->Vals xs.reverse us.reverse
 | _,_,.nil=>.nil
 | _,_,.cons r t=>by
  rw [Xo,Xo]
  exact Vals.append (Ce t) (.cons r .nil)
theorem En{its:List UB}{acc:Array UB}(h:Zn (λi v=>its.toArray[its.toArray.size - 1 - i]? =U7 v) acc its.toArray.size):acc.toList=its.reverse:=by
 obtain ⟨h1,h2⟩:=h
 simp only [UO] at h1 h2
 apply List.ext_getElem?
 intro i
 by_cases hi:i < its.length
 ·have hia:i < acc.size:=by omega
  have e:=h2 i acc[i] (Yj hia)
  rw [Wf,Yj hia,List.getElem?_reverse hi]
  rw [<- e]
  simp
 ·rw [YH (by simp;omega),YH (by simp;omega)]
theorem GF{P:PP}{H:Hp}:∀ {ds:List U8} {vs:List V},Reps P H ds vs->Reps P H ds.reverse vs.reverse:=by
 have app:∀ {ds es:List U8} {vs ws:List V},Reps P H ds vs->Reps P H es ws->Reps P H (ds++es) (vs++ws):=by
  intro ds
  induction ds with
  | nil=>intro es vs ws r q;have r:vs=[]:=r;subst r;exact q
  | cons d ds ih=>
   intro es vs ws r q
   obtain ⟨v,vs',rfl,rv,rs⟩:=r
   exact ⟨v,vs'++ws,rfl,rv,ih rs q⟩
 intro ds
 induction ds with
 | nil=>intro vs r;have r:vs=[]:=r;subst r;rfl
 | cons d ds ih=>
  intro vs r
  obtain ⟨v,vs',rfl,rv,rs⟩:=r
  rw [Xo,Xo]
  exact app (ih rs) ⟨v,[],rfl,rv,rfl⟩
theorem Dr:Wu "reversed" =U7 (.type "reversed"):=by decide +kernel
section
variable{X:Cx}{XO:XOF}{cv:Cfg}{e:Vw}{f:FE}{tg:Vw}{tf:FT}{pos:Xz}
theorem GH(ht:Tg X cv tg tf)(h:PE X e (tF ⟨cv.cv,XO⟩ f))(hs:swapsWithSole [tg] e pos.line X.env=pure false:=by rfl)(hw:swappedStores [tg] e X.env=pure UA:=by rfl)(h1:(YI [tg] X.env).map (·.2)=[assign tg X.env]:=by rfl):PS X (.Assign [tg] e pos) (tS cv XO (bo tf f)):=by
 obtain ⟨gt,hg,hd⟩:=ht.ex
 refine PS.imp (R9 h hg hs hw h1) λD σ H ⟨H₀,F,ρ,r,g,e',k⟩=>?_
 refine kn g e' k λl d v H1 s1 r1 e1=>?_
 split at e1
 ·rename_i hlf
  cases htf:tf d ρ with
  | none=>rw [htf] at e1;cases e1
  | some ρ1=>
   rw [htf] at e1
   cases e1
   exact hd H₀ F ρ ρ1 σ H1 d v _ (g.same s1) (r1.nl hlf) htf λσ1 s2=>k σ1 H1 s2
 ·cases e1
end
end KT
namespace KT
open PySem PySem.Spec PyProof.Rows
theorem Iu:Zj (.type "list_reverseiterator") "__len__" =pure UA:=by rw [W3,VR];kernel_rfl
theorem slot_lri_hint:PySem.Slot "list_reverseiterator" "__length_hint__" "list_reverseiterator.__length_hint__":=
 .of (owner:="list_reverseiterator") (n:="__length_hint__") (by rw [W3,VR];kernel_rfl) (by decide +kernel) (by decide +kernel) (by decide +kernel)
  (by first | exact .inl (by decide +kernel) | exact .inr (by decide +kernel)) (by rw [WJ];kernel_rfl)
theorem PY:isSubtype (.type "list_reverseiterator") (.type "list_reverseiterator")=pure true:=by rw [WJ];kernel_rfl
section
variable{prog:Vn}{w:Vz}{A:VG}{E:UB->UG->Prop}{s:UG}
theorem ND{it l:UL}{i:Int}{Q:Bool->UG->Prop}(hit:s.heap.IsRevIter it l i)(h:Q false s):UZ (Vh prog w) A (WS (.ref it)) Q E s:=by
 unfold WS
 refine U9 (Xf hit.typeIs Iu ?_)
 try dsimp only
 refine Vy (λhab=>absurd hab (by decide +kernel)) (λ_=>?_)
 refine Vy (λhab=>absurd hab (by decide)) (λ_=>?_)
 refine U9 (Xf hit.typeIs slot_lri_hint.lookup ?_)
 generalize hid:("list_reverseiterator.__length_hint__":String)=id0
 wp_delta
 rw [show splitId id0=U7 ("list_reverseiterator","__length_hint__") from by subst hid;decide +kernel]
 subst hid
 refine U9 (Yf (T:="list_reverseiterator") (b:=true) hit.typeIs PY ?_)
 refine Vy (λhab=>absurd hab (by decide)) (λ_=>?_)
 refine Vy (λ_=>?_) (λhab=>absurd (by decide +kernel) hab)
 refine Vy (λhab=>absurd hab (by decide)) (λ_=>?_)
 exact UK h
theorem HG{R:Result->UG->Prop}{r t:UL}{items:Array UB}(hh:A.handled=UA)(hr:s.heap.IsRevIter r t ((items.size:Int) - 1))(ht:s.heap.IsList t items)(hlen:items.size<=2 ^ 20)(hne:t≠r)(S:UL)(res:UB)(c₀:Nat)(hSr:S≠r)(hSt:S≠t)
  (hS:s.heap.get? S=U7 {cls:=.type "list",data:=.seq #[] c₀})
  (hR:∀ h' tk acc' c',(∀ b o,b≠S->b≠r->s.heap.get? b=U7 o->h'.get? b=U7 o)->h'.get? S=U7 {cls:=.type "list",dict:=UA,data:=.seq acc' c',slots:=#[]}->
    Zn (λi v=>items[items.size - 1 - i]? =U7 v) acc' items.size->R (.ok (.ret res)) {s with heap:=h',toks:=tk}):
  UZ (Vh prog w) A.in1 (Vv (.ref S) (.ref r) res)
   (λfin s'=>match fin with | .done f=>R (.ok f) s' | .again c'=>c'.quiet=true/\Yu (Vh prog w) A c' R s') (λe s'=>R (.error e) s') s:=by
 have hSf:S∉[r,t]:=by simp [hSr,hSt]
 have W:=(Walks.listRev (prog:=prog) (w:=w) (A:=A.in1) hh r t hne items).toS
 unfold Vv
 refine U9 (X9 (T:="list_reverseiterator") hr.typeIs ?_)
 have h1:Xy (.ref S) (.ref r)=false:=by simp [Xy,hSr]
 have h2:(Wa "list_reverseiterator" == Wa "list")=false:=by decide
 have h3:(Wa "list_reverseiterator" == Wa "tuple")=false:=by decide
 simp only [h1,h2,h3,Bool.or_false,WA,if_false]
 refine U9 (wpAny_pyIter_revIter hr ?_)
 refine U9 (WE (ND hr ?_))
 refine Vy (λhab=>absurd hab (by decide +kernel)) (λ_=>UK ⟨Yr F.plain_extend_loop _,?_⟩)
 refine codeAny_extend_loopS W (by rw [Y0];omega) S hSf res items.size 0 _ #[] c₀ rfl (VJ _) ⟨VJ _,by simpa using hr,ht⟩ hS (Zn.nil _) λs' acc' c' hm hS' hacc=>?_
 rw [Moved.eq_with hm]
 refine hR s'.heap s'.toks acc' c' (λb o hb hb2 e=>hm.heap b o (λhmem=>?_) e) hS' hacc
 rcases Vl.mp hmem with e' | hmem
 ·exact hb e'
 ·exact hb2 (V7.mp hmem)
theorem KN{R:Result->UG->Prop}{r t:UL}{items:Array UB}(hh:A.handled=UA)(hr:s.heap.IsRevIter r t ((items.size:Int) - 1))(ht:s.heap.IsList t items)(hlen:items.size<=2 ^ 20)(hne:t≠r)(S:UL)(hSr:S≠r)(hSt:S≠t)
  (hS:s.heap.get? S=U7 {cls:=.type "list",data:=.seq #[]})
  (hR:∀ h' tk acc' c',(∀ b o,b≠S->b≠r->s.heap.get? b=U7 o->h'.get? b=U7 o)->h'.get? S=U7 {cls:=.type "list",dict:=UA,data:=.seq acc' c',slots:=#[]}->
    Zn (λi v=>items[items.size - 1 - i]? =U7 v) acc' items.size->R (.ok (.ret .none)) {s with heap:=h',toks:=tk}):
  UZ (Vh prog w) A.in1 (Vo.«list.__init__» ⟨[.ref S,.ref r],[]⟩)
   (λfin s'=>match fin with | .done f=>R (.ok f) s' | .again c'=>c'.quiet=true/\Yu (Vh prog w) A c' R s') (λe s'=>R (.error e) s') s:=by
 show UZ _ _ (do let old <- XB (.ref S);Y5 (.ref S) (λ_=>#[]);letGo old.toList.reverse;Vv (.ref S) (.ref r) .none) _ _ s
 refine U9 ?_
 unfold XB
 refine U9 (wpAny_seqItems hS rfl (UK ?_))
 show UZ _ _ (updateSeq S (λ_=>#[]) >>= λ_=>letGo (#[]:Array UB).toList.reverse >>= λ_=>Vv (.ref S) (.ref r) .none) _ _ s
 refine U9 (Yv hS rfl ?_)
 have hS₂:=VQ (WZ (λ_=>(#[]:Array UB))) hS rfl
 have oth:∀ b o,b≠S->s.heap.get? b=U7 o->(s.heap.update S (WZ (λ_=>(#[]:Array UB)))).get? b=U7 o:=
  λb o hb e=>(V0 _ _ (Wv hb)).trans e
 refine U9 (wpAny_letGo ?_)
 refine HG hh (hr.at λo e=>oth r o (Wv hSr) e) (ht.at λo e=>oth t o (Wv hSt) e) hlen hne S .none _ hSr hSt hS₂ λh' tk acc' c' hk hS' hacc=>?_
 exact hR h' tk acc' c' (λb o hb hb2 e=>hk b o hb hb2 (oth b o hb e)) hS' hacc
theorem CA{Q:UB->UG->Prop}{r t:UL}{items:Array UB}(hh:A.handled=UA)(hr:s.heap.IsRevIter r t ((items.size:Int) - 1))(ht:s.heap.IsList t items)(hlen:items.size<=2 ^ 20)(hne:t≠r)
  (hQ:∀ h' tk acc' c',(∀ b o,b≠r->s.heap.get? b=U7 o->h'.get? b=U7 o)->
    h'.get? s.heap.objs.size=U7 {cls:=.type "list",dict:=UA,data:=.seq acc' c',slots:=#[]}->Zn (λi v=>items[items.size - 1 - i]? =U7 v) acc' items.size->Q (.ref s.heap.objs.size) {s with heap:=h',toks:=tk}):
  UZ (Vh prog w) A (call (.type "list") [.ref r]) Q E s:=by
 refine callType_codes (Q₁:=λobj s₁=>obj= .ref s.heap.objs.size/\s₁= {s with heap:=s.heap.push {cls:=.type "list",data:=.seq #[]}}) F.called_list (F.typeCall_list_1 _) F.entry_list_init
  (code_list_new _ ⟨rfl,rfl⟩) λobj s₁ h₁=>?_
 obtain ⟨rfl,rfl⟩:=h₁
 have hS:(s.heap.push {cls:=.type "list",data:=.seq #[]}).get? s.heap.objs.size=U7 {cls:=.type "list",data:=.seq #[]}:=US _ rfl
 have n1:s.heap.objs.size≠r:=by obtain ⟨o,e,_⟩:=hr;exact Wr (UT e)
 have n2:s.heap.objs.size≠t:=by obtain ⟨o,e,_⟩:=ht;exact Wr (UT e)
 refine ⟨⟨_,hS,rfl⟩,F.args_list_init_2 _ _,KN (A:=A.in1) hh (hr.at λo e=>UH _ e) (ht.at λo e=>UH _ e) hlen hne _ n1 n2 hS λh' tk acc' c' hk hS' hacc=>?_⟩
 exact ⟨rfl,hQ h' tk acc' c' (λb o hb e=>hk b o (Vt (UT e)) hb (UH _ e)) hS' hacc⟩
end
end KT
namespace KT
open PySem PySem.Spec PyProof.Rows L2
noncomputable def S3(K:UF):List V->Hp->VK->Prop:=λxs H Q=>∃ t ys,xs=[.ref t]/\(SqT K H t ys∨SqL K H t ys)/\ys.length<=big/\∀ l,H l=UA->Q (.ref l) (upd H l (.lst ys.reverse))
section
variable{X:Cx}{XO:XOT}{e:Vw}{fa:FE}{pos p p2 p3:Xz}
theorem CP(C:BC X)(hc:X.calm=true)(ha:PE X e (tF XO fa))(hg:Gl X "list":=by rfl)(hgr:Gl X "reversed":=by rfl)(he:UJ [e] X.env=(false,VN e X.env)::UJ [] X.env:=by exact qe rfl)(hpl:(VC p3 (UJ [] X.env)).any (·.1)=false:=by exact wj rfl)
  (he':UJ [.Call (.Name "reversed" p2) [e] [] p3] X.env=(false,VN (.Call (.Name "reversed" p2) [e] [] p3) X.env)::UJ [] X.env:=by exact qe rfl) (hpl':(VC pos (UJ [] X.env)).any (·.1)=false:=by exact wj rfl):
  PE X (.Call (.Name "list" p) [.Call (.Name "reversed" p2) [e] [] p3] [] pos) (tF XO (ag fa)):=by
 intro pins s σ H Q I h
 have h':=AU (r:=S3 X.K) (op:=ak) (λH₀ Hs H l x d v Q s0 s1 e rx q=>by
  unfold ak at e
  split at e
  ·rename_i xs
   split at e
   ·rename_i hcond
    rw [Ve,decide_eq_true_eq] at hcond
    cases e
    obtain ⟨t,vs,rfl,hp,rs⟩:=rx
    exact ⟨t,vs,rfl,.inl (.inl hp),by rw [rs.length];exact hcond.2,λm hm=>q _ _ (qc hm _) ⟨m,_,rfl,.inl ⟨⟨rfl,s1.free hm⟩,z9⟩,(GF (rs.nl hcond.1)).same (qc hm _)⟩⟩
   ·cases e
  ·rename_i xs
   split at e
   ·rename_i hcond
    rw [Ve,decide_eq_true_eq] at hcond
    cases e
    obtain ⟨t,vs,rfl,hp,rs⟩:=rx
    exact ⟨t,vs,rfl,.inr (.inl hp.rd),by rw [rs.length];exact hcond.2,λm hm=>q _ _ (qc hm _) ⟨m,_,rfl,.inl ⟨⟨rfl,s1.free hm⟩,z9⟩,(GF (rs.nl hcond.1)).same (qc hm _)⟩⟩
   ·cases e
  ·cases e) h
 have h2:tF XO fa σ H (λv H1=>S3 X.K [v] H1 Q):=h'
 refine W8 (oj I hg C.mlist YA ?_ (by decide) (by decide))
 refine Wg ?_ he' hpl'
 rw [he']
 show UZ _ _ (spliced ((false,VN (.Call (.Name "reversed" p2) [e] [] p3) X.env)::VC pos (UJ [] X.env))) _ _ s
 refine WX ?_
 refine W8 (oj I hgr C.mrev Dr ?_ (by decide) (by decide))
 refine Wg ?_ he hpl
 rw [he]
 show UZ _ _ (spliced ((false,VN e X.env)::VC p3 (UJ [] X.env))) _ _ s
 refine WX (thn (ha pins s σ H _ I h2) λu s1 ⟨x,H1,I1,rx,t,ys,ex,hq,hb,q⟩=>?_)
 have ex:x= .ref t:=by simpa using ex
 subst ex
 cases rx
 refine Xi ?_
 rcases hq with hq | hq
 ·obtain ⟨its,rv,ht,hz⟩:=I1.tuple hq
  have hl:=rv.length
  have hbb:big < 2 ^ 20:=by decide
  refine Fd ht (by simp;omega) ?_
  refine Xi ?_
  have hr:IsRevT (s1.heap.push (KR t ((its.toArray.size:Int) - 1))) s1.heap.objs.size t ((its.toArray.size:Int) - 1):=⟨_,US _ rfl,rfl,rfl⟩
  have htl:t < s1.heap.objs.size:=by obtain ⟨o,e,_⟩:=ht;exact UT e
  refine Dp (I1.ok.hd hc) hr (DS ht λo e=>UH _ e) (by simp;omega) (Vt htl) λh3 tk acc c hk hD hI=>?_
  have hsz:(s1.heap.push (KR t ((its.toArray.size:Int) - 1))).objs.size=s1.heap.objs.size+1:=YB ..
  have eacc:=En hI
  refine ⟨.ref (s1.heap.push (KR t ((its.toArray.size:Int) - 1))).objs.size,_,I1.laid (t':=tk) (λb o q=>hk b o (Vt (UT q)) (UH _ q)) (by rw [hsz];exact YM _ 1)
   (show ObjOk X.prog X.w _ h3 _ (.lst ys.reverse) from ⟨by rw [List.length_reverse];exact hz,its.reverse,c,Ce rv,by rw [<- eacc];simpa using hD⟩),rfl,q _ (I1.hok.fresh (by rw [hsz];exact YM _ 1))⟩
 ·obtain ⟨its,rv,pl,hz⟩:=I1.list hq
  have ht:=pl.isList
  have hl:=rv.length
  have hbb:big < 2 ^ 20:=by decide
  refine call_reversed_list ht ?_
  refine Xi ?_
  have hr:(s1.heap.push (revObj t ((its.toArray.size:Int) - 1))).IsRevIter s1.heap.objs.size t ((its.toArray.size:Int) - 1):=⟨_,US _ rfl,rfl,rfl⟩
  have htl:t < s1.heap.objs.size:=by obtain ⟨o,e,_⟩:=ht;exact UT e
  refine CA (I1.ok.hd hc) hr (ht.at λo e=>UH _ e) (by simp;omega) (Vt htl) λh3 tk acc c hk hD hI=>?_
  have hsz:(s1.heap.push (revObj t ((its.toArray.size:Int) - 1))).objs.size=s1.heap.objs.size+1:=YB ..
  have eacc:=En hI
  refine ⟨.ref (s1.heap.push (revObj t ((its.toArray.size:Int) - 1))).objs.size,_,I1.laid (t':=tk) (λb o q=>hk b o (Vt (UT q)) (UH _ q)) (by rw [hsz];exact YM _ 1)
   (show ObjOk X.prog X.w _ h3 _ (.lst ys.reverse) from ⟨by rw [List.length_reverse];exact hz,its.reverse,c,Ce rv,by rw [<- eacc];simpa using hD⟩),rfl,q _ (I1.hok.fresh (by rw [hsz];exact YM _ 1))⟩
end
noncomputable def Itd(lo:Int)(n:Nat):It:=⟨λi _=>i < n,λi H x H'=>H'=H/\x= .int (lo - i),λi _=>n<=i⟩
theorem L5{P:Vn}{w:Vz}{K:UF}{tg:Vw}(it:UL)(lo:Int)(n:Nat):Turn P w K tg (Itd lo n) [it] it (λi h=>IsRangeIter h it (lo+(i:Nat) * (-1)) ((n:Int) - (i:Nat)) (-1)) where
 mem:=by simp
 obj:=λi h st b hb=>by
  have e:b=it:=by simpa using hb
  subst e
  exact ⟨_,st,λv z=>by
   have z':Data.fields _=Data.cell v:=z
   cases z'⟩
 keep:=λi h h' st k=>k it (by simp) _ st
 item:=by
  intro X hP hw hK hc i pins s σ H E I hf st hg
  subst hP hw hK
  obtain ⟨f0,f1,f2,f3,f4,f5⟩:=hf it (by simp)
  have W:=Walks.range (prog:=X.prog) (w:=X.w) (I.ok.hd hc) it lo (-1) n
  refine W.item i s _ _ hg st λv h' tk hv st' kk=>?_
  obtain ⟨t,rfl⟩:=hv
  have I1:Inv X pins σ H {s with heap:=h',toks:=tk}:=I.turned (λb o hb e=>kk b o (by simpa using hb) e) f0 f1 f3 f4 f5
  refine ⟨_,rfl,K5 (s:={s with heap:=h',toks:=tk}) (n:="range_iterator") st' rfl rfl (by decide) ⟨.int (lo - i),H,I1,⟨t,?_⟩,⟨rfl,rfl⟩,st',λb hb=>(hf b hb).1⟩⟩
  congr 1
  omega
 done:=by
  intro X hP hw hK hc i pins s σ H E I hf st hg
  subst hP hw hK
  obtain ⟨f0,f1,f2,f3,f4,f5⟩:=hf it (by simp)
  exact wpAny_pyNext_range_end (I.ok.hd hc) st (by have:n<=i:=hg;omega) λh' eb=>⟨rfl,I.turned (t':=s.toks) (λb o hb e=>eb b o hb e) f0 f1 f3 f4 f5⟩
 self:=λ_ _ _ _ _ st h=>wpAny_pyIter_rangeiter st h
section
variable{X:Cx}{tg:Vw}
theorem P4{pins:List (UL×WK)}{σ:L2.St}{H:Hp}{s:UG}{R:It->Hp->Prop}{E:UB->UG->Prop}{lo hi:Int}{t u v:Tok}{tk:Nat}(I:Inv X pins σ H s)(h1:-(2 ^ 62)<=lo)(h2:lo < 2 ^ 62)(h3:-(2 ^ 62)<=hi)(h4:hi < 2 ^ 62)
  (q:R (Itd lo (lo - hi).toNat) H):UZ (Vh X.prog X.w) X.A (pyIter (.ref s.heap.objs.size)) (PIE X pins σ tg R) E {s with heap:=s.heap.push {cls:=.type "range",data:=.fields #[.int lo t,.int hi u,.int (-1) v]},toks:=tk}:=by
 refine wpAny_pyIter_range (IsRange.new ..) (PySem.W.small_down h1 h2 h3 h4) ?_
 have I1:Inv X pins σ H {s with heap:=s.heap.push {cls:=.type "range",data:=.fields #[.int lo t,.int hi u,.int (-1) v]},toks:=tk}:=I.kept λb o e=>UH _ e
 refine ⟨(s.heap.push {cls:=.type "range",data:=.fields #[.int lo t,.int hi u,.int (-1) v]}).objs.size,[(s.heap.push {cls:=.type "range",data:=.fields #[.int lo t,.int hi u,.int (-1) v]}).objs.size],_,_,H,rfl,
  I1.kept (t':=tk) λb o e=>UH _ e,L5 _ lo (lo - hi).toNat,?_,λb hb=>?_,q⟩
 ·have e1:lo+((0:Nat):Int) * (-1)=lo:=by simp
  have e2:(((lo - hi).toNat:Nat):Int) - ((0:Nat):Int)=Vo.Range.rangeSize lo hi (-1):=by rw [PySem.W.rangeSize_downNat];omega
  show IsRangeIter _ _ (lo+((0:Nat):Int) * (-1)) ((((lo - hi).toNat:Nat):Int) - ((0:Nat):Int)) (-1)
  rw [e1,e2]
  exact US _ rfl
 ·have e:b=(s.heap.push {cls:=.type "range",data:=.fields #[.int lo t,.int hi u,.int (-1) v]}).objs.size:=by simpa using hb
  subst e
  exact I1.fpOk (UI _) (I1.hok.fresh (UI _))
noncomputable def Tb(ta:TA):TI:=λσ H R=>ta σ H λvs H1=>∃ i j:Int,vs=[.int i,.int j,.int (-1)]/\(-(2 ^ 60)<=i/\i < 2 ^ 60/\-(2 ^ 60)<=j/\j < 2 ^ 60)/\R (Itd i (i - j).toNat) H1
theorem Oo{a b c:Vw}{ta:TA}{p pos:Xz}(hg:Gl X "range")(hm:X.mg "range" =UA)(ha:PA X [a,b,c] ta)(hs:UJ [a,b,c] X.env=(false,VN a X.env)::UJ [b,c] X.env)(hpl:(VC pos (UJ [b,c] X.env)).any (·.1)=false):
  PI X tg (.Call (.Name "range" p) [a,b,c] [] pos) (Tb ta):=by
 intro pins s σ H R I h
 refine Call_ (oj I hg hm boot_range (Wg (thn (ha pos pins s σ H _ I h) λus s1 ⟨vs,H1,I1,r1,q1⟩=>?_) hs hpl))
 obtain ⟨i,j,e,⟨q1,q2,q3,q4⟩,q⟩:=q1
 subst e
 cases r1 with
 | cons r rr=>
  cases rr with
  | cons r' rr=>
   cases rr with
   | cons r'' rr=>
    cases rr
    obtain ⟨t,rfl⟩:=r
    obtain ⟨t',rfl⟩:=r'
    obtain ⟨t'',rfl⟩:=r''
    exact call_range_3 (by decide) (P4 I1 (by omega) (by omega) (by omega) (by omega) q) (.inl (PyProof.noPylong_small (by omega)))
end
section
variable{X:Cx}{XO:XOT}{tg e e2 e3:Vw}{f f2 f3:FE}{pos p p1 p2 p3 p4:Xz}
theorem Hl{Z:Hp}{n:Nat}:i4 Z (Itd ((n:Int) - 1) n) (xc n):=λH2 s i=>by
 refine ⟨λd hd=>?_,λhi=>?_⟩
 ·unfold xc at hd
  rw [Vu] at hd
  cases hr:(VM n)[i]? with
  | none=>rw [hr] at hd;cases hd
  | some k=>
   rw [hr] at hd
   cases hd
   obtain ⟨hlt,hk⟩:=UV.mp hr
   rw [List.length_range] at hlt
   rw [List.getElem_range] at hk
   subst hk
   refine ⟨hlt,λx H3 y=>?_⟩
   obtain ⟨e,y⟩:=y
   subst e y
   exact ⟨Same.refl _,rfl⟩
 ·show n<=i
  rw [hi]
  simp [xc]
theorem QC(C:BC X){j1 j2:Nat}(h:PE X e (tF XO f))(hg:Gl X "range":=by rfl)
  (hs:UJ [e,.UnaryOp .USub (.Constant (.int 1) j1 p1) p2,.UnaryOp .USub (.Constant (.int 1) j2 p3) p4] X.env=(false,VN e X.env)::UJ [.UnaryOp .USub (.Constant (.int 1) j1 p1) p2,.UnaryOp .USub (.Constant (.int 1) j2 p3) p4] X.env:=by exact qe rfl)
  (hpl:(VC pos (UJ [.UnaryOp .USub (.Constant (.int 1) j1 p1) p2,.UnaryOp .USub (.Constant (.int 1) j2 p3) p4] X.env)).any (·.1)=false:=by exact wj rfl):
  PI X tg (.Call (.Name "range" p) [e,.UnaryOp .USub (.Constant (.int 1) j1 p1) p2,.UnaryOp .USub (.Constant (.int 1) j2 p3) p4] [] pos) (tI XO (C2 f)):=
 PI.imp (Oo hg C.mrange (zb h (zb (Qx zg) (zb (Qx zg) (zh (XO:=XO)) (qe rfl)) (qe rfl)) hs) hs hpl) λσ H R ⟨H₀,Hs,ρ,r,g,e,k,kx⟩=>by
  unfold C2 at e
  split at e
  ·rename_i l a hf
   split at e
   ·rename_i hn
    cases e
    have hb:big < 2 ^ 40:=by decide
    refine ⟨H₀,Hs,ρ,.ok (min l (min 2 (min 2 2))) [.int a,.int (-1),.int (-1)],g,by simp [zo,hf,TJ,e1,eC,zk,PX],λl' ds vs H1 e' s1 r1=>?_,λc H' e=>(nomatch e)⟩
    cases e'
    obtain ⟨v1,vr,rfl,q1,r1⟩:=r1
    obtain ⟨v2,vr,rfl,q2,r1⟩:=r1
    obtain ⟨v3,vr,rfl,q3,r1⟩:=r1
    have r1:vr=[]:=r1
    subst r1
    refine ⟨a,-1,by rw [show v1=V.int a from q1,show v2=V.int (-1) from q2,show v3=V.int (-1) from q3],by omega,?_⟩
    refine k 2 _ _ H1 rfl s1 λZ _ _=>?_
    rw [show (a - -1).toNat=(a+1).toNat by omega]
    by_cases ha:0<=a+1
    ·have e1:a=(((a+1).toNat:Nat):Int) - 1:=by omega
     have:=Hl (Z:=Z) (n:=(a+1).toNat)
     rw [<- e1] at this
     exact this
    ·have e0:(a+1).toNat=0:=by omega
     rw [e0]
     exact λH2 s i=>⟨λd hd=>by simp [xc] at hd,λ_=>VJ _⟩
   ·cases e
  ·rename_i c hf
   cases e
   exact ⟨H₀,Hs,ρ,.exc c,g,by simp [zo,hf],λl' ds vs H1 e'=>(nomatch e'),λc' H' e' s=>kx c' H' (by cases e';rfl) s⟩
  ·cases e
structure KTup(K:UF)(mg:Vk->Option UB)(x:Vk)(d:U8):Prop where
 ex:∃ (a:UL) (ds:List U8) (vs:List V),d= .tuple ds/\mg x=U7 (.ref a)/\(∀ H:Hp,SqT K H a vs)/\∀ (P:PP) (H:Hp),Reps P H ds vs
end
structure FunT(K:UF)(mg:Vk->Option UB)(x:Vk)(st:VW)(ps:List Vk):Prop where
 ex:∃ f fd,Fun K x x st f fd/\mg x=U7 (.ref f)/\Binds K fd ps []/\∀ (s:UG) (us:List UB),us.length=ps.length->BindsTo s fd ⟨us,[]⟩ (ps.zip us)
section
variable{P:Vn}{w:Vz}{K:UF}{mg:Vk->Option UB}{base:V1}{cv:Nat->UB}{CX:CXT}{n ar:Nat}{x:Vk}{st:VW}{ps:List Vk}{g:FC}
theorem fh(F:FunT K mg x st ps):FnF CX P w K mg base cv 0 x ar (λ_=>UA):=by
 obtain ⟨f,fd,F,hm,hb,_⟩:=F.ex
 have no:∀ vs H Q E,¬ spD cv ar (λ_=>UA) vs H Q E:=λvs H Q E h=>by
  obtain ⟨ds,r,_,_,z,_⟩:=h
  cases z
 exact ⟨f,fd,ps,⟨λvs H Q E h=>absurd h (no vs H Q E),λA outer s H args us vs Q E _ _ _ _ h=>absurd h (no vs H Q E)⟩,hm,F.kp,hb⟩
theorem fg(F:FunT K mg x st ps)(ok:∀ f fd,Fun K x x st f fd->FnOk P w K mg base CX n f fd ps (spD cv ar g)):FnF CX P w K mg base cv n x ar g:=by
 obtain ⟨f,fd,F,hm,hb,_⟩:=F.ex
 exact ⟨f,fd,ps,ok f fd F,hm,F.kp,hb⟩
theorem Pm{h:V1}{f:UL}{oc:UB}{od an:Option UL}{osl:Array (Option UB)}{kV doc pm cdv ct:UB}(X:K.In h)(G:h.Ns V2 mg)(a:Xp K V2 x=U7 (U7 (.ref f)))
  (l:K.lookup f=U7 ⟨oc,od,.func (Wh x x (xo st) (vz st) (zx st) .none kV doc pm an cdv ct),osl⟩) (c:XZ K cdv x=true) (k:X2 K (.ref f)=true)
  (hb:∀ (kV doc pm:UB) (an:Option UL) (cdv ct:UB) (us:List UB),us.length=ps.length->Zh (Wh x x (xo st) (vz st) (zx st) .none kV doc pm an cdv ct) ⟨us,[]⟩=pure (ps.zip us)):FunT K mg x st ps:=
 have F:=Rz (st:=st) l c k
 ⟨f,_,F,PySem.W.mg_of X G a,F.binds hb,λs us hl=>.of_eq (hb kV doc pm an cdv ct us hl)⟩
end
theorem Tp{us:List UB}(h:us.length=1):∃ a,us=[a]:=List.length_eq_one_iff.mp h
theorem Tu{us:List UB}(h:us.length=2):∃ a b,us=[a,b]:=by
 cases us with
 | nil=>cases h
 | cons a r=>obtain ⟨b,rfl⟩:=Tp (by simpa using h);exact ⟨a,b,rfl⟩
theorem SZ{us:List UB}(h:us.length=3):∃ a b c,us=[a,b,c]:=by
 cases us with
 | nil=>cases h
 | cons a r=>obtain ⟨b,c,rfl⟩:=Tu (by simpa using h);exact ⟨a,b,c,rfl⟩
theorem TZ{us:List UB}(h:us.length=4):∃ a b c d,us=[a,b,c,d]:=by
 cases us with
 | nil=>cases h
 | cons a r=>obtain ⟨b,c,d,rfl⟩:=SZ (by simpa using h);exact ⟨a,b,c,d,rfl⟩
noncomputable def Ap(K:UF):Bool:=K.all λp=>p.2.cls != .type "list"
theorem G4:∀ {K:UF} {a:UL} {o:WK},K.lookup a=U7 o->(a,o)∈K
 | [],_,_,e=>by cases e
 | (b,u)::r,a,o,e=>by
  rw [WW] at e
  by_cases z:(a == b)=true
  ·rw [z] at e
   cases e
   have:a=b:=by simpa using z
   subst this
   exact UN
  ·have z:(a == b)=false:=by simpa using z
   rw [z] at e
   exact UQ _ (G4 e)
theorem Ib{K:UF}(h:Ap K=true){a:UL}{o:WK}(e:K.lookup a=U7 o):o.cls≠.type "list":=by
 unfold Ap at h
 rw [List.all_eq_true] at h
 have:=h (a,o) (G4 e)
 simpa using this
theorem DI{P:PP}{H:Hp}:∀ ns:List Int,Reps P H (ns.map .int) (ns.map V.int)
 | []=>rfl
 | n::r=>⟨.int n,_,rfl,rfl,DI r⟩
theorem IK{K:UF}{H:Hp}{a:UL}{ns:List Int}(hk:Ap K=true)(h:SqL K H a (ns.map V.int)):Rep (λ_ _=>True) H (.list (ns.map .int)) (.ref a):=by
 rcases h with h | ⟨o,its,n,hl,hc,_⟩
 ·exact ⟨a,_,rfl,h.elim (λz=>.inl ⟨trivial,z⟩) λz=>.inr ⟨trivial,z⟩,DI ns⟩
 ·exact absurd hc (Ib hk hl)
noncomputable def QV:Nat->Vk
 | 1=>"NotRead"
 | 2=>"NoTurning"
 | 3=>"NoNumber"
 | 4=>"NoThing"
 | 5=>"Unlike"
 | _=>"KindError"
noncomputable def gv(K:UF)(x:Vk):Option UB:=match Xp K V2 x with
 | some (U7 v)=>U7 v
 | _=>UA
noncomputable def OP(K:UF)(c:Nat):UB:=match gv K (QV c) with
 | some v=>v
 | none=>(gv K "KindError").getD .none
section
variable{K:UF}{h:V1}{mg:Vk->Option UB}{x:Vk}{sub:Nat->Bool}
theorem SE(X:K.In h)(G:h.Ns V2 mg)(hb:(["len","int","bool","str","tuple","list","isinstance","range","enumerate","zip","reversed"]:List Vk).all (λx=>Xp K V2 x == U7 UA)=true):MF mg:=by
 simp only [List.all_cons,List.all_nil,Bool.and_true,Ve,beq_iff_eq] at hb
 obtain ⟨a,b,c,d,e,f,g,i,j,k,l⟩:=hb
 exact ⟨V9 X G a,V9 X G b,V9 X G c,V9 X G d,V9 X G e,V9 X G f,V9 X G g,V9 X G i,V9 X G j,V9 X G k,V9 X G l⟩
end
theorem MW{P:Vn}{w:Vz}{H:Hp}{s:UG}{e:UB}{s':UG}(h:CX1 P w [] H s (λ_ _ _=>False) e s'):False:=by
 obtain ⟨_,_,_,_,_,_,_,_,_,z⟩:=h
 exact z
theorem Rw{K:UF}{cv:Nat->UB}{g:FC}{H:Hp}{a:UL}{ns:List Int}(hk:Ap K=true)(hg:g [.list (ns.map .int)]=U7 (.ok (.bool true)))(h:SqL K H a (ns.map V.int)):spD cv 1 g [.ref a] H (λv _=>v= .bl true) λ_ _ _=>False:=
 ⟨[.list (ns.map .int)],_,rfl,⟨.ref a,[],rfl,IK hk h,rfl⟩,hg,λd v H' e _ r=>by cases e;exact r,λc H' e=>(nomatch e)⟩
theorem Up{l:PySem.W.OpenLaw}{q:Vn}{loose:List Vk}{XP:(Vk->Option UB)->V1->Prop}{YP:Vz->V1->Prop}{d:DefRec}{K:Params->UF}{g:FC}{N:Nat}{st:VW}(hn:l.most=U7 63)(hdf:d.params.defaults=[])(hr:Room N callerA)
  (hY:∀ (w:Vz) (h:V1),YP w h->(K w.params).In h) (hd:d.name= "law")
  (F:∀ (w:Vz) (mg:Vk->Option UB) (h:V1),(K w.params).In h->h.Ns V2 mg->FunT (K w.params) mg "law" st ["script"]/\
    ∀ f fd,Fun (K w.params) "law" "law" st f fd->∀ base:V1,FnOk l.prog w (K w.params) mg base (CX1 l.prog w) N f fd ["script"] (spD (OP (K w.params)) 1 g))
  (hL:∀ w:Vz,Ap (K w.params)=true) (hg:∀ ns:List Int,ns.length<=63->g [.list (ns.map .int)]=U7 (.ok (.bool true))):
  PySem.W.WalkO q loose XP YP l.row.toRowW d [] (λf vs=>PySem.call f vs):=
 L2.P0 (n:=63) (k:=N) (x:="script") (CX:=λw=>CX1 l.prog w) (sp:=λw=>spD (OP (K w.params)) 1 g) hn (by decide) hdf hr hY (λw mg fa h KX G hm=>by
  obtain ⟨T,ok⟩:=F w mg h KX G
  obtain ⟨f,fd,FF,hmf,_,hb⟩:=T.ex
  rw [hd,hmf] at hm
  cases hm
  exact ⟨fd,λs u=>hb s [u] rfl,λbase _ _=>ok _ fd FF base⟩) (λw H a ns hl _ hS=>Rw (hL w) (hg ns hl) hS) λw H s e s' z=>MW z
noncomputable def scB:U8->UB->Bool
 | .int i,.int j _=>i == j
 | .str x,.str y _=>x == y
 | _,_=>false
noncomputable def JR:List U8->List UB->Bool
 | [],[]=>true
 | d::ds,u::us=>scB d u && JR ds us
 | _,_=>false
noncomputable def scV:U8->V
 | .int i=>.int i
 | .str x=>.str x
 | _=>.non
theorem RJ{d:U8}{u:UB}(h:scB d u=true):RelV (scV d) u/\∀ (P:PP) (H:Hp),Rep P H d (scV d):=by
 unfold scB at h
 split at h
 ·rename_i i j t
  have e:i=j:=by simpa using h
  subst e
  exact ⟨⟨t,rfl⟩,λ_ _=>rfl⟩
 ·rename_i x y t
  have e:x=y:=by simpa using h
  subst e
  exact ⟨⟨t,rfl⟩,λ_ _=>rfl⟩
 ·cases h
theorem Nd:∀ {ds:List U8} {us:List UB},JR ds us=true->Vals (ds.map scV) us/\∀ (P:PP) (H:Hp),Reps P H ds (ds.map scV)
 | [],[],_=>⟨.nil,λ_ _=>rfl⟩
 | d::ds,u::us,h=>by
  simp only [JR,Ve] at h
  obtain ⟨r1,p1⟩:=RJ h.1
  obtain ⟨r2,p2⟩:=Nd h.2
  exact ⟨.cons r1 r2,λP H=>⟨_,_,rfl,p1 P H,p2 P H⟩⟩
 | [],_::_,h=>by cases h
 | _::_,[],h=>by cases h
noncomputable def NV(K:UF)(x:Vk)(d:U8):Bool:=match d,Xp K V2 x with
 | .tuple ds,U7 (U7 (.ref a))=>(match K.lookup a with
  | some ⟨.type c,_,.seq its _,_⟩=>(c == "tuple") && decide (its.size<=1000) && JR ds its.toList
  | _=>false)
 | _,_=>false
theorem Oy{K:UF}{mg:Vk->Option UB}{h:V1}{x:Vk}{d:U8}(X:K.In h)(G:h.Ns V2 mg)(z:NV K x d=true):KTup K mg x d:=by
 unfold NV at z
 split at z
 ·rename_i ds a hn
  split at z
  ·rename_i c od its n sl hl
   simp only [Ve,beq_iff_eq,decide_eq_true_eq] at z
   obtain ⟨⟨rfl,hz⟩,hs⟩:=z
   obtain ⟨r,p⟩:=Nd hs
   exact ⟨a,ds,_,rfl,PySem.W.mg_of X G hn,λH=>.inr ⟨_,its,n,hl,rfl,rfl,UU hz (by decide),r⟩,p⟩
  ·cases z
 ·cases z
end KT
namespace KT
open PySem PySem.W PyProof.Rows
noncomputable def ev{α:Type}(lt:Nat->Nat->Bool):KasT α->α
 | .ret a=>a
 | .ask i j k=>ev lt (k (lt i j))
theorem o4{α β:Type}(lt:Nat->Nat->Bool)(f:α->KasT β):∀ t:KasT α,ev lt (t.bind f)=ev lt (f (ev lt t))
 | .ret _=>rfl
 | .ask i j k=>o4 lt f (k (lt i j))
section
variable{O:Zt}(κ:Nat->O.α)
noncomputable def Ky(p:Array Nat)(i:Nat):O.α:=κ (p.getD i 0)
noncomputable def lto(i j:Nat):Bool:=O.blt (κ i) (κ j)
noncomputable def ml(p:Array Nat)(k:Nat):Prop:=∀ i j,i<=j->j < k->O.kle (Ky κ p i) (Ky κ p j)
noncomputable def IL(p:Array Nat)(k:Nat):Prop:=∀ i j,i<=j->j < k->O.kle (Ky κ p j) (Ky κ p i)
variable{κ}
theorem mr{p q:Array Nat}{i j:Nat}(h:p[i]? =q[j]?):Ky κ p i=Ky κ q j:=by
 have:p.getD i 0=q.getD j 0:=by
  rw [XW,XW,h]
 unfold Ky;rw [this]
theorem DL{p:Array Nat}{src d:Nat}(hs:src < p.size)(hd:d<=src)(k:Nat):Ky κ (bubble p src d) k=if k=src - d then Ky κ p src else if src - d < k/\k<=src then Ky κ p (k - 1) else Ky κ p k:=by
 have e:=getElem?_bubble hs d hd k
 split
 ·rename_i h;rw [if_pos h] at e;exact mr e
 ·rename_i h
  rw [if_neg h] at e
  split
  ·rename_i h2;rw [if_pos h2] at e;exact mr e
  ·rename_i h2;rw [if_neg h2] at e;exact mr e
theorem F6{p:Array Nat}{i j:Nat}(hj:j<=p.size)(k:Nat):Ky κ (kas_rev p i j) k=if i<=k/\k < j then Ky κ p (i+j - 1 - k) else Ky κ p k:=by
 have e:=getElem?_mirror_all (i:=i) hj k
 unfold kas_rev
 split
 ·rename_i h;rw [if_pos h] at e;exact mr e
 ·rename_i h;rw [if_neg h] at e;exact mr e
theorem Cz{p:Array Nat}{i j:Nat}(hj:j<=p.size)(he:∀ k,i<=k->k < j->Ky κ p k=Ky κ p (j - 1))(k:Nat):Ky κ (kas_rev p i j) k=Ky κ p k:=by
 rw [F6 hj]
 split
 ·rename_i h;rw [he k h.1 h.2,he (i+j - 1 - k) (by omega) (by omega)]
 ·rfl
theorem aj(p:Array Nat)(i j:Nat):(kas_rev p i j).size=p.size:=mirror_size _ _ _ _
theorem Am(p:Array Nat)(i j:Nat):(kas_rev p i j).Perm p:=mirror_perm _ _ _ _
theorem o9{a b:O.α}(h:O.blt a b=false):O.kle b a:=h
theorem ae{a b:O.α}(h:O.blt a b=true):O.kle a b:=Zt.kle_of_klt h
theorem Nk(p:Array Nat):ml κ p 1:=λi j h1 h2=>by
 have:i=j:=by omega
 subst this;exact XH _
theorem LO{p:Array Nat}{n:Nat}(h1:1<=n)(h:ml κ p n)(e:O.kle (Ky κ p (n - 1)) (Ky κ p n)):ml κ p (n+1):=λi j hij hj=>by
 by_cases hjn:j=n
 ·subst hjn
  by_cases hi:i=j
  ·subst hi;exact XH _
  ·exact WB (h i (j - 1) (by omega) (by omega)) e
 ·exact h i j hij (by omega)
theorem o5{p:Array Nat}{n:Nat}(h1:1<=n)(h:IL κ p n)(e:O.kle (Ky κ p n) (Ky κ p (n - 1))):IL κ p (n+1):=λi j hij hj=>by
 by_cases hjn:j=n
 ·subst hjn
  by_cases hi:i=j
  ·subst hi;exact XH _
  ·exact WB e (h i (j - 1) (by omega) (by omega))
 ·exact h i j hij (by omega)
theorem Io(p:Array Nat):∀ (f n:Nat),1<=n->ml κ p n->ml κ p (ev (lto κ) (kas_asc p f n))/\n<=ev (lto κ) (kas_asc p f n)/\ev (lto κ) (kas_asc p f n)<=n+f/\(ev (lto κ) (kas_asc p f n) < n+f->O.blt (Ky κ p (ev (lto κ) (kas_asc p f n))) (Ky κ p (ev (lto κ) (kas_asc p f n) - 1))=true)
 | 0,n,_,h=>⟨h,UI _,UI _,λz=>absurd z (Wo _)⟩
 | f+1,n,h1,h=>by
  have e:ev (lto κ) (kas_asc p (f+1) n)=ev (lto κ) (if lto κ (p.getD n 0) (p.getD (n - 1) 0)=true then .ret n else kas_asc p f (n+1)):=rfl
  rw [e]
  cases q:lto κ (p.getD n 0) (p.getD (n - 1) 0) with
  | true=>exact ⟨h,UI _,by show n<=_;omega,λ_=>q⟩
  | false=>
   rw [if_neg (by simp)]
   obtain ⟨a,b,c,d⟩:=Io p f (n+1) (by omega) (LO h1 h (o9 q))
   exact ⟨a,by omega,by omega,λz=>d (by omega)⟩
theorem B3:∀ (f:Nat) (p:Array Nat) (n q:Nat),q+1<=n->n+f<=p.size->IL κ p n->(∀ i,n - (q+1)<=i->i < n->Ky κ p i=Ky κ p (n - 1))->
  ∃ p' n' q',ev (lto κ) (kas_desc f p n q)=(p',n',q')/\p'.Perm p/\q'+1<=n'/\n'<=n+f/\IL κ p' n'/\∀ i,n' - (q'+1)<=i->i < n'->Ky κ p' i=Ky κ p' (n' - 1)
 | 0,p,n,q,h1,h2,h3,h4=>⟨p,n,q,rfl,Yw _,h1,UI _,h3,h4⟩
 | f+1,p,n,q,h1,h2,h3,h4=>by
  have e:ev (lto κ) (kas_desc (f+1) p n q)=ev (lto κ) (if lto κ (p.getD n 0) (p.getD (n - 1) 0)=true then (if q > 0 then kas_desc f (kas_rev p (n - (q+1)) n) (n+1) 0 else kas_desc f p (n+1) 0)
   else .ask (p.getD (n - 1) 0) (p.getD n 0) λd=>if d=true then .ret (p,n,q) else kas_desc f p (n+1) (q+1)):=rfl
  rw [e]
  cases c:lto κ (p.getD n 0) (p.getD (n - 1) 0) with
  | true=>
   rw [if_pos rfl]
   by_cases hq:q > 0
   ·rw [if_pos hq]
    have Zs:=Cz (κ:=κ) (p:=p) (i:=n - (q+1)) (j:=n) (by omega) h4
    have hf:IL κ (kas_rev p (n - (q+1)) n) (n+1):=o5 (by omega) (λi j hij hj=>by rw [Zs,Zs];exact h3 i j hij hj) (by rw [Zs,Zs];exact ae c)
    obtain ⟨p',n',q',a1,a2,a3,a4,a5,a6⟩:=B3 f (kas_rev p (n - (q+1)) n) (n+1) 0 (by omega) (by rw [aj];omega) hf (λi h1 h2=>by congr 1;omega)
    exact ⟨p',n',q',a1,a2.trans (Am _ _ _),a3,by omega,a5,a6⟩
   ·rw [if_neg hq]
    obtain ⟨p',n',q',a1,a2,a3,a4,a5,a6⟩:=B3 f p (n+1) 0 (by omega) (by omega) (o5 (by omega) h3 (ae c)) (λi h1 h2=>by congr 1;omega)
    exact ⟨p',n',q',a1,a2,a3,by omega,a5,a6⟩
  | false=>
   rw [if_neg (by simp)]
   have e2:ev (lto κ) (.ask (p.getD (n - 1) 0) (p.getD n 0) λd=>if d=true then .ret (p,n,q) else kas_desc f p (n+1) (q+1))=ev (lto κ) (if lto κ (p.getD (n - 1) 0) (p.getD n 0)=true then .ret (p,n,q) else kas_desc f p (n+1) (q+1)):=rfl
   rw [e2]
   cases d:lto κ (p.getD (n - 1) 0) (p.getD n 0) with
   | true=>rw [if_pos rfl];exact ⟨p,n,q,rfl,Yw _,h1,by omega,h3,h4⟩
   | false=>
    rw [if_neg (by simp)]
    have eq:Ky κ p n=Ky κ p (n - 1):=O.total _ _ c d
    obtain ⟨p',n',q',a1,a2,a3,a4,a5,a6⟩:=B3 f p (n+1) (q+1) (by omega) (by omega) (o5 (by omega) h3 (o9 d)) (λi h1 h2=>by
     show _=Ky κ p n
     by_cases hi:i=n
     ·subst hi;rfl
     ·rw [eq];exact h4 i (by omega) (by omega))
    exact ⟨p',n',q',a1,a2,a3,by omega,a5,a6⟩
theorem HQ{n nrem:Nat}{p:Array Nat}(h1:1<=n)(hn:n<=nrem)(hz:nrem<=p.size)(h:IL κ p n):
  ∃ m p',ev (lto κ) (kas_tail3 n nrem p)=(m,p')/\p'.Perm p/\m<=nrem/\1<=m/\ml κ p' m:=by
 have hr:ml κ (kas_rev p 0 n) n:=λi j hij hj=>by
  rw [F6 (by omega),F6 (by omega),if_pos (by omega),if_pos (by omega)]
  exact h _ _ (by omega) (by omega)
 obtain ⟨a,b,c,_⟩:=Io (κ:=κ) (kas_rev p 0 n) (nrem - n) n h1 hr
 refine ⟨ev (lto κ) (kas_asc (kas_rev p 0 n) (nrem - n) n),kas_rev p 0 n,?_,Am _ _ _,by omega,by omega,a⟩
 unfold kas_tail3
 rw [o4];rfl
theorem Bk{n nrem:Nat}{p:Array Nat}(h1:1<=n)(hn:n+1<=nrem)(hz:nrem<=p.size)(h:∀ i,i < n->Ky κ p i=Ky κ p (n - 1))(hd:O.blt (Ky κ p n) (Ky κ p (n - 1))=true):
  ∃ m p',ev (lto κ) (kas_descPart n nrem p)=(m,p')/\p'.Perm p/\m<=nrem/\1<=m/\ml κ p' m:=by
 have hf:IL κ p (n+1):=o5 h1 (λi j hij hj=>by rw [h i (by omega),h j hj];exact XH _) (ae hd)
 obtain ⟨p',n',q',a1,a2,a3,a4,a5,a6⟩:=B3 (nrem - (n+1)) p (n+1) 0 (by omega) (by omega) hf (λi h1 h2=>by congr 1;omega)
 have hsz:p'.size=p.size:=a2.size_eq
 unfold kas_descPart
 rw [o4,a1]
 dsimp only
 split
 ·have Zs:=Cz (κ:=κ) (p:=p') (i:=n' - (q'+1)) (j:=n') (by omega) a6
  obtain ⟨m,p2,b1,b2,b3,b4,b5⟩:=HQ (κ:=κ) (n:=n') (nrem:=nrem) (p:=kas_rev p' (n' - (q'+1)) n') (by omega) (by omega) (by rw [aj];omega) (λi j hij hj=>by rw [Zs,Zs];exact a5 i j hij hj)
  exact ⟨m,p2,b1,(b2.trans (Am _ _ _)).trans a2,b3,b4,b5⟩
 ·obtain ⟨m,p2,b1,b2,b3,b4,b5⟩:=HQ (κ:=κ) (n:=n') (nrem:=nrem) (p:=p') (by omega) (by omega) (by omega) a5
  exact ⟨m,p2,b1,b2.trans a2,b3,b4,b5⟩
theorem MS{nrem:Nat}{p:Array Nat}(h1:1<=nrem)(hz:nrem<=p.size):∃ m p',ev (lto κ) (kas_count nrem p)=(m,p')/\p'.Perm p/\m<=nrem/\1<=m/\ml κ p' m:=by
 obtain ⟨a,b,c,d⟩:=Io (κ:=κ) p (nrem - 1) 1 (UI _) (Nk p)
 unfold kas_count
 rw [o4]
 generalize ev (lto κ) (kas_asc p (nrem - 1) 1)=n at a b c d
 split
 ·exact ⟨n,p,rfl,Yw _,by omega,b,a⟩
 ·rename_i hne
  have hlt:n < nrem:=by
   have:n≠nrem:=λz=>hne (by simp [z])
   omega
  have hd:=d (by omega)
  split
  ·rename_i h2
   have e:ev (lto κ) (.ask (p.getD 0 0) (p.getD (n - 1) 0) λc=>if c=true then .ret (n,p) else kas_descPart n nrem (kas_rev p 0 n))=ev (lto κ) (if lto κ (p.getD 0 0) (p.getD (n - 1) 0)=true then .ret (n,p) else kas_descPart n nrem (kas_rev p 0 n)):=rfl
   rw [e]
   cases q:lto κ (p.getD 0 0) (p.getD (n - 1) 0) with
   | true=>exact ⟨n,p,rfl,Yw _,by omega,b,a⟩
   | false=>
    rw [if_neg (by simp)]
    have he:∀ i,i < n->Ky κ p i=Ky κ p (n - 1):=λi hi=>by
     have e1:O.kle (Ky κ p (n - 1)) (Ky κ p 0):=o9 q
     exact Zt.kle_antisymm (a i (n - 1) (by omega) (by omega)) (WB e1 (a 0 i (by omega) hi))
    have Zs:=Cz (κ:=κ) (p:=p) (i:=0) (j:=n) (by omega) (λk _ hk=>he k hk)
    obtain ⟨m,p2,b1,b2,b3,b4,b5⟩:=Bk (κ:=κ) (n:=n) (nrem:=nrem) (p:=kas_rev p 0 n) b (by omega) (by rw [aj];omega) (λi hi=>by rw [Zs,Zs];exact he i hi) (by rw [Zs,Zs];exact hd)
    exact ⟨m,p2,b1,b2.trans (Am _ _ _),b3,b4,b5⟩
  ·rename_i h2
   have:n=1:=by omega
   subst this
   exact Bk (κ:=κ) (UI _) (by omega) hz (λi hi=>by congr 1;omega) hd
theorem CN{p:Array Nat}{k:Nat}(h:ml κ p k):∀ (f l r:Nat),r - l<=f->l<=r->r<=k->(∀ i,i < l->O.kle (Ky κ p i) (Ky κ p k))->(∀ i,r<=i->i < k->O.kle (Ky κ p k) (Ky κ p i))->
  ∃ m,ev (lto κ) (kas_place p k f l r)=m/\m<=k/\(∀ i,i < m->O.kle (Ky κ p i) (Ky κ p k))/\∀ i,m<=i->i < k->O.kle (Ky κ p k) (Ky κ p i)
 | 0,l,r,hf,hlr,hr,h1,h2=>⟨l,rfl,by omega,h1,λi a b=>h2 i (by omega) b⟩
 | f+1,l,r,hf,hlr,hr,h1,h2=>by
  unfold kas_place
  by_cases hge:l≥r
  ·rw [if_pos hge];exact ⟨l,rfl,by omega,h1,λi a b=>h2 i (by omega) b⟩
  ·rw [if_neg hge]
   have e:ev (lto κ) (.ask (p.getD k 0) (p.getD ((l+r) / 2) 0) λc=>if c=true then kas_place p k f l ((l+r) / 2) else kas_place p k f ((l+r) / 2+1) r)=ev (lto κ) (if lto κ (p.getD k 0) (p.getD ((l+r) / 2) 0)=true then kas_place p k f l ((l+r) / 2) else kas_place p k f ((l+r) / 2+1) r):=rfl
   rw [e]
   cases q:lto κ (p.getD k 0) (p.getD ((l+r) / 2) 0) with
   | true=>
    rw [if_pos rfl]
    exact CN h f l ((l+r) / 2) (by omega) (by omega) (by omega) h1 λi a b=>WB (ae q) (h _ _ a b)
   | false=>
    rw [if_neg (by simp)]
    exact CN h f ((l+r) / 2+1) r (by omega) (by omega) hr (λi a=>WB (h i ((l+r) / 2) (by omega) (by omega)) (o9 q)) h2
theorem Mm:∀ (f:Nat) (p:Array Nat) (k:Nat),k+f=p.size->ml κ p k->∃ p',ev (lto κ) (kas_bin f p k)=p'/\p'.Perm p/\ml κ p' p.size
 | 0,p,k,hk,h=>by
  have:k=p.size:=by omega
  subst this
  exact ⟨p,rfl,Yw _,h⟩
 | f+1,p,k,hk,h=>by
  obtain ⟨l,e,hl,a1,a2⟩:=CN (κ:=κ) h k 0 k (by omega) (by omega) (UI _) (λi hi=>absurd hi (Nat.not_lt_zero _)) (λi x y=>absurd y (by omega))
  unfold kas_bin
  rw [o4,e]
  have hb:=λj=>DL (κ:=κ) (p:=p) (src:=k) (d:=k - l) (by omega) (by omega) j
  have hr:ml κ (bubble p k (k - l)) (k+1):=λi j hij hj=>by
   rw [hb i,hb j]
   have e1:k - (k - l)=l:=by omega
   rw [e1]
   by_cases hi:i=l
   ·rw [if_pos hi]
    by_cases hj':j=l
    ·rw [if_pos hj'];exact XH _
    ·rw [if_neg hj',if_pos (by omega)]
     exact a2 (j - 1) (by omega) (by omega)
   ·rw [if_neg hi]
    by_cases hj':j=l
    ·rw [if_pos hj',if_neg (by omega)]
     exact a1 i (by omega)
    ·rw [if_neg hj']
     by_cases hi2:l < i/\i<=k
     ·rw [if_pos hi2,if_pos (by omega)]
      exact h _ _ (by omega) (by omega)
     ·rw [if_neg hi2]
      by_cases hj2:l < j/\j<=k
      ·rw [if_pos hj2];exact h _ _ (by omega) (by omega)
      ·rw [if_neg hj2];exact h _ _ hij (by omega)
  obtain ⟨p',b1,b2,b3⟩:=Mm f (bubble p k (k - l)) (k+1) (by rw [bubble_size];omega) hr
  rw [bubble_size] at b3
  exact ⟨p',b1,b2.trans (bubble_perm _ _ _),b3⟩
theorem OF{n:Nat}(hn:1<=n):∃ p,ev (lto κ) (kas_sort n)=p/\p.Perm (Wb (VM n))/\ml κ p n:=by
 have hz:(Wb (VM n)).size=n:=by simp
 obtain ⟨m,p,e,h1,h2,h3,h4⟩:=MS (κ:=κ) (nrem:=n) (p:=Wb (VM n)) hn (by omega)
 have hp:p.size=n:=h1.size_eq.trans hz
 unfold kas_sort
 rw [o4,e]
 dsimp only
 by_cases hm:m < n
 ·rw [if_pos hm]
  have e1:max m 1=m:=by omega
  rw [e1]
  obtain ⟨p',b1,b2,b3⟩:=Mm (κ:=κ) (n - m) p m (by omega) h4
  exact ⟨p',b1,b2.trans h1,by rw [<- hp];exact b3⟩
 ·rw [if_neg hm]
  have:m=n:=by omega
  subst this
  exact ⟨p,rfl,h1,h4⟩
end
noncomputable def Run{α:Type}(P:Nat->Prop)(R:α->Prop):KasT α->Prop
 | .ret a=>R a
 | .ask i j k=>P i/\P j/\∀ b,Run P R (k b)
theorem e9{α β:Type}{P:Nat->Prop}{R:α->Prop}{S:β->Prop}{f:α->KasT β}(hf:∀ a,R a->Run P S (f a)):∀ t:KasT α,Run P R t->Run P S (t.bind f)
 | .ret a,h=>hf a h
 | .ask i j k,h=>⟨h.1,h.2.1,λb=>e9 hf (k b) (h.2.2 b)⟩
noncomputable def MV:Zt:={α:=Nat,blt:=λa b=>decide (a < b),irrefl:=λa=>by simp,trans:=λa b c h1 h2=>by simp at *;omega,negTrans:=λa b c h=>by simp at *;omega,total:=λa b h1 h2=>by simp at *;omega}
noncomputable def ud(n:Nat)(p:Array Nat):Prop:=∀ k,p.getD k 0 < n
theorem pj{n:Nat}{p:Array Nat}{i j:Nat}(hj:j<=p.size)(h:ud n p):ud n (kas_rev p i j):=λk=>by
 have e:=F6 (O:=MV) (κ:=λx=>x) (p:=p) (i:=i) hj k
 have e:(kas_rev p i j).getD k 0=if i<=k/\k < j then p.getD (i+j - 1 - k) 0 else p.getD k 0:=e
 rw [e]
 split<;>exact h _
theorem F2{n:Nat}{p:Array Nat}{src d:Nat}(hs:src < p.size)(hd:d<=src)(h:ud n p):ud n (bubble p src d):=λk=>by
 have e:=DL (O:=MV) (κ:=λx=>x) (p:=p) hs hd k
 have e:(bubble p src d).getD k 0=if k=src - d then p.getD src 0 else if src - d < k/\k<=src then p.getD (k - 1) 0 else p.getD k 0:=e
 rw [e]
 by_cases c1:k=src - d
 ·rw [if_pos c1];exact h src
 ·rw [if_neg c1]
  by_cases c2:src - d < k/\k<=src
  ·rw [if_pos c2];exact h _
  ·rw [if_neg c2];exact h _
theorem EJ{N:Nat}(p:Array Nat)(h:ud N p):∀ (f n:Nat),Run (· < N) (λm=>n<=m/\m<=n+f) (kas_asc p f n)
 | 0,n=>⟨UI _,UI _⟩
 | f+1,n=>⟨h _,h _,λb=>by
  cases b with
  | true=>exact ⟨UI _,by omega⟩
  | false=>
   have:=run_mono (EJ p h f (n+1)) (λm (hm:n+1<=m/\m<=n+1+f)=>show n<=m/\m<=n+(f+1) by omega)
   exact this⟩
where
 run_mono {α:Type} {P:Nat->Prop} {R S:α->Prop} {t:KasT α} (ht:Run P R t) (hs:∀ a,R a->S a):Run P S t:=by
  induction t with
  | ret a=>exact hs a ht
  | ask i j k ih=>exact ⟨ht.1,ht.2.1,λb=>ih b (ht.2.2 b)⟩
theorem Ae{N M:Nat}:∀ (f:Nat) (p:Array Nat) (n q:Nat),n+f<=M->p.size=M->q+1<=n->ud N p->Run (· < N) (λr=>r.1.size=M/\ud N r.1/\r.2.2+1<=r.2.1/\r.2.1<=M) (kas_desc f p n q)
 | 0,p,n,q,h1,h2,h3,h=>⟨h2,h,h3,by show n<=M;omega⟩
 | f+1,p,n,q,h1,h2,h3,h=>⟨h _,h _,λb=>by
  cases b with
  | true=>
   show Run _ _ (if q > 0 then kas_desc f (kas_rev p (n - (q+1)) n) (n+1) 0 else kas_desc f p (n+1) 0)
   split
   ·exact Ae f _ (n+1) 0 (by omega) (by rw [aj];exact h2) (by omega) (pj (by omega) h)
   ·exact Ae f p (n+1) 0 (by omega) h2 (by omega) h
  | false=>
   refine ⟨h _,h _,λd=>?_⟩
   cases d with
   | true=>exact ⟨h2,h,h3,by show n<=M;omega⟩
   | false=>exact Ae f p (n+1) (q+1) (by omega) h2 (by omega) h⟩
theorem Ei{N M:Nat}{n nrem:Nat}{p:Array Nat}(hn:n<=nrem)(hz:nrem<=M)(hp:p.size=M)(h:ud N p):Run (· < N) (λr=>r.2.size=M/\ud N r.2/\r.1<=nrem) (kas_tail3 n nrem p):=by
 unfold kas_tail3
 have hr:=pj (n:=N) (p:=p) (i:=0) (j:=n) (by omega) h
 refine e9 (R:=λm=>n<=m/\m<=n+(nrem - n)) (λm hm=>?_) _ (EJ _ hr _ _)
 exact ⟨(aj _ _ _).trans hp,hr,show m<=nrem by omega⟩
theorem Ab{N M:Nat}{n nrem:Nat}{p:Array Nat}(h1:1<=n)(hn:n+1<=nrem)(hz:nrem<=M)(hp:p.size=M)(h:ud N p)(hM:nrem=M):Run (· < N) (λr=>r.2.size=M/\ud N r.2/\r.1<=nrem) (kas_descPart n nrem p):=by
 unfold kas_descPart
 refine e9 (R:=λr=>r.1.size=M/\ud N r.1/\r.2.2+1<=r.2.1/\r.2.1<=M) (λr hr=>?_) _ (Ae _ p (n+1) 0 (by omega) hp (by omega) h)
 split
 ·exact Ei (by omega) hz (by rw [aj];exact hr.1) (pj (by omega) hr.2.1)
 ·exact Ei (by omega) hz hr.1 hr.2.1
theorem LL{N n:Nat}{p:Array Nat}(h1:1<=n)(hp:p.size=n)(h:ud N p):Run (· < N) (λr=>r.2.size=n/\ud N r.2/\r.1<=n) (kas_count n p):=by
 unfold kas_count
 refine e9 (R:=λm=>1<=m/\m<=1+(n - 1)) (λm hm=>?_) _ (EJ p h _ _)
 split
 ·exact ⟨hp,h,by show m<=n;omega⟩
 ·rename_i hne
  have hlt:m < n:=by
   have:m≠n:=λz=>hne (by simp [z])
   omega
  split
  ·refine ⟨h _,h _,λb=>?_⟩
   cases b with
   | true=>exact ⟨hp,h,by show m<=n;omega⟩
   | false=>exact Ab (by omega) (by omega) (UI _) (by rw [aj];exact hp) (pj (by omega) h) rfl
  ·exact Ab (by omega) (by omega) (UI _) hp h rfl
theorem AZ{N:Nat}(p:Array Nat)(k:Nat)(h:ud N p):∀ (f l r:Nat),l<=k->r<=k->Run (· < N) (λm=>m<=k) (kas_place p k f l r)
 | 0,l,r,h1,h2=>h1
 | f+1,l,r,h1,h2=>by
  unfold kas_place
  split
  ·exact h1
  ·refine ⟨h _,h _,λb=>?_⟩
   cases b with
   | true=>exact AZ p k h f l ((l+r) / 2) h1 (by omega)
   | false=>exact AZ p k h f ((l+r) / 2+1) r (by omega) h2
theorem Ku{N:Nat}:∀ (f:Nat) (p:Array Nat) (k:Nat),k+f=p.size->ud N p->Run (· < N) (λ_=>True) (kas_bin f p k)
 | 0,p,k,_,_=>trivial
 | f+1,p,k,hk,h=>by
  unfold kas_bin
  exact e9 (R:=λm=>m<=k) (λm hm=>Ku f _ (k+1) (by rw [bubble_size];omega) (F2 (by omega) (by omega) h)) _ (AZ p k h k 0 k (VJ _) (UI _))
theorem NT{n:Nat}(hn:1<=n):Run (· < n) (λ_=>True) (kas_sort n):=by
 have hp:(Wb (VM n)).size=n:=by simp
 have hl:ud n (Wb (VM n)):=λk=>by
  rw [XW]
  by_cases hk:k < n
  ·simp [hk]
  ·simp [hk];omega
 unfold kas_sort
 refine e9 (R:=λr=>r.2.size=n/\ud n r.2/\r.1<=n) (λr hr=>?_) _ (LL hn hp hl)
 split
 ·exact Ku _ _ _ (by omega) hr.2.1
 ·trivial
theorem MU{α:Type}{lt:Nat->Nat->Bool}{cmp:Nat->Nat->(Bool->UG->Prop)->UG->Prop}{n:Nat}{s:UG}{G:α->UG->Prop}(hc:∀ i j,i < n->j < n->∀ C:Bool->UG->Prop,C (lt i j) s->cmp i j C s):
  ∀ t:KasT α,Run (· < n) (λ_=>True) t->G (ev lt t) s->t.kasWp cmp G s
 | .ret a,_,h=>h
 | .ask i j k,r,h=>hc i j r.1 r.2.1 _ (MU hc (k (lt i j)) (r.2.2 _) h)
section
variable{O:Zt}
theorem A7(x:O.α):∀ l:List O.α,(Jm O.blt x l).Perm (x::l)
 | []=>.refl _
 | y::ys=>by
  unfold Jm
  split
  ·exact ((A7 x ys).cons y).trans (.swap x y ys)
  ·exact .refl _
theorem uf:∀ l:List O.α,(q0 O.blt l).Perm l
 | []=>.refl _
 | x::xs=>(A7 x _).trans ((uf xs).cons x)
theorem DD(x:O.α):∀ l:List O.α,l.Pairwise O.kle->(Jm O.blt x l).Pairwise O.kle
 | [],_=>by unfold Jm;exact .cons (λ_ h=>by cases h) .nil
 | y::ys,h=>by
  unfold Jm
  cases h with
  | cons h1 h2=>
   split
   ·rename_i c
    refine .cons (λz hz=>?_) (DD x ys h2)
    rcases Vl.mp ((A7 x ys).mem_iff.mp hz) with rfl | hz
    ·exact ae c
    ·exact h1 z hz
   ·rename_i c
    have hxy:O.kle x y:=by
     cases e:O.blt y x with
     | true=>exact absurd e c
     | false=>exact e
    refine .cons (λz hz=>?_) (.cons h1 h2)
    rcases Vl.mp hz with rfl | hz
    ·exact hxy
    ·exact WB hxy (h1 z hz)
theorem af:∀ l:List O.α,(q0 O.blt l).Pairwise O.kle
 | []=>.nil
 | x::xs=>DD x _ (af xs)
theorem ao{l ks:List O.α}(hp:l.Perm ks)(hs:l.Pairwise O.kle):l=q0 O.blt ks:=
 List.Perm.eq_of_pairwise (λa b _ _ h1 h2=>O.total a b h2 h1) hs (af ks) (hp.trans (uf ks).symm)
theorem DW{ks:List O.α}{d:O.α}{p:Array Nat}(hp:p.Perm (Wb (VM ks.length)))(hr:ml (λi=>ks.getD i d) p ks.length):p.toList.map (λi=>ks.getD i d)=q0 O.blt ks:=by
 have hl:p.toList.Perm (VM ks.length):=by simpa using Array.perm_iff_toList_perm.mp hp
 refine ao ?_ ?_
 ·have e:(VM ks.length).map (λi=>ks.getD i d)=ks:=by
    apply List.ext_getElem (by simp)
    intro i h1 h2
    simp [h2]
  exact (hl.map _).trans (by rw [e])
 ·rw [List.pairwise_iff_getElem]
  intro i j hi hj hij
  have hz:p.size=ks.length:=by simpa using hl.length_eq
  have hi':i < p.size:=by simpa using hi
  have hj':j < p.size:=by simpa using hj
  have:=hr i j (Zb hij) (by omega)
  unfold Ky at this
  simpa [Array.getD,hi',hj'] using this
end
section
variable{prog:Vn}{w:Vz}{A:VG}{E:UB->UG->Prop}{s:UG}
noncomputable def But(a:UL)(h h':V1):Prop:=∀ b o,b≠a->h.get? b=U7 o->h'.get? b=U7 o
theorem Kq{a:UL}{h:V1}{f:WK->WK}:But a h (h.update a f):=λb o hb e=>by rw [V1.get?_update_ne _ _ _ _ hb];exact e
theorem J2{a:UL}{h h':V1}{o:WK}(k:But a h h'):But a h (h'.push o):=λb x hb e=>UH _ (k b x hb e)
theorem But.trans{a:UL}{h h' h2:V1}(k:But a h h')(k2:But a h' h2):But a h h2:=λb o hb e=>k2 b o hb (k b o hb e)
noncomputable def Ua(prog:Vn)(w:Vz)(A:VG)(s:UG)(a:UL)(vs:List UB)(kd:YC)(lt:Nat->Nat->Bool):Prop:=
 (∀ h',But a s.heap h'->∀ Q:YC->UG->Prop,Q kd {s with heap:=h'}->UZ (Vh prog w) A (keyKind' vs.toArray) Q (λ_ _=>False) {s with heap:=h'})/\
 ∀ h',But a s.heap h'->∀ i j,i < vs.length->j < vs.length->∀ C:Bool->UG->Prop,C (lt i j) {s with heap:=h'}->kas_ask prog w A kd vs i j C {s with heap:=h'}
theorem Lv{O:Zt}{κ:Nat->O.α}{kd:YC}{a:UL}{vs:List UB}{n:Nat}{P:PySem.Fin->UG->Prop}(ho:s.heap.get? a=U7 (Yl "list" vs.toArray n))(h64:vs.length < 64)
  (q:2<=vs.length->Ua prog w A s a vs kd (lto κ))
  (h:∀ (p:Array Nat) h' c,p.Perm (Wb (VM vs.length))->ml κ p vs.length->But a s.heap h'->h'.get? a=U7 (Yl "list" (Wb (p.toList.map λi=>vs.getD i Vq)) c)->P (.done (.ret .none)) {s with heap:=h'}):
  UZ (Vh prog w) A (Vo.«list.sort» ⟨[.ref a],[]⟩) P E s:=by
 have big:(64:Nat) < Vc:=by rw [Y0];decide
 obtain ⟨e1,ho1⟩:∃ c,(s.heap.update a (WZ λ_=>(#[]:Array UB))).get? a=U7 (Yl "list" #[] c):=⟨_,get?_update_seq ho λ_=>#[]⟩
 let h6:V1:=((s.heap.update a (WZ λ_=>(#[]:Array UB))).push (Yl "tuple" vs.toArray 0)).push (Yl "list" #[] 0)
 have k6:But a s.heap h6:=J2 (J2 Kq)
 have ho6:h6.get? a=U7 (Yl "list" #[] e1):=UH _ (UH _ ho1)
 have fin:∀ (p:Array Nat),p.Perm (Wb (VM vs.length))->ml κ p vs.length->∀ (st:SortSt),(arrOf st).map (·.2)=Wb (p.toList.map λi=>vs.getD i Vq)->failedOf st=UA->
   UZ (Vh prog w) A (do
    let sorted:=(arrOf st).map (·.2)
    let touched:=(<- seqEpoch a) != e1
    Y5 (.ref a) λ_=>sorted
    if let U7 e:=failedOf st then rule "list.sort.comparison-raised";throw e
    if touched then rule "list.sort.modified";raiseError "ValueError" "list modified during sort"
    ret .none) P E {s with heap:=h6}:=by
  intro p hp hr st hst hf
  dsimp only
  have hz:(Wb (p.toList.map λi=>vs.getD i Vq)).size=vs.length:=by
   have:=hp.size_eq
   simpa using this
  rw [hst,hf]
  refine U9 (seqEpoch_at ho6 rfl (U9 (listUpdate_at ho6 rfl ?_ (VJ _) (by omega))))
  simp only [bne_self_eq_false,WA,if_false]
  exact UK (h p _ _ hp hr (k6.trans Kq) (get?_update_seq ho6 _))
 rw [list_sort_plain]
 refine U9 (listItems_at ho rfl (U9 (listUpdate_at ho rfl ?_ (by rw [UO];omega) (VJ _))))
 refine U9 (seqEpoch_at ho1 rfl (U9 (wpAny_newTuple ?_ (by show vs.length<=_;omega))))
 refine U9 (wpAny_newList (WE ?_) (VJ _))
 show UZ (Vh prog w) A _ P E {s with heap:=h6}
 dsimp only
 by_cases h2:vs.toArray.size < 2
 ·rw [if_pos h2,if_pos h2]
  refine U9 (UK ?_)
  rw [StateT.run_pure]
  refine U9 (UK (fin (Wb (VM vs.length)) (.refl _) (λi j h1 h3=>?_) _ ?_ rfl))
  ·have:i=j:=by rw [UO] at h2;omega
   subst this
   exact XH _
  ·match vs,h2 with
   | [],_=>show Array.map (λx:UB×UB=>x.snd) ((#[]:Array UB).zip #[])=_;simp
   | [v],_=>show Array.map (λx:UB×UB=>x.snd) (#[v].zip #[v])=_;simp
   | _::_::_,h2=>exact absurd h2 (by simp)
 ·have h2':2<=vs.length:=by rw [UO] at h2;omega
  rw [if_neg h2,if_neg h2]
  obtain ⟨q1,q2⟩:=q h2'
  refine U9 (W6 (q1 h6 k6 (λk s'=>k=kd/\s'= {s with heap:=h6}) ⟨rfl,rfl⟩) ?_ λ_ _ x=>x.elim)
  rintro k s' ⟨rfl,rfl⟩
  obtain ⟨p,ep,hp,hr⟩:=OF (κ:=κ) (n:=vs.length) (by omega)
  have run:=MU (s:={s with heap:=h6}) (G:=λp' s'=>p'=p/\s'= {s with heap:=h6}) (q2 h6 k6) (kas_sort vs.length) (NT (by omega)) ⟨ep,rfl⟩
  refine U9 (W6 (kat_run (Q:=λst s'=>s'= {s with heap:=h6}/\arrOf st=p.map (kas_item (vs.toArray.zip vs.toArray))/\failedOf st=UA) rfl h2' h64 (λp' st s' _ a2 a3 a4=>?_) run) ?_ λ_ _ e=>e)
  ·obtain ⟨rfl,rfl⟩:=a4
   exact ⟨rfl,a2,a3⟩
  ·rintro ⟨⟨⟩,st⟩ s' ⟨rfl,har,hf⟩
   exact fin p hp hr st (kat_snds rfl har) hf
end
section
variable{prog:Vn}{w:Vz}{A:VG}{E:UB->UG->Prop}{s:UG}
noncomputable def Ext(h h':V1):Prop:=∀ b o,h.get? b=U7 o->h'.get? b=U7 o
theorem Gw{l:UL}{vs:List UB}{o:WK}{n:Nat}{Q:List UB->UG->Prop}(ho:s.heap.get? l=U7 o)(hc:o.cls= .type "list"∨o.cls= .type "tuple")(hd:o.data= .seq vs.toArray n)(hz:vs.length < 64)
  (h:∀ h',Ext s.heap h'->h'.objs.size=s.heap.objs.size+1->Q vs {s with heap:=h'}):UZ (Vh prog w) A (collect (.ref l)) Q E s:=by
 have big:(64:Nat) < Vc:=by rw [Y0];decide
 have hn:(s.heap.push (Yl "list" #[] 0)).get? s.heap.objs.size=U7 (Yl "list" #[] 0):=US _ rfl
 have ho':(s.heap.push (Yl "list" #[] 0)).get? l=U7 o:=UH _ ho
 unfold collect
 refine U9 (wpAny_runValue (Yx entry_proto_collect' ?_))
 show UZ _ _ (newList [] >>= λx=>again (.builtin "list.__iadd__" ⟨[x,.ref l],[]⟩)) _ _ s
 refine U9 (wpAny_newList (UK ⟨Code.quiet_builtin _ (by decide +kernel),Yx entry_list_iadd' ?_⟩) (VJ _))
 show UZ _ _ (Vv (.ref s.heap.objs.size) (.ref l) (.ref s.heap.objs.size)) _ _ {s with heap:=s.heap.push (Yl "list" #[] 0)}
 have hk:Ext s.heap ((s.heap.push (Yl "list" #[] 0)).update s.heap.objs.size (WZ (·++vs.toArray))):=λb x e=>by
  rw [V1.get?_update_ne _ _ _ _ (Vt (UT e))];exact UH _ e
 unfold Vv
 obtain ⟨T,hT,hb⟩:∃ T:String,o.cls= .type T/\((Wa T == Wa "list") || (Wa T == Wa "tuple"))=true:=by
  rcases hc with hc | hc
  ·exact ⟨_,hc,by decide⟩
  ·exact ⟨_,hc,by decide⟩
 refine U9 (X9 (T:=T) ⟨o,ho',hT⟩ ?_)
 rw [if_pos (by rw [Bool.or_assoc,hb];simp)]
 refine U9 (listItems_at ho' hd (U9 (listItems_at hn rfl ?_)))
 rw [if_neg (by simp)]
 refine U9 (listUpdate_at hn rfl ?_ (VJ _) (by simp;omega))
 refine UK ?_
 refine U9 (wpAny_load (get?_update_seq hn _) ?_)
 show UZ _ _ (pure ((#[]:Array UB)++vs.toArray).toList) Q E _
 rw [show ((#[]:Array UB)++vs.toArray).toList=vs by simp]
 exact UK (h _ hk (by rw [V1.size_update,YB]))
theorem Ck{O:Zt}{κ:Nat->O.α}{kd:YC}{l:UL}{vs:List UB}{o:WK}{n:Nat}{Q:UB->UG->Prop}(ho:s.heap.get? l=U7 o)(hc:o.cls= .type "list"∨o.cls= .type "tuple")(hd:o.data= .seq vs.toArray n)(h64:vs.length < 64)
  (q:2<=vs.length->∀ h',Ext s.heap h'->(∀ Q:YC->UG->Prop,Q kd {s with heap:=h'}->UZ (Vh prog w) A.in1.in1 (keyKind' vs.toArray) Q (λ_ _=>False) {s with heap:=h'})/\
    ∀ i j,i < vs.length->j < vs.length->∀ C:Bool->UG->Prop,C (lto κ i j) {s with heap:=h'}->UZ (Vh prog w) A.in1.in1 (keyLt' kd (vs.getD i Vq) (vs.getD j Vq)) C (λ_ _=>False) {s with heap:=h'})
  (h:∀ (p:Array Nat) D h' c,p.Perm (Wb (VM vs.length))->ml κ p vs.length->Ext s.heap h'->s.heap.objs.size<=D->h'.get? D=U7 (Yl "list" (Wb (p.toList.map λi=>vs.getD i Vq)) c)->Q (.ref D) {s with heap:=h'}):
  UZ (Vh prog w) A (call (.builtin "sorted") [.ref l]) Q E s:=by
 have big:(64:Nat) < Vc:=by rw [Y0];decide
 refine Calls.call_function_entry kind_sorted plain_sorted entry_sorted (args_sorted1 _) ?_
 unfold Vo.«sorted»
 refine U9 (m:=checkCount "sorted" 1 1 _) (UK ?_)
 refine U9 (Gw ho hc hd h64 λh1 k1 z1=>?_)
 refine U9 (wpAny_newList ?_ (by omega))
 have hD:(h1.push (Yl "list" vs.toArray 0)).get? h1.objs.size=U7 (Yl "list" vs.toArray 0):=US _ rfl
 have hlt:s.heap.objs.size<=h1.objs.size:=by omega
 have up:∀ h',But h1.objs.size (h1.push (Yl "list" vs.toArray 0)) h'->Ext s.heap h':=λh' k b x e=>
  k b x (Vt (Vj (UT e) hlt)) (UH _ (k1 b x e))
 refine U9 (WE (Wc slot_list_sort ⟨_,hD,rfl⟩ entry_list_sort ?body (args_list_sort _)))
 case body=>
  refine Lv (s:={s with heap:=h1.push (Yl "list" vs.toArray 0)}) (κ:=κ) (kd:=kd) hD h64 (λh2=>⟨λh' k=>(q h2 h' (up h' k)).1,λh' k=>(q h2 h' (up h' k)).2⟩) λp h' c a1 a2 a3 a4=>?_
  exact ⟨_,rfl,UK ⟨_,rfl,h p _ h' c a1 a2 (up h' a3) hlt a4⟩⟩
noncomputable def intOrd:Zt where
 α:=Int
 blt:=λa b=>decide (a < b)
 irrefl:=λa=>by simp
 trans:=λa b c h1 h2=>by simp at *;omega
 negTrans:=λa b c h=>by simp at *;omega
 total:=λa b h1 h2=>by simp at *;omega
theorem sd:∀ a:List Int,HT.lexLt a a=false
 | []=>rfl
 | x::xs=>by rw [HT.lexLt_cons,if_pos rfl];exact sd xs
theorem A9:∀ a b c:List Int,HT.lexLt a b=true->HT.lexLt b c=true->HT.lexLt a c=true
 | [],[],[],h1,_=>by cases h1
 | [],_::_,[],_,h2=>by cases h2
 | [],_,_::_,_,_=>rfl
 | x::xs,[],_,h1,_=>by cases h1
 | x::xs,y::ys,[],_,h2=>by cases h2
 | x::xs,y::ys,z::zs,h1,h2=>by
  rw [HT.lexLt_cons] at *
  by_cases e1:x=y
  ·rw [if_pos e1] at h1
   by_cases e2:y=z
   ·rw [if_pos e2] at h2;rw [if_pos (e1.trans e2)];exact A9 xs ys zs h1 h2
   ·rw [if_neg e2] at h2;rw [if_neg (by rw [e1];exact e2),e1];exact h2
  ·rw [if_neg e1] at h1
   have l1:=of_decide_eq_true h1
   by_cases e2:y=z
   ·rw [if_neg (by rw [<- e2];exact e1),<- e2];exact h1
   ·rw [if_neg e2] at h2
    have l2:=of_decide_eq_true h2
    rw [if_neg (by omega)];exact decide_eq_true (by omega)
theorem JS:∀ a b c:List Int,HT.lexLt a c=true->HT.lexLt a b=true∨HT.lexLt b c=true
 | [],[],_,h=>.inr h
 | [],_::_,_,_=>.inl rfl
 | x::xs,_,[],h=>by cases h
 | x::xs,[],z::zs,_=>.inr rfl
 | x::xs,y::ys,z::zs,h=>by
  rw [HT.lexLt_cons] at *
  by_cases e:x=z
  ·rw [if_pos e] at h
   by_cases e1:x=y
   ·rw [if_pos e1,HT.lexLt_cons,if_pos (e1.symm.trans e)];exact JS xs ys zs h
   ·rw [if_neg e1,HT.lexLt_cons,if_neg (by rw [<- e];exact λq=>e1 q.symm)]
    by_cases l:x < y
    ·exact .inl (decide_eq_true l)
    ·exact .inr (decide_eq_true (by omega))
  ·rw [if_neg e] at h
   have l:=of_decide_eq_true h
   by_cases e1:x=y
   ·right;rw [HT.lexLt_cons,if_neg (by rw [<- e1];exact e)];exact decide_eq_true (by omega)
   ·rw [if_neg e1]
    by_cases l1:x < y
    ·exact .inl (decide_eq_true l1)
    ·right;rw [HT.lexLt_cons,if_neg (by omega)];exact decide_eq_true (by omega)
theorem DB:∀ a b:List Int,HT.lexLt a b=false->HT.lexLt b a=false->a=b
 | [],[],_,_=>rfl
 | [],_::_,h,_=>by cases h
 | _::_,[],_,h=>by cases h
 | x::xs,y::ys,h1,h2=>by
  rw [HT.lexLt_cons] at *
  by_cases e:x=y
  ·rw [if_pos e] at h1;rw [if_pos e.symm] at h2;rw [e,DB xs ys h1 h2]
  ·rw [if_neg e] at h1;rw [if_neg (λq=>e q.symm)] at h2
   have l1:=of_decide_eq_false h1
   have l2:=of_decide_eq_false h2
   omega
noncomputable def rowOrd:Zt:={α:=List Int,blt:=HT.lexLt,irrefl:=sd,trans:=A9,negTrans:=JS,total:=DB}
theorem JA{vs:List UB}{ns:List Int}(h:Xk vs ns){i:Nat}(hi:i < vs.length):∃ t,vs.getD i Vq= .int (ns.getD i 0) t:=by
 induction h generalizing i with
 | nil=>simp at hi
 | cons n t _ ih=>
  cases i with
  | zero=>exact ⟨t,rfl⟩
  | succ i=>exact ih (by simpa using hi)
theorem KF{vs:List UB}{ns:List Int}(hI:Xk vs ns)(h2:2<=vs.length):
  (∀ Q:YC->UG->Prop,Q oneType' s->UZ (Vh prog w) A (keyKind' vs.toArray) Q (λ_ _=>False) s)/\
    ∀ i j,i < vs.length->j < vs.length->∀ C:Bool->UG->Prop,C (lto (O:=intOrd) (λk=>ns.getD k 0) i j) s->UZ (Vh prog w) A (keyLt' oneType' (vs.getD i Vq) (vs.getD j Vq)) C (λ_ _=>False) s:=by
 refine ⟨λQ hq=>?_,λi j hi hj C hC=>?_⟩
 ·match vs,hI,h2 with
  | v₁::v₂::rest,hI,_=>rw [keyKind_ints hI];exact UK hq
  | [_],_,h2=>exact absurd h2 (by simp)
  | [],_,h2=>exact absurd h2 (by simp)
 ·obtain ⟨t,e⟩:=JA hI hi
  obtain ⟨u,e'⟩:=JA hI hj
  rw [e,e']
  exact kat_lt_int hC
end
noncomputable def RowsAre(h:V1):List UB->List (List Int)->Prop
 | [],[]=>True
 | v::vs,r::rs=>(∃ (a:UL) (o:WK) (xs:Array UB) (n:Nat),v= .ref a/\h.get? a=U7 o/\o.cls= .type "tuple"/\o.data= .seq xs n/\Xk xs.toList r)/\RowsAre h vs rs
 | _,_=>False
theorem RowsAre.length{h:V1}:∀ {vs:List UB} {rs:List (List Int)},RowsAre h vs rs->vs.length=rs.length
 | [],[],_=>rfl
 | [],_::_,h=>h.elim
 | _::_,[],h=>h.elim
 | _::vs,_::rs,h=>by simp [h.2.length]
theorem RowsAre.ext{h h':V1}(k:Ext h h'):∀ {vs:List UB} {rs:List (List Int)},RowsAre h vs rs->RowsAre h' vs rs
 | [],[],_=>trivial
 | [],_::_,h=>h.elim
 | _::_,[],h=>h.elim
 | _::vs,_::rs,⟨⟨a,o,xs,n,e,ho,r⟩,t⟩=>⟨⟨a,o,xs,n,e,k _ _ ho,r⟩,t.ext k⟩
theorem RowsAre.at_{h:V1}:∀ {vs:List UB} {rs:List (List Int)} {i:Nat},RowsAre h vs rs->i < vs.length->
  ∃ (a:UL) (o:WK) (xs:Array UB) (n:Nat),vs.getD i Vq= .ref a/\h.get? a=U7 o/\o.cls= .type "tuple"/\o.data= .seq xs n/\Xk xs.toList (rs.getD i [])
 | [],[],_,_,hi=>by simp at hi
 | [],_::_,_,h,_=>h.elim
 | _::_,[],_,h,_=>h.elim
 | _::vs,_::rs,0,h,_=>h.1
 | _::vs,_::rs,i+1,h,hi=>by
  have:=RowsAre.at_ (i:=i) h.2 (by simpa using hi)
  simpa using this
section
variable{M:Model}{prog:Vn}{w:Vz}{A:VG}{E:UB->UG->Prop}{s:UG}
theorem Bh:∀ {vs:List UB} {rs:List (List Int)},RowsAre s.heap vs rs->
  ∃ fs:List (Option UB),fs.map Option.isSome=rs.map (λr=>!r.isEmpty)/\(rs.all (λr=>!r.isEmpty)=true->∃ gs,fs=gs.map U7/\KatTups s.heap vs gs/\∀ g∈gs,∃ n t,g= .int n t)/\∀ Q:List (Option UB)->UG->Prop,Q fs s->UZ M A (vs.mapM firstOfTuple') Q E s
 | [],[],_=>⟨[],rfl,λ_=>⟨[],rfl,trivial,λ_ h=>by cases h⟩,λQ h=>by rw [List.mapM_nil];exact UK h⟩
 | [],_::_,h=>h.elim
 | _::_,[],h=>h.elim
 | v::vs,r::rs,⟨⟨a,o,xs,n,e,ho,hc,hd,hi⟩,t⟩=>by
  subst e
  obtain ⟨fs,f1,f2,f3⟩:=Bh t
  refine ⟨xs[0]?::fs,?_,λhall=>?_,λQ h=>?_⟩
  ·have:xs[0]?.isSome= !r.isEmpty:=by
     rw [<- Wf]
     generalize xs.toList=xl at hi
     cases hi<;>rfl
   simp [this,f1]
  ·simp only [List.all_cons,Ve] at hall
   obtain ⟨gs,g1,g2,g3⟩:=f2 hall.2
   rw [<- Wf]
   have h0:∃ m u,xs[0]? =U7 (.int m u):=by
    rw [<- Wf]
    generalize xs.toList=xl at hi
    cases hi with
    | nil=>simp at hall
    | cons m u _=>exact ⟨m,u,rfl⟩
   obtain ⟨m,u,e0⟩:=h0
   refine ⟨.int m u::gs,?_,KatTups.cons ho hc hd e0 g2,λg hg=>?_⟩
   ·rw [Wf,e0,g1];rfl
   ·rcases Vl.mp hg with rfl | hg
    ·exact ⟨m,u,rfl⟩
    ·exact g3 g hg
  ·rw [List.mapM_cons]
   refine U9 ?_
   rw [kas_first_eq]
   refine U9 (Looks.here ((Looks.ld ho).andThen .now:Looks M s.heap (typeOf (.ref a)) o.cls) ?_)
   rw [hc,if_neg (by decide)]
   refine U9 (listItems_at ho hd (UK ?_))
   exact U9 (f3 (λbs s'=>UZ M A (pure (xs[0]?::bs)) Q E s') (UK h))
theorem BZ:∀ {vs:List UB} {rs:List (List Int)},RowsAre s.heap vs rs->∀ v∈vs,Looks M s.heap (typeOf v) (.type "tuple")
 | [],_,_,v,hv=>by cases hv
 | _::_,[],h,_,_=>h.elim
 | v::vs,r::rs,⟨⟨a,o,xs,n,e,ho,hc,hd,hi⟩,t⟩,u,hu=>by
  rcases Vl.mp hu with rfl | hu
  ·subst e
   rw [<- hc]
   exact (Looks.ld ho).andThen .now
  ·exact BZ t u hu
noncomputable def H9(rs:List (List Int)):YC:=if rs.all (λr=>!r.isEmpty)=true then tuples' true else if (rs.map (λr=>!r.isEmpty)).head? =U7 true then general' else oneType'
theorem L4{vs:List UB}{rs:List (List Int)}(R:RowsAre s.heap vs rs)(h2:2<=vs.length){Q:YC->UG->Prop}(h:Q (H9 rs) s):UZ M A (keyKind' vs.toArray) Q E s:=by
 unfold H9 at h
 obtain ⟨fs,f1,f2,f3⟩:=Bh (E:=E) (A:=A) (M:=M) R
 by_cases hall:rs.all (λr=>!r.isEmpty)=true
 ·rw [if_pos hall] at h
  obtain ⟨gs,g1,g2,g3⟩:=f2 hall
  have hl:gs.length=vs.length:=by
   have:=congrArg Xj f1
   rw [g1] at this
   simp at this
   rw [R.length];exact this
  refine kat_kind (T:=.type "int") g2 (by omega) (λv hv=>?_) rfl h
  obtain ⟨n,t,rfl⟩:=g3 v hv
  exact Looks.of_pure rfl
 ·rw [if_neg hall] at h
  rw [kat_kind_eq,List.mapM_toArray,map_eq_pure_bind];refine U9 (U9 (f3 _ (UK ?_)))
  have hn:¬ (fs.toArray.all (·.isSome)=true):=by
   intro q
   apply hall
   have e:fs.all Option.isSome=rs.all (λr=>!r.isEmpty):=by
    have:=congrArg (λl=>l.all id) f1
    simpa [List.all_map] using this
   rw [<- e]
   simpa using q
  rw [if_neg hn]
  have hh:((fs.toArray)[0]?.bind id).isSome=((rs.map (λr=>!r.isEmpty)).head? == U7 true):=by
   rw [<- f1]
   cases fs with
   | nil=>rfl
   | cons x xs=>cases x<;>rfl
  by_cases hf:(rs.map (λr=>!r.isEmpty)).head? =U7 true
  ·rw [if_pos hf] at h
   rw [if_pos (by rw [hh,hf];rfl)]
   exact UK h
  ·rw [if_neg hf] at h
   rw [if_neg (by rw [hh];intro q;exact hf (by simpa using q))]
   rw [oneTypeOnly'_eq,List.mapM_toArray,map_eq_pure_bind]
   refine U9 (U9 (U9 (kas_mapM (r:=.type "tuple") _ (λv hv Q' hq=>(BZ R v hv).here hq) (UK ?_))))
   have hall2:((List.map (λ_=>Wa "tuple") vs).toArray.all λx=>x == Wa "tuple")=true:=by
    simp only [List.all_toArray,List.all_map,List.all_eq_true];exact λ_ _=>rfl
   have h0:(List.map (λ_=>Wa "tuple") vs).toArray[0]? =U7 (Wa "tuple"):=by
    cases vs with
    | nil=>simp at h2
    | cons v r=>simp
   rw [h0]
   simp only [hall2,if_true];exact UK (UK h)
theorem FP{b:Bool}{Q:Bool->UG->Prop}:∀ {xs ys:List UB} {ns ms:List Int} {i:Nat} {fin:Bool},Xk xs ns->Xk ys ms->fin=decide (ns.length < ms.length)->Q (HT.lexLt ns ms) s->KatLex prog w A b fin Q (xs.zip ys) i s
 | _,_,_,_,_,_,.nil,.nil,hf,h=>by subst hf;exact kat_nil h
 | _,_,_,_,_,_,.nil,.cons _ _ _,hf,h=>by subst hf;exact kat_nil (by simpa [HT.lexLt_nil_cons] using h)
 | _,_,_,_,_,_,.cons _ _ _,.nil,hf,h=>by subst hf;exact kat_nil (by simpa [HT.lexLt_cons_nil] using h)
 | _,_,_,_,i,_,.cons n t hx,.cons m u hy,hf,h=>by
  rw [Wk]
  rw [HT.lexLt_cons] at h
  refine kat_cons (wpAny_eqBool_int ?_)
  by_cases e:n=m
  ·rw [if_pos e] at h
   rw [show (n == m)=true by simpa using e]
   exact kat_yes (FP hx hy (by rw [hf];simp) h)
  ·rw [if_neg e] at h
   rw [show (n == m)=false by simpa using e]
   refine kat_no ?_
   cases hb:(b && i == 0) with
   | true=>exact oneLt_int h
   | false=>exact kat_one _ _ (lt_int h)
theorem PV{vs:List UB}{rs:List (List Int)}(R:RowsAre s.heap vs rs)(kd:YC)(hk:kd=tuples' true∨kd=general'∨kd=oneType')(hu:A.units < Yh){i j:Nat}(hi:i < vs.length)(hj:j < vs.length){Q:Bool->UG->Prop}
  (h:Q (HT.lexLt (rs.getD i []) (rs.getD j [])) s):UZ (Vh prog w) A (keyLt' kd (vs.getD i Vq) (vs.getD j Vq)) Q E s:=by
 obtain ⟨a,o,xs,n,ea,ho,hc,hd,ia⟩:=R.at_ hi
 obtain ⟨b,o2,ys,n2,eb,ho2,hc2,hd2,ib⟩:=R.at_ hj
 rw [ea,eb]
 rcases hk with rfl | rfl | rfl
 ·exact kat_lt ho hd ho2 hd2 (FP ia ib (by rw [<- ia.length,<- ib.length];simp) h)
 ·refine kat_one _ _ (HT.lt_tupInts ⟨o,ho,hc,n,hd⟩ ⟨o2,ho2,hc2,n2,hd2⟩ ia ib hu ?_)
  exact h
 ·rw [keyLt'_oneType,oneLt'_eq]
  simp only [if_true]
  refine U9 (wpAny_cRoomFor hu ?_)
  obtain ⟨cls,dd,data,sl⟩:=o
  obtain ⟨cls2,dd2,data2,sl2⟩:=o2
  simp only at hc hd hc2 hd2
  subst hc hd hc2 hd2
  refine U9 (wpAny_callSpecialIfBound?_slot (T:="tuple") ⟨_,ho,rfl⟩ XS (W9 XS ⟨_,ho,rfl⟩ Y7 (Y1 _ _) (HT.tuple_lt_ints a b xs ys n n2 dd dd2 sl sl2 _ _ ia ib) ⟨ho,ho2,?_⟩))
  exact Ww h
theorem Mq(rs:List (List Int)):H9 rs=tuples' true∨H9 rs=general'∨H9 rs=oneType':=by
 unfold H9
 split
 ·exact .inl rfl
 ·split
  ·exact .inr (.inl rfl)
  ·exact .inr (.inr rfl)
theorem Lq{vs:List UB}{rs:List (List Int)}(R:RowsAre s.heap vs rs)(h2:2<=vs.length)(hu:A.units < Yh):
  (∀ Q:YC->UG->Prop,Q (H9 rs) s->UZ (Vh prog w) A (keyKind' vs.toArray) Q (λ_ _=>False) s)/\
    ∀ i j,i < vs.length->j < vs.length->∀ C:Bool->UG->Prop,C (lto (O:=rowOrd) (λk=>rs.getD k []) i j) s->UZ (Vh prog w) A (keyLt' (H9 rs) (vs.getD i Vq) (vs.getD j Vq)) C (λ_ _=>False) s:=
 ⟨λQ hq=>L4 R h2 hq,λi j hi hj C hC=>PV R _ (Mq rs) hu hi hj hC⟩
end
end KT
namespace KT
open PySem PySem.Spec PyProof.Rows L2
noncomputable def JI(K:UF)(H:Hp):List V->List (List Int)->Prop
 | [],[]=>True
 | v::vs,r::rs=>(∃ a,v= .ref a/\SqT K H a (r.map V.int))/\JI K H vs rs
 | _,_=>False
noncomputable def Ng(K:UF):List V->Hp->VK->Prop:=λxs H Q=>∃ t vs,xs=[.ref t]/\(SqT K H t vs∨SqL K H t vs)/\vs.length < 64/\
 ((∃ ns:List Int,vs=ns.map V.int/\∀ (is:List Nat) l,(∀ i∈is,i < vs.length)->is.map (λi=>ns.getD i 0)=q0 ltI ns->H l=UA->Q (.ref l) (upd H l (.lst (is.map λi=>vs.getD i .non))))∨
  (∃ rs:List (List Int),JI K H vs rs/\∀ (is:List Nat) l,(∀ i∈is,i < vs.length)->is.map (λi=>rs.getD i [])=q0 g9 rs->H l=UA->Q (.ref l) (upd H l (.lst (is.map λi=>vs.getD i .non)))))
theorem Kn:∀ {vs:List V} {us:List UB},Vals vs us->∀ {i:Nat},i < vs.length->RelV (vs.getD i .non) (us.getD i Vq)
 | _,_,.nil,i,h=>by simp at h
 | _,_,.cons r t,0,_=>r
 | _,_,.cons r t,i+1,h=>Kn t (i:=i) (by simpa using h)
theorem D8{vs:List V}{us:List UB}(r:Vals vs us):∀ (is:List Nat),(∀ i∈is,i < vs.length)->Vals (is.map λi=>vs.getD i .non) (is.map λi=>us.getD i Vq)
 | [],_=>.nil
 | i::is,h=>.cons (Kn r (h i (UN ..))) (D8 r is λj hj=>h j (UQ _ hj))
section
variable{X:Cx}
theorem JH{pins:List (UL×WK)}{s:UG}{σ:L2.St}{H:Hp}(I:Inv X pins σ H s):∀ {vs:List V} {us:List UB} {rs:List (List Int)},Vals vs us->JI X.K H vs rs->RowsAre s.heap us rs
 | _,_,[],.nil,_=>trivial
 | _,_,_::_,.nil,h=>h.elim
 | _,_,[],.cons _ _,h=>h.elim
 | _,_,r::rs,.cons q t,⟨⟨a,e,h⟩,hs⟩=>by
  subst e
  cases q
  obtain ⟨its,rv,⟨o,ho,hc,n,hd⟩,_⟩:=I.tuple h
  exact ⟨⟨a,o,its.toArray,n,rfl,ho,hc,hd,CM rv⟩,JH I t hs⟩
theorem Gj(hu:X.A.units+64 < Yh):CallR X (.builtin "sorted") (Ng X.K):=by
 intro pins s σ H xs us Q I hv h
 obtain ⟨t,vs,rfl,hq,hz,h⟩:=h
 cases hv with
 | cons r1 r2=>
 cases r2
 cases r1
 have u2:X.A.in1.in1.units < Yh:=by show X.A.units+1+1 < Yh;omega
 obtain ⟨its,rv,o,n,ho,hc,hd,hsz⟩:∃ its,Vals vs its/\∃ (o:WK) (n:Nat),s.heap.get? t=U7 o/\(o.cls= .type "list"∨o.cls= .type "tuple")/\o.data= .seq its.toArray n/\vs.length<=Vc:=by
  rcases hq with hq | hq
  ·obtain ⟨its,rv,⟨o,ho,hc,n,hd⟩,hz⟩:=I.tuple hq
   exact ⟨its,rv,o,n,ho,.inr hc,hd,hz⟩
  ·obtain ⟨its,rv,pl,hz⟩:=I.list hq
   obtain ⟨o,ho,hc,n,hd⟩:=pl.isList
   exact ⟨its,rv,o,n,ho,.inl hc,hd,hz⟩
 have hl:=rv.length
 have z64:its.length < 64:=by omega
 have fin:∀ (is:List Nat) D h' c,(∀ i∈is,i < vs.length)->is.length=vs.length->Ext s.heap h'->s.heap.objs.size<=D->h'.get? D=U7 (Yl "list" (Wb (is.map λi=>its.getD i Vq)) c)->
   (∀ l,H l=UA->Q (.ref l) (upd H l (.lst (is.map λi=>vs.getD i .non))))->EP X pins σ Q (.ref D) {s with heap:=h'}:=λis D h' c h1 hlen k hp hD q=>
  ⟨.ref D,_,I.laid (t':=s.toks) k hp (show ObjOk X.prog X.w _ h' D (.lst _) from ⟨by rw [V8,hlen];exact hsz,_,c,D8 rv is h1,hD⟩),rfl,q D (I.hok.fresh hp)⟩
 have inr:∀ {p:Array Nat},p.Perm (Wb (VM its.length))->(∀ i∈p.toList,i < vs.length)/\p.toList.length=vs.length:=λ{p} hp=>by
  have hl':p.toList.Perm (VM its.length):=by simpa using Array.perm_iff_toList_perm.mp hp
  refine ⟨λi hi=>?_,?_⟩
  ·have:=List.mem_range.mp (hl'.mem_iff.mp hi)
   omega
  ·rw [hl'.length_eq,List.length_range];exact hl.symm
 rcases h with ⟨ns,e,q⟩ | ⟨rs,R,q⟩
 ·subst e
  have iI:=CM rv
  have hn:its.length=ns.length:=iI.length
  refine Ck (O:=intOrd) (κ:=λk=>ns.getD k 0) ho hc hd z64 (λh2 h' k=>KF iI h2) λp D h' c hp hr k hD hg=>?_
  obtain ⟨i1,i2⟩:=inr hp
  rw [hn] at hp hr
  exact fin p.toList D h' c i1 i2 k hD hg λl hl'=>q _ l i1 (DW (O:=intOrd) (d:=(0:Int)) hp hr) hl'
 ·have RA:=JH I rv R
  have hn:its.length=rs.length:=RA.length
  refine Ck (O:=rowOrd) (κ:=λk=>rs.getD k []) ho hc hd z64 (λh2 h' k=>Lq (s:={s with heap:=h'}) (RA.ext k) h2 u2) λp D h' c hp hr k hD hg=>?_
  obtain ⟨i1,i2⟩:=inr hp
  rw [hn] at hp hr
  refine fin p.toList D h' c i1 i2 k hD hg λl hl'=>q _ l i1 ?_ hl'
  have e:=DW (O:=rowOrd) (d:=([]:List Int)) hp hr
  rw [show (g9:List Int->List Int->Bool)=HT.lexLt from funext λa=>funext λb=>i0 a b]
  exact e
theorem AY{P:PP}{H:Hp}{α:Type}{f:α->U8}{as:List α}{d:α}{vs:List V}(r:Reps P H (as.map f) vs):∀ (is:List Nat),(∀ i∈is,i < vs.length)->Reps P H ((is.map λi=>as.getD i d).map f) (is.map λi=>vs.getD i .non)
 | [],_=>rfl
 | i::is,h=>by
  have hi:=h i (UN ..)
  have hl:=r.length
  rw [V8] at hl
  have ha:i < as.length:=by omega
  obtain ⟨v,e,rv⟩:=Reps.get (i:=i) (d:=f (as.getD i d)) r (by simp [ha])
  refine ⟨v,_,?_,rv,AY r is λj hj=>h j (UQ _ hj)⟩
  have:vs.getD i .non=v:=by rw [List.getD_eq_getElem?_getD,e];rfl
  rw [UR,this]
theorem A8:∀ {ds:List U8} {ns:List Int},yn ds=U7 ns->ds=ns.map .int
 | [],ns,e=>by cases e;rfl
 | .int i::r,ns,e=>by
  unfold yn at e
  cases hx:yn r with
  | none=>rw [hx] at e;cases e
  | some ms=>rw [hx] at e;cases e;rw [A8 hx];rfl
 | .none::_,_,e=>by cases e
 | .bool _::_,_,e=>by cases e
 | .str _::_,_,e=>by cases e
 | .tuple _::_,_,e=>by cases e
 | .list _::_,_,e=>by cases e
 | .dict _::_,_,e=>by cases e
theorem DK:∀ {ds:List U8} {rs:List (List Int)},si ds=U7 rs->ds=rs.map zt
 | [],rs,e=>by cases e;rfl
 | .tuple xs::r,rs,e=>by
  unfold si at e
  cases hx:yn xs with
  | none=>rw [hx] at e;cases e
  | some a=>
   cases hy:si r with
   | none=>rw [hx,hy] at e;cases e
   | some b=>
    rw [hx,hy] at e
    cases e
    rw [DK hy,A8 hx];rfl
 | .int _::_,_,e=>by cases e
 | .none::_,_,e=>by cases e
 | .bool _::_,_,e=>by cases e
 | .str _::_,_,e=>by cases e
 | .list _::_,_,e=>by cases e
 | .dict _::_,_,e=>by cases e
theorem Cm{K:UF}{P:PP}{H:Hp}:∀ {rs:List (List Int)} {vs:List V},Reps P H (rs.map zt) vs->JI K H vs rs
 | [],_,h=>by cases (show _=_ from h);trivial
 | r::rs,_,⟨v,t,e,h,q⟩=>by
  subst e
  obtain ⟨a,us,rfl,hp,hr⟩:=h
  have:us=r.map V.int:=ng (vv r) hr
  subst this
  exact ⟨⟨a,rfl,.inl hp⟩,Cm q⟩
theorem Fk{K:UF}:JU (Ng K) dSorted:=by
 intro H₀ Hs H l x d v Q s0 s1 e rx q
 have main:∀ xs t vs,Bl xs=U7 d->v= .ref t->(SqT K H t vs∨SqL K H t vs)->Reps (PL H₀ Hs l) H xs vs->Ng K [v] H Q:=λxs t vs e ev hq rs=>by
  subst ev
  unfold Bl at e
  split at e
  rotate_left
  ·cases e
  rename_i h64
  have hl:=rs.length
  refine ⟨t,vs,rfl,hq,by omega,?_⟩
  split at e
  ·rename_i ns hns
   cases e
   have ex:=A8 hns
   subst ex
   left
   refine ⟨ns,ng hns rs,λis m h1 h2 hm=>q _ _ (qc hm _) ⟨m,_,rfl,.inl ⟨⟨rfl,s1.free hm⟩,z9⟩,?_⟩⟩
   rw [<- h2]
   exact ((AY (d:=(0:Int)) (rs.nl (AG ns)) is h1)).same (qc hm _)
  ·split at e
   ·rename_i rr hrr
    cases e
    have ex:=DK hrr
    subst ex
    right
    refine ⟨rr,Cm rs,λis m h1 h2 hm=>q _ _ (qc hm _) ⟨m,_,rfl,.inl ⟨⟨rfl,s1.free hm⟩,z9⟩,?_⟩⟩
    rw [<- h2]
    exact ((AY (d:=([]:List Int)) (rs.nl (t5 rr)) is h1)).same (qc hm _)
   ·cases e
 unfold dSorted at e
 split at e
 ·obtain ⟨t,vs,rfl,hp,rs⟩:=rx
  exact main _ t vs e rfl (.inr (.inl hp.rd)) rs
 ·obtain ⟨t,vs,rfl,hp,rs⟩:=rx
  exact main _ t vs e rfl (.inl (.inl hp)) rs
 ·cases e
variable{XO:XOT}{a:Vw}{fa:FE}{pos p:Xz}
theorem nh(C:BC X)(hm:X.mg "sorted" =UA)(ha:PE X a (tF XO fa))(hg:Gl X "sorted":=by rfl)(he:UJ [a] X.env=(false,VN a X.env)::UJ [] X.env:=by exact qe rfl)(hpl:(VC pos (UJ [] X.env)).any (·.1)=false:=by exact wj rfl):
  PE X (.Call (.Name "sorted" p) [a] [] pos) (tF XO (vw fa)):=
 EH (Gj C.hu) Fk hm boot_sorted ha hg (by decide) (by decide) he hpl
end
section
variable{X:Cx}{XO:XOF}{cv:Cfg}{pos:Xz}{H₀ F H:Hp}{ρ:Rho}{σ:L2.St}
theorem SR.changeG{i:Nat}{t:Slot}{p:UL}{o0 o1:OwV}{O:Own}(g:SR cv H₀ F ρ σ H)(o:SO cv H₀ F ρ σ H O)(hρ:i < ρ.length)(hO:O p=U7 i)(hp:H p=U7 o0.ho)(ht:SS cv H₀ O σ[i]? i (upd H p o1.ho) t):
  SR cv H₀ F (ρ.set i (U7 t)) σ (upd H p o1.ho):=by
 have hT:∀ a xs,Rd H a (.tup xs)->Rd (upd H p o1.ho) a (.tup xs):=λa xs e=>iu hp e
 have hL:∀ {P:PP},(∀ z a,P z a->O a=UA)->∀ a (ws:HO),Rl P H a ws->Rl P (upd H p o1.ho) a ws:=λ{P} hP a ws rl=>by
  have hne:∀ z,P z a->a≠p:=λz q y=>by have:=hP z a q;rw [y,hO] at this;cases this
  rcases rl with ⟨q,e⟩ | ⟨q,u,e⟩
  ·exact .inl ⟨q,by rw [z0 (hne _ q)];exact e⟩
  ·exact .inr ⟨q,u,by rw [z0 (hne _ q)];exact e⟩
 refine ⟨g.s0,λb u e=>?_,by simp [g.len],g.ln,O,o.fr,λa j e=>?_,λj t' e=>?_⟩
 ·rw [z0]
  ·exact g.s1 b u e
  ·intro z;subst z;rw [o.fr b i hO] at e;cases e
 ·by_cases z:a=p
  ·subst z;exact ⟨o1,z9⟩
  ·rw [z0 z];exact o.ls a j e
 ·by_cases hij:i=j
  ·subst hij
   rw [jg _ _ _ _ hρ,if_pos rfl] at e
   cases e
   exact ht
  ·rw [jg _ _ _ _ hρ,if_neg hij] at e
   have q:=o.sl j t' e
   cases t' with
   | par d=>obtain ⟨w,e1,rr⟩:=q;exact ⟨w,e1,Rep.mono hT (hL λ_ _ x=>x) d w rr⟩
   | loc d=>obtain ⟨w,e1,rr⟩:=q;exact ⟨w,e1,Rep.mono hT (hL λ_ _ x=>x.2.1) d w rr⟩
   | own ds=>
    obtain ⟨q1,ws,e1,hq,hqp,rs⟩:=q
    have hne:q1≠p:=λz=>by rw [z,hO] at hq;cases hq;exact hij rfl
    exact ⟨q1,ws,e1,hq,by rw [z0 hne];exact hqp,Reps.mono hT (hL λ_ _ x=>x.elim) _ _ rs⟩
   | own2 ds=>
    obtain ⟨q1,ws,e1,hq,hqp,rs⟩:=q
    have hne:q1≠p:=λz=>by rw [z,hO] at hq;cases hq;exact hij rfl
    exact ⟨q1,ws,e1,hq,by rw [z0 hne];exact hqp,Reps.mono hT (hL λ_ _ x=>x.2.1) _ _ rs⟩
   | lent ds=>
    obtain ⟨ws,e1,hq,hqp,rs⟩:=q
    have hne:cv.lend≠p:=λz=>by rw [z,hO] at hq;cases hq;exact hij rfl
    exact ⟨ws,e1,hq,by rw [z0 hne];exact hqp,Reps.mono hT (hL λ_ _ x=>x.elim) _ _ rs⟩
   | dct ks=>
    obtain ⟨q1,e1,hq,hd⟩:=q
    have hne:q1≠p:=λz=>by rw [z,hO] at hq;cases hq;exact hij rfl
    exact ⟨q1,e1,hq,hd.upd hne⟩
   | duo c ds es=>exact DuoS.upd hp hO hij q
   | ex c=>
    obtain ⟨w,e1,φ,hx,hφ⟩:=q
    have hne:w≠p:=λz=>by rw [z,hp] at hx;cases o0<;>cases hx
    exact ⟨w,e1,φ,by rw [z0 hne];exact hx,hφ⟩
theorem SR.lentT{i:Nat}{ds:List U8}(g:SR cv H₀ F ρ σ H)(hi:ρ[i]? =U7 (U7 (.lent ds))):∃ O vs,SO cv H₀ F ρ σ H O/\σ[i]? =U7 (U7 (.ref cv.lend))/\O cv.lend=U7 i/\H cv.lend=U7 (.lst vs)/\Reps (λ_ _=>False) H ds vs:=by
 obtain ⟨O,o⟩:=g.ex
 obtain ⟨vs,e,q,h,r⟩:=o.sl i _ hi
 exact ⟨O,vs,o,e,q,h,r⟩
theorem SR.changeT{i:Nat}{ds ds':List U8}{vs vs':List V}{O:Own}(g:SR cv H₀ F ρ σ H)(o:SO cv H₀ F ρ σ H O)(hi:ρ[i]? =U7 (U7 (.lent ds)))(hσ:σ[i]? =U7 (U7 (.ref cv.lend)))(hO:O cv.lend=U7 i)(hp:H cv.lend=U7 (.lst vs))(r:Reps (λ_ _=>False) H ds' vs'):
  SR cv H₀ F (ρ.set i (U7 (.lent ds'))) σ (upd H cv.lend (.lst vs')):=
 g.changeG (o0:=.l vs) (o1:=.l vs') o (UV.mp hi).1 hO hp ⟨vs',hσ,hO,z9,Reps.mono (λa xs e=>iu (o0:=.l vs) hp e) (λa ws rl=>by rcases rl with ⟨q,_⟩ | ⟨q,_⟩<;>exact q.elim) _ _ r⟩
theorem yf(i:Nat){e:Vw}{f:FE}{x:Vk}{xp apos cpos:Xz}(h:PE X e (tF ⟨cv.cv,XO⟩ f))(hN:X.N[i]? =U7 x:=by rfl)(hv:Vis X.env.scope x:=by first | exact VE rfl | exact Vr (VE rfl) | exact Vr (Vr rfl))
  (hd:(x == ("__debug__":Vk))=false:=by decide) (hcd:(x == ("__classdict__":Vk))=false:=by decide)
  (hbase:Wd (.Name x xp) "append" X.env (VN (.Name x xp) X.env)=VN (.Name x xp) X.env:=by rfl)
  (hfew:((VC cpos (UJ [e] X.env)).all (λx=>!x.1) && (YS cpos (X7 [] X.env)).all (λx=>x.1.isSome)
    && decide ([e].length+([]:List Xl).length+(if ([]:List Xl).isEmpty then 0 else 1) < 30))=true:=by rfl)
  (hline:(apos.endLine == cpos.line)=true:=by rfl) (hs1:UJ [e] X.env=(false,VN e X.env)::UJ [] X.env:=by rfl) (hplain:(VC cpos (UJ [] X.env)).any (·.1)=false:=by rfl)
  (hs:W7 (.Call (.Attribute (.Name x xp) "append" apos) [e] [] cpos) UA pos.line X.env=pure false:=by rfl):
  PS X (.Expr (.Call (.Attribute (.Name x xp) "append" apos) [e] [] cpos) pos) (tS cv XO (je i f)):=by
 intro pins s σ H D I ⟨H₀,F,ρ,r,g,e',k⟩
 refine pe (Eg Wj Xv Xw pq (yk (i:=i) hN hv hd hcd) (we h xw hs1) hbase hfew hline hs1 hplain) hs pins s σ H D I ?_
 unfold je at e'
 split at e'
 ·rename_i xs hρ
  obtain ⟨O,vs,o,hσ,hO,hp,rs⟩:=g.lentT hρ
  refine ⟨.ref cv.lend,hσ,.inl ⟨rfl,vs,SqL.of hp⟩,?_⟩
  refine kn g e' k λl d v H1 s1 r1 e1=>?_
  split at e1
  ·rename_i hc
   cases e1
   rw [Ve] at hc
   have hlen:xs.length < big:=of_decide_eq_true hc.2
   refine ⟨cv.lend,vs,v,rfl,rfl,s1 _ _ hp,by rw [rs.length];exact Vj hlen Cu,?_⟩
   have o1:SO cv H₀ F ρ σ H1 O:=⟨o.fr,λa i e=>let ⟨vs,q⟩:=o.ls a i e;⟨vs,s1 _ _ q⟩,λi t e=>(o.sl i t e).same s1⟩
   exact k _ _ ((g.same s1).changeT o1 hρ hσ hO (s1 _ _ hp) ((rs.same s1).append (Reps.one (r1.nl hc.1))))
  ·cases e1
 ·cases e'
end
noncomputable def drp(H:Hp)(p:UL):Hp:=λa=>if a=p then UA else H a
theorem Mj(H:Hp)(p:UL):Same (drp H p) H:=λb u e=>by
 unfold drp at e
 split at e
 ·cases e
 ·exact e
section
open PySem.SeqAt
open PySem.AutoSeq1 (wpAny_loadPart')
open PySem.MeetsSeq PySem.MeetsSeq2 PySem.MeetsSeq3
noncomputable def S0(A:VG)(s:UG)(u v:UB)(c:Bool):Prop:=∀ (prog:Vn) (w:Vz) (E:UB->UG->Prop) (Q:UB->UG->Prop),Q (.bool c) s->UZ (Vh prog w) A (richCompare .Lt u v) Q E s
inductive LtRow (A:VG) (s:UG):List UB->List UB->Bool->Prop
 | nn:LtRow A s [] [] false
 | nc {w:UB} {ws:List UB}:LtRow A s [] (w::ws) true
 | cn {v:UB} {vs:List UB}:LtRow A s (v::vs) [] false
 | eq {v w:UB} {vs ws:List UB} {c:Bool}:EqAt A s v w true->LtRow A s vs ws c->LtRow A s (v::vs) (w::ws) c
 | ne {v w:UB} {vs ws:List UB} {c:Bool}:EqAt A s v w false->S0 A s v w c->LtRow A s (v::vs) (w::ws) c
theorem EZ(l b:UL)(items items2:Array UB)(n n2:Nat)(dd dd2:Option UL)(sl sl2:Array (Option UB))(c:Bool):
  Meets (Vo.«tuple.__lt__» ⟨[.ref l,.ref b],[]⟩)
   (λA R s=>s.heap.get? l=U7 {cls:=.type "tuple",dict:=dd,data:=.seq items n,slots:=sl}/\s.heap.get? b=U7 {cls:=.type "tuple",dict:=dd2,data:=.seq items2 n2,slots:=sl2}/\
     LtRow A.in1 s items.toList items2.toList c/\R (.ok (.ret (.bool c))) s):=
 .of_wp λprog w A R s h=>by
  obtain ⟨hp,g,d,tk,os⟩:=s;obtain ⟨hl,hb,hr,h⟩:=h
  have f2:=Yo
  wp_walk using VH hl,VH hb,wpAny_forIn_list _ (λrest b s'=>b.1=UA/\s'=⟨hp,g,d,tk,os⟩/\∃ (vs ws:List UB),rest=vs.zip ws/\
   LtRow A.in1 ⟨hp,g,d,tk,os⟩ vs ws c/\vs.length+items2.size=ws.length+items.size) _
  case turn=>
   rintro ⟨y,x⟩ rest b s' ⟨hb',rfl,vs,ws,hz,hr',hlen⟩
   cases hr' with
   | nn=>cases hz
   | nc=>rw [Y6] at hz;cases hz
   | cn=>rw [List.zip_nil_right] at hz;cases hz
   | eq he hr''=>
    rw [Wk] at hz
    injection hz with hyx hrest
    injection hyx with hy hx
    subst hy hx
    simp only [UM] at hlen
    refine U9 (he prog w _ _ ?_)
    wp_walk
    exact ⟨rfl,rfl,_,_,hrest,hr'',by omega⟩
   | ne he hlt=>
    rw [Wk] at hz
    injection hz with hyx hrest
    injection hyx with hy hx
    subst hy hx
    refine U9 (he prog w _ _ ?_)
    have hri:=hlt prog w
    wp_walk using hri
    exact ⟨_,rfl,by simpa using h⟩
  case fin=>
   rintro ⟨b1,b2⟩ s' ⟨hb',rfl,vs,ws,hz,hr',hlen⟩
   simp only at hb'
   subst hb'
   have hv:c=decide (items.size < items2.size):=by
    cases hr' with
    | nn=>simp only [Vm] at hlen;exact (decide_eq_false (by omega)).symm
    | nc=>simp only [Vm,UM] at hlen;exact (decide_eq_true (by omega)).symm
    | cn=>simp only [Vm,UM] at hlen;exact (decide_eq_false (by omega)).symm
    | eq _ _=>rw [Wk] at hz;cases hz
    | ne _ _=>rw [Wk] at hz;cases hz
   rw [hv] at h
   wp_walk
   exact ⟨_,rfl,by simpa [Vo.Tuple.tupleCompareSizes] using h⟩
  case h=>
   exact ⟨rfl,rfl,items.toList,items2.toList,rfl,hr,by simp;omega⟩
mutual
theorem D6:∀ (d e:U8) (A:VG) (s:UG) (u v:UB) (as bs:List UL) (c:Bool),Reads s.heap u d as->Reads s.heap v e bs->d.canLay0=true->e.canLay0=true->A.units+d.depth < Yh->ltD d e=U7 c->S0 A s u v c
 | .int i,.int j,A,s,u,v,as,bs,c,ra,rb,_,_,_,h=>by
  cases ra;cases rb
  simp only [ltD,V6] at h
  subst h
  exact λprog w E Q hq=>(PyProof.Rows.lt_int hq:UZ (Vh prog w) A (VZ .Lt _ _) Q E s)
 | .str x,.str y,A,s,u,v,as,bs,c,ra,rb,_,_,_,h=>by
  cases ra;cases rb
  simp only [ltD,V6] at h
  subst h
  exact λprog w E Q hq=>(PySem.P.lt_str hq:UZ (Vh prog w) A (VZ .Lt _ _) Q E s)
 | .tuple xs,.tuple ys,A,s,u,v,as,bs,c,ra,rb,ca,cb,hu,h=>by
  simp only [ltD] at h
  cases ra with
  | @tuple a o1 its1 n1 ds1 as1 ho hc hd ha=>
   cases rb with
   | @tuple b o2 its2 n2 ds2 as2 ho2 hc2 hd2 hb=>
    simp only [V5] at hu
    have row:=lt_rowsG xs ys A.in1 s _ _ _ _ c ha hb (by simpa [Vi] using ca) (by simpa [Vi] using cb) (by show A.units+1+_ < Yh;omega) h
    intro prog w E Q hq
    obtain ⟨cls,dd,data,sl⟩:=o1
    obtain ⟨cls2,dd2,data2,sl2⟩:=o2
    simp only at hc hd hc2 hd2
    subst hc hd hc2 hd2
    exact richCompare_meets_room (op:=.Lt) ⟨_,ho,rfl⟩ ⟨_,ho2,rfl⟩ XS Y7 (Y1 _ _) (EZ _ _ _ _ _ _ dd dd2 sl sl2 c)
     ⟨ho,ho2,row,show UB.bool c≠YR/\Q (.bool c) s from ⟨(λx=>nomatch x),hq⟩⟩ (by omega)
 | .none,_,_,_,_,_,_,_,_,_,_,_,_,_,h=>by simp [ltD] at h
 | .bool _,_,_,_,_,_,_,_,_,_,_,_,_,_,h=>by simp [ltD] at h
 | .list _,_,_,_,_,_,_,_,_,_,_,_,_,_,h=>by simp [ltD] at h
 | .dict _,_,_,_,_,_,_,_,_,_,_,_,_,_,h=>by simp [ltD] at h
 | .int _,.none,_,_,_,_,_,_,_,_,_,_,_,_,h=>by simp [ltD] at h
 | .int _,.bool _,_,_,_,_,_,_,_,_,_,_,_,_,h=>by simp [ltD] at h
 | .int _,.str _,_,_,_,_,_,_,_,_,_,_,_,_,h=>by simp [ltD] at h
 | .int _,.tuple _,_,_,_,_,_,_,_,_,_,_,_,_,h=>by simp [ltD] at h
 | .int _,.list _,_,_,_,_,_,_,_,_,_,_,_,_,h=>by simp [ltD] at h
 | .int _,.dict _,_,_,_,_,_,_,_,_,_,_,_,_,h=>by simp [ltD] at h
 | .str _,.none,_,_,_,_,_,_,_,_,_,_,_,_,h=>by simp [ltD] at h
 | .str _,.bool _,_,_,_,_,_,_,_,_,_,_,_,_,h=>by simp [ltD] at h
 | .str _,.int _,_,_,_,_,_,_,_,_,_,_,_,_,h=>by simp [ltD] at h
 | .str _,.tuple _,_,_,_,_,_,_,_,_,_,_,_,_,h=>by simp [ltD] at h
 | .str _,.list _,_,_,_,_,_,_,_,_,_,_,_,_,h=>by simp [ltD] at h
 | .str _,.dict _,_,_,_,_,_,_,_,_,_,_,_,_,h=>by simp [ltD] at h
 | .tuple _,.none,_,_,_,_,_,_,_,_,_,_,_,_,h=>by simp [ltD] at h
 | .tuple _,.bool _,_,_,_,_,_,_,_,_,_,_,_,_,h=>by simp [ltD] at h
 | .tuple _,.int _,_,_,_,_,_,_,_,_,_,_,_,_,h=>by simp [ltD] at h
 | .tuple _,.str _,_,_,_,_,_,_,_,_,_,_,_,_,h=>by simp [ltD] at h
 | .tuple _,.list _,_,_,_,_,_,_,_,_,_,_,_,_,h=>by simp [ltD] at h
 | .tuple _,.dict _,_,_,_,_,_,_,_,_,_,_,_,_,h=>by simp [ltD] at h
theorem lt_rowsG:∀ (ds es:List U8) (A:VG) (s:UG) (us vs:List UB) (as bs:List UL) (c:Bool),ReadsAll s.heap us ds as->ReadsAll s.heap vs es bs->UP ds=true->UP es=true->A.units+Vg ds < Yh->ltDs ds es=U7 c->LtRow A s us vs c
 | [],[],A,s,_,_,_,_,c,ra,rb,_,_,_,h=>by cases ra;cases rb;cases h;exact .nn
 | [],_::_,A,s,_,_,_,_,c,ra,rb,_,_,_,h=>by cases ra;cases rb;cases h;exact .nc
 | _::_,[],A,s,_,_,_,_,c,ra,rb,_,_,_,h=>by cases ra;cases rb;cases h;exact .cn
 | x::xs,y::ys,A,s,_,_,_,_,c,ra,rb,ca,cb,hu,h=>by
  have ca':x.canLay0=true/\UP xs=true:=by simpa [UP] using ca
  have cb':y.canLay0=true/\UP ys=true:=by simpa [UP] using cb
  have hm:Vg (x::xs)=max x.depth (Vg xs):=rfl
  rw [hm] at hu
  cases ra with
  | cons r1 r2=>
   cases rb with
   | cons q1 q2=>
    have he:=SeqAt.eqAt_reads x y A s _ _ _ _ r1 q1 ca'.1 cb'.1 (by omega)
    unfold ltDs at h
    by_cases hq:Vf x y=true
    ·rw [if_pos hq] at h
     rw [hq] at he
     exact .eq he (lt_rowsG xs ys A s _ _ _ _ c r2 q2 ca'.2 cb'.2 (by omega) h)
    ·rw [if_neg hq] at h
     rw [Bool.eq_false_iff.mpr hq] at he
     exact .ne he (D6 x y A s _ _ _ _ c r1 q1 ca'.1 cb'.1 (by omega) h)
end
end
section
variable{X:Cx}{XO:XOT}{a b:Vw}{fa fb:FE}{pos:Xz}
noncomputable def rLtG:R2:=λx y H Q=>∃ (d e:U8) (P P':PP) (c:Bool),Rep P H d x/\Rep P' H e y/\d.canLay0=true/\e.canLay0=true/\d.depth<=60/\ltD d e=U7 c/\Q (.bl c) H
theorem Q9(hu:X.A.units+64 < Yh):OpR X (VZ .Lt) rLtG:=by
 intro pins s σ H x y v u Q I rx ry h
 obtain ⟨d,e,P,P',c,r1,r2,c1,c2,hd,hl,q⟩:=h
 obtain ⟨as,ra⟩:=vi I d x v c1 r1 rx
 obtain ⟨bs,rb⟩:=vi I e y u c2 r2 ry
 exact D6 d e X.A s v u as bs c ra rb c1 c2 (by omega) hl X.prog X.w X.xe _ ⟨.bl c,H,I,rfl,q⟩
theorem Sm:OpD rLtG Hf true:=by
 intro H₀ Hs H l m x y d v u Q s0 s1 e rx ry q
 unfold Hf at e
 split at e
 ·rename_i hc
  rw [Ve,Ve,decide_eq_true_eq] at hc
  cases hl:ltD x y with
  | none=>rw [hl] at e;cases e
  | some c=>
   rw [hl] at e
   cases e
   exact ⟨x,y,_,_,c,rx,ry,hc.1.1,hc.1.2,hc.2,hl,q _ H (Same.refl H) rfl⟩
 ·cases e
theorem Qt(C:BC X)(ha:PE X a (tF XO fa))(hb:PE X b (tF XO fb)):PT X (.Compare a [.Lt] [b] pos) (yd (tF XO (NL fa fb))):=Aj (Q9 C.hu) Sm ha hb (iw _)
end
noncomputable def spR(cv:Nat->UB)(ar:Nat)(g:FR):Sp:=λvs H Q E=>∃ p xs avs ds args d ds',vs=avs++[.ref p]/\avs.length+1=ar/\H p=U7 (.lst xs)/\Reps (λ_ _=>False) H ds xs/\Reps (λ_ a=>a≠p) H args avs/\g args ds=U7 (d,ds')/\
 ∀ v H' xs',Same (drp H p) H'->H' p=U7 (.lst xs')->Reps (λ_ _=>False) H' ds' xs'->Rep (λ_ a=>a≠p) H' d v->Q v H'
theorem Rt{cv:Nat->UB}{N:List Vk}{p:UL}{xs avs:List V}{ds args:List U8}{H:Hp}(hn:avs.length+1<=N.length)(hp:H p=U7 (.lst xs))(r:Reps (λ_ _=>False) H ds xs)(ra:Reps (λ_ a=>a≠p) H args avs):
  SR ⟨cv,N.length,p⟩ (drp H p) (drp H p) (args.map (λd=>U7 (.par d))++U7 (.lent ds)::UW (N.length - args.length - 1) UA) (L2.bf N (avs++[.ref p])) H:=by
 have hl:=ra.length
 refine ⟨Same.refl _,Mj H p,?_,?_,λa=>if a=p then U7 args.length else UA,λa i e=>?_,λa i e=>?_,λi t e=>?_⟩
 ·simp;omega
 ·unfold L2.bf;simp;omega
 ·by_cases z:a=p
  ·unfold drp;rw [if_pos z]
  ·rw [if_neg z] at e;cases e
 ·by_cases z:a=p
  ·subst z;exact ⟨.l xs,hp⟩
  ·rw [if_neg z] at e;cases e
 ·rcases Nat.lt_trichotomy i args.length with hi | hi | hi
  ·rw [V4 (by simpa using hi),Vu] at e
   cases hx:args[i]? with
   | none=>rw [hx] at e;cases e
   | some d=>
    rw [hx] at e
    cases e
    obtain ⟨v,hv,rv⟩:=ra.get hx
    refine ⟨v,?_,rv.imp λ_ a q=>if_neg q⟩
    unfold L2.bf
    rw [V4 (by simp;omega),Vu,V4 (by omega),hv]
    rfl
  ·subst hi
   rw [Vs (by simp)] at e
   simp only [V8,Nat.sub_self,UE,V6] at e
   cases e
   refine ⟨xs,?_,if_pos rfl,hp,r⟩
   unfold L2.bf
   rw [V4 (by simp;omega),Vu,<- hl,Vs (UI _)]
   simp
  ·rw [Vs (by simp;omega)] at e
   obtain ⟨j,hj⟩:∃ j,i - (args.map (λd=>U7 (Slot.par d))).length=j+1:=⟨i - args.length - 1,by simp;omega⟩
   rw [hj,UD,X1] at e
   split at e<;>cases e
theorem az{P:Vn}{w:Vz}{K:UF}{mg:Vk->Option UB}{base:V1}{cv:Nat->UB}{x qual:Vk}{st:VW}{f:UL}{fd:Yn}{N ps:List Vk}{k:Nat}{b:FS}(M:MF mg)(F:Fun K x qual st f fd)(S:FnScope N ps (zx st))
  (hbody:∀ (lend:UL) (cdv:UB) (A:VG) (outer:List Env) (s:UG) (H:Hp) (E:XK),Body P w cv k (sy (CX1 P w) P w K mg base N qual (zx st) f cdv A outer s H E) (λc _ H'=>E (cv c) UA H')->
    PSs (sy (CX1 P w) P w K mg base N qual (zx st) f cdv A outer s H E) (vz st) (tS ⟨cv,N.length,lend⟩ (λc _ H'=>E (cv c) UA H') b)):
  FnOk P w K mg base (CX1 P w) (k+1) f fd ps (spR cv ps.length (qo N.length b)):=by
 obtain ⟨oc,od,kV,doc,pm,an,cdv,ct,osl,rfl,lk,hcd⟩:=F.ex
 refine Qr lk hcd S (λvs H Q E h=>?_) λA outer s H vs Q E hr hsp=>?_
 ·obtain ⟨p,xs,avs,ds,args,d,ds',rfl,hl,_⟩:=h
  simpa using hl
 obtain ⟨p,xs,avs,ds,args,d,ds',rfl,hl,hp,rp,ra,hg,hok⟩:=hsp
 refine ⟨tS ⟨cv,N.length,p⟩ (λc _ H'=>E (cv c) UA H') b,hbody p cdv A outer s H E ⟨⟨hr.units,M.mlen,M.mint,M.mbool,M.mstr,M.mtuple,M.mlist,M.misi,M.mrange,M.menum,M.mzip,M.mrev⟩,hr,G9,GD,Yz.leaving,rfl,S.nd⟩,?_⟩
 have hn:avs.length+1<=N.length:=by
  have:=congrArg Xj S.pre
  rw [Ye] at this
  omega
 have g:=Rt (cv:=cv) hn hp rp ra
 unfold qo at hg
 cases hb:b (args.map (λd=>U7 (.par d))++U7 (.lent ds)::UW (N.length - args.length - 1) UA) with
 | none=>rw [hb] at hg;cases hg
 | some y=>
  rw [hb] at hg
  refine ⟨drp H p,drp H p,_,y,g,hb,?_⟩
  cases y with
  | retL d' ds2=>
   cases hg
   intro v H' s1 rv ⟨vs,h1,h2⟩
   exact hok v H' vs s1 h1 h2 rv
  | ret d=>cases hg
  | next ρ'=>cases hg
  | exc c ρ'=>cases hg
  | brk ρ'=>cases hg
  | cont ρ'=>cases hg
structure FnR(CX:CXT)(P:Vn)(w:Vz)(K:UF)(mg:Vk->Option UB)(base:V1)(cv:Nat->UB)(n:Nat)(x:Vk)(ar:Nat)(g:FR):Prop where
 ex:∃ f fd ps,FnOk P w K mg base CX n f fd ps (spR cv ar g)/\mg x=U7 (.ref f)/\X2 K (.ref f)=true/\Binds K fd ps []
section
variable{P:Vn}{w:Vz}{K:UF}{mg:Vk->Option UB}{base:V1}{cv:Nat->UB}{CX:CXT}{n ar:Nat}{x:Vk}{st:VW}{ps:List Vk}{g:FR}
theorem GN(F:FunT K mg x st ps):FnR CX P w K mg base cv 0 x ar (λ_ _=>UA):=by
 obtain ⟨f,fd,F,hm,hb,_⟩:=F.ex
 have no:∀ vs H Q E,¬ spR cv ar (λ_ _=>UA) vs H Q E:=λvs H Q E h=>by
  obtain ⟨p,xs,avs,ds,args,d,ds',_,_,_,_,_,z,_⟩:=h
  cases z
 exact ⟨f,fd,ps,⟨λvs H Q E h=>absurd h (no vs H Q E),λA outer s H args us vs Q E _ _ _ _ h=>absurd h (no vs H Q E)⟩,hm,F.kp,hb⟩
theorem Gy(F:FunT K mg x st ps)(ok:∀ f fd,Fun K x x st f fd->FnOk P w K mg base CX n f fd ps (spR cv ar g)):FnR CX P w K mg base cv n x ar g:=by
 obtain ⟨f,fd,F,hm,hb,_⟩:=F.ex
 exact ⟨f,fd,ps,ok f fd F,hm,F.kp,hb⟩
end
noncomputable def tX1(XO:XOT)(K:UF):Arg->TE
 | .f e=>tF XO e
 | .n j=>Dv j
 | .x j k=>tOp (rIx K) (Dv j) (tC (.int (k:Int)))
noncomputable def tXA(XO:XOT)(K:UF):List Arg->Nat->TA
 | [],i=>GB (Dv i) tNil
 | a::as,i=>GB (tX1 XO K a) (tXA XO K as i)
section
variable{X:Cx}{XO:XOF}{cv:Cfg}{pos p:Xz}{H₀ F H:Hp}{ρ:Rho}{σ:L2.St}{e:Vw}{es:List Vw}{f:FE}{as:List Arg}{i:Nat}
theorem yh(i:Nat){x:Vk}{xp:Xz}(hN:X.N[i]? =U7 x:=by rfl)(hv:Vis X.env.scope x:=by first | exact VE rfl | exact Vr (VE rfl) | exact Vr (Vr rfl))(hd:(x == ("__debug__":Vk))=false:=by decide)(hcd:(x == ("__classdict__":Vk))=false:=by decide)
 (hs:UJ [.Name x xp] X.env=(false,VN (.Name x xp) X.env)::UJ [] X.env:=by exact qe rfl):PA X [.Name x xp] (tXA ⟨cv.cv,XO⟩ X.K [] i):=we (yk (i:=i) hN hv hd hcd) xw hs
theorem aq(h:PE X e (tF ⟨cv.cv,XO⟩ f))(t:PA X es (tXA ⟨cv.cv,XO⟩ X.K as i))(hs:UJ (e::es) X.env=(false,VN e X.env)::UJ es X.env:=by exact qe rfl):PA X (e::es) (tXA ⟨cv.cv,XO⟩ X.K (.f f::as) i):=we h t hs
theorem ua(j:Nat){x:Vk}{xp:Xz}(t:PA X es (tXA ⟨cv.cv,XO⟩ X.K as i))(hN:X.N[j]? =U7 x:=by rfl)(hv:Vis X.env.scope x:=by first | exact VE rfl | exact Vr (VE rfl) | exact Vr (Vr rfl))(hd:(x == ("__debug__":Vk))=false:=by decide)(hcd:(x == ("__classdict__":Vk))=false:=by decide)
 (hs:UJ (.Name x xp::es) X.env=(false,VN (.Name x xp) X.env)::UJ es X.env:=by exact qe rfl):PA X (.Name x xp::es) (tXA ⟨cv.cv,XO⟩ X.K (.n j::as) i):=we (yk (i:=j) hN hv hd hcd) t hs
theorem Qa(j k:Nat){x:Vk}{xp kp sp:Xz}{c:Nat}(t:PA X es (tXA ⟨cv.cv,XO⟩ X.K as i))(hN:X.N[j]? =U7 x:=by rfl)(hv:Vis X.env.scope x:=by first | exact VE rfl | exact Vr (VE rfl) | exact Vr (Vr rfl))(hd:(x == ("__debug__":Vk))=false:=by decide)(hcd:(x == ("__classdict__":Vk))=false:=by decide)
  (hs:UJ (.Subscript (.Name x xp) (.Constant (.int (k:Int)) c kp) sp::es) X.env=(false,VN (.Subscript (.Name x xp) (.Constant (.int (k:Int)) c kp) sp) X.env)::UJ es X.env:=by exact qe rfl):PA X (.Subscript (.Name x xp) (.Constant (.int (k:Int)) c kp) sp::es) (tXA ⟨cv.cv,XO⟩ X.K (.x j k::as) i):=
 we (NG Jg (yk (i:=j) hN hv hd hcd) BO (λ_ _=>rfl)) t hs
theorem Rk{rs:List U8}{O:Own}(o:SO cv H₀ F ρ σ H O)(h:au ρ i=U7 rs):∃ q xs,σ[i]? =U7 (U7 (.ref q))/\O q=U7 i/\H q=U7 (.lst xs)/\Reps (λ_ _=>False) H rs xs/\(∀ t,ρ[i]? =U7 (U7 (.lent t))->q=cv.lend):=by
 unfold au at h
 split at h
 ·rename_i ds hρ
  cases h
  obtain ⟨q,vs,e,hq,hp,r⟩:=o.sl i _ hρ
  exact ⟨q,vs,e,hq,hp,r,λt z=>by rw [hρ] at z;cases z⟩
 ·rename_i ds hρ
  cases h
  obtain ⟨vs,e,hq,hp,r⟩:=o.sl i _ hρ
  exact ⟨cv.lend,vs,e,hq,hp,r,λt z=>rfl⟩
 ·cases h
theorem nj{O:Own}{j:Nat}{d:U8}{q:UL}(o:SO cv H₀ F ρ σ H O)(hq:O q=U7 i)(hj:j≠i)(h:ko ρ[j]? =U7 d):∃ v,σ[j]? =U7 (U7 v)/\Rep (λ_ a=>a≠q) H d v:=by
 have ne:∀ a,O a=UA->a≠q:=λa z y=>by rw [y,hq] at z;cases z
 unfold ko at h
 split at h
 ·rename_i hρ
  cases h
  obtain ⟨v,e,r⟩:=o.sl j _ hρ
  exact ⟨v,e,r.imp λ_ a z=>ne a z⟩
 ·rename_i hρ
  cases h
  obtain ⟨v,e,r⟩:=o.sl j _ hρ
  exact ⟨v,e,r.imp λ_ a z=>ne a z.2.1⟩
 ·rename_i ds hρ
  cases h
  obtain ⟨p,vs,e,hp,hv,r⟩:=o.sl j _ hρ
  refine ⟨.ref p,e,p,vs,rfl,.inl ⟨λy=>?_,hv⟩,r.imp λ_ _ z=>z.elim⟩
  rw [y,hq] at hp
  cases hp
  exact hj rfl
 ·cases h
theorem SO.same{O:Own}{H1:Hp}(o:SO cv H₀ F ρ σ H O)(s1:Same H H1):SO cv H₀ F ρ σ H1 O:=⟨o.fr,λa i e=>let ⟨vs,q⟩:=o.ls a i e;⟨vs,s1 _ _ q⟩,λi t e=>(o.sl i t e).same s1⟩
theorem JB{O:Own}{q:UL}:∀ (as:List Arg) (ds:List U8) (H:Hp) (Q:List V->Hp->Prop),SR cv H₀ F ρ σ H->SO cv H₀ F ρ σ H O->σ[i]? =U7 (U7 (.ref q))->O q=U7 i->xb i ρ as=U7 ds->
  (∀ avs H1,Same H H1->Reps (λ_ a=>a≠q) H1 ds avs->Q (avs++[.ref q]) H1)->tXA ⟨cv.cv,XO⟩ X.K as i σ H Q
 | [],ds,H,Q,g,o,hσ,hO,ha,k=>by
  cases ha
  exact ⟨.ref q,hσ,k [] H (Same.refl H) rfl⟩
 | a::as,ds,H,Q,g,o,hσ,hO,ha,k=>by
  unfold xb at ha
  split at ha
  case h_2=>cases ha
  rename_i d ds' h1 h2
  cases ha
  have rest:∀ v H1,Same H H1->Rep (λ_ a=>a≠q) H1 d v->tXA ⟨cv.cv,XO⟩ X.K as i σ H1 λvs H2=>Q (v::vs) H2:=λv H1 s1 r1=>
   JB as ds' H1 _ (g.same s1) (o.same s1) hσ hO h2 λavs H2 s2 r2=>k (v::avs) H2 (s1.trans s2) ⟨v,avs,rfl,r1.same s2,r2⟩
  cases a with
  | f e=>
   simp only [di] at h1
   split at h1
   ·rename_i l d' he
    split at h1
    ·rename_i hl
     cases h1
     refine ⟨H₀,H,ρ,.ok l d,g.g,he,⟨λl' d' v H' e' s rp=>?_,λc H' e=>(nomatch e)⟩⟩
     cases e'
     exact rest v H' s (rp.nl hl)
    ·cases h1
   ·cases h1
  | n j=>
   simp only [di] at h1
   split at h1
   ·cases h1
   ·rename_i hj
    obtain ⟨v,e,r⟩:=nj o hO hj h1
    exact ⟨v,e,rest v H (Same.refl H) r⟩
  | x j k'=>
   simp only [di] at h1
   split at h1
   ·cases h1
   ·rename_i hj
    split at h1
    ·rename_i es hs
     obtain ⟨v,e,pa,vs,rfl,rl,rs⟩:=nj o hO hj hs
     obtain ⟨w,hw,rw'⟩:=rs.get h1
     have hlt:=(UV.mp hw).1
     have hat:L2.atI vs (k':Int)=U7 w:=by
      unfold L2.atI L2.ixN
      rw [if_pos (by omega),if_pos (by omega)]
      simpa using hw
     exact ⟨.ref pa,e,.inl ⟨pa,vs,(k':Int),w,rfl,rfl,.inl rl.rd,hat,rest w H (Same.refl H) rw'⟩⟩
    ·cases h1
theorem Lf{O:Own}{q:UL}{H1 H':Hp}{xs':List V}{rs rs':List U8}(g:SR cv H₀ F ρ σ H1)(o:SO cv H₀ F ρ σ H1 O)(hr:au ρ i=U7 rs)(hσ:σ[i]? =U7 (U7 (.ref q)))(hO:O q=U7 i){xs:List V}(hp:H1 q=U7 (.lst xs))(hlend:∀ t,ρ[i]? =U7 (U7 (.lent t))->q=cv.lend)
  (sm:Same (drp H1 q) H') (hq:H' q=U7 (.lst xs')) (r':Reps (λ_ _=>False) H' rs' xs'):SR cv H₀ F (dj ρ i rs') σ H'/\SO cv H₀ F (dj ρ i rs') σ H' (λa=>if a=q then U7 i else UA):=by
 have sm':∀ b u,b≠q->H1 b=U7 u->H' b=U7 u:=λb u n z=>sm b u (by unfold drp;rw [if_neg n];exact z)
 have hil:i < ρ.length:=by
  unfold au at hr
  split at hr
  ·rename_i h;exact (UV.mp h).1
  ·rename_i h;exact (UV.mp h).1
  ·cases hr
 have hT:∀ a xs,Rd H1 a (.tup xs)->Rd H' a (.tup xs):=λa xs h=>by
  have hne:a≠q:=by
   intro z;subst z
   rcases h with h | ⟨_,h⟩<;>(rw [hp] at h;cases h)
  rcases h with h | ⟨u,h⟩
  ·exact .inl (sm' _ _ hne h)
  ·exact .inr ⟨u,sm' _ _ hne h⟩
 have ne:∀ a,O a=UA->a≠q:=λa z y=>by rw [y,hO] at z;cases z
 have hL:∀ {P P':PP},(∀ z a,P z a->O a=UA/\P' z a)->∀ a (ws:HO),Rl P H1 a ws->Rl P' H' a ws:=λ{P P'} hP a ws rl=>by
  rcases rl with ⟨w,e⟩ | ⟨w,u,e⟩
  ·exact .inl ⟨(hP _ _ w).2,sm' _ _ (ne _ (hP _ _ w).1) e⟩
  ·exact .inr ⟨(hP _ _ w).2,u,sm' _ _ (ne _ (hP _ _ w).1) e⟩
 have so:SO cv H₀ F (dj ρ i rs') σ H' (λa=>if a=q then U7 i else UA):=by
  refine ⟨λa j e=>?_,λa j e=>?_,λj t e=>?_⟩
  ·by_cases z:a=q
   ·subst z;exact o.fr a i hO
   ·rw [if_neg z] at e;cases e
  ·by_cases z:a=q
   ·subst z;exact ⟨.l xs',hq⟩
   ·rw [if_neg z] at e;cases e
  ·unfold dj at e
   by_cases hij:i=j
   ·subst hij
    rw [jg _ _ _ _ (by simpa using hil),if_pos rfl] at e
    unfold As at e
    split at e
    ·cases e;exact ⟨q,xs',hσ,if_pos rfl,hq,r'⟩
    ·rename_i t' hρ
     cases e
     have hl:=hlend _ hρ
     subst hl
     exact ⟨xs',hσ,if_pos rfl,hq,r'⟩
    ·cases e
   ·rw [jg _ _ _ _ (by simpa using hil),if_neg hij,Vu] at e
    cases hx:ρ[j]? with
    | none=>rw [hx] at e;cases e
    | some os=>
     rw [hx] at e
     simp only [Va,V6] at e
     cases os with
     | none=>cases e
     | some t0=>
      have sl:=o.sl j t0 hx
      cases t0 with
      | par d=>cases e;obtain ⟨w,e1,rr⟩:=sl;exact ⟨w,e1,Rep.mono hT (hL λ_ a x=>⟨x,if_neg (ne a x)⟩) d w rr⟩
      | loc d=>cases e;obtain ⟨w,e1,rr⟩:=sl;exact ⟨w,e1,Rep.mono hT (hL λ_ a x=>⟨x.2.1,x.1,if_neg (ne a x.2.1),x.2.2⟩) d w rr⟩
      | own ds=>
       cases e
       obtain ⟨p,vs,e1,hp',hv,rr⟩:=sl
       have hne:p≠q:=λz=>by rw [z,hO] at hp';cases hp';exact hij rfl
       exact ⟨.ref p,e1,p,vs,rfl,.inl ⟨⟨rfl,if_neg hne,g.s0.free (o.fr p j hp')⟩,sm' _ _ hne hv⟩,Reps.mono hT (λa ws rl=>by rcases rl with ⟨z,_⟩ | ⟨z,_⟩<;>exact z.elim) _ _ rr⟩
      | own2 ds=>
       cases e
       obtain ⟨p,vs,e1,hp',hv,rr⟩:=sl
       have hne:p≠q:=λz=>by rw [z,hO] at hp';cases hp';exact hij rfl
       exact ⟨.ref p,e1,p,vs,rfl,.inl ⟨⟨rfl,if_neg hne,g.s0.free (o.fr p j hp')⟩,sm' _ _ hne hv⟩,Reps.mono hT (hL λ_ a x=>⟨x.2.1,x.1,if_neg (ne a x.2.1),x.2.2⟩) _ _ rr⟩
      | dct ks=>cases e
      | duo c ds es=>cases e
      | lent ds=>cases e
      | ex c=>
       cases e
       obtain ⟨w,e1,φ,hx',hφ⟩:=sl
       have hne:w≠q:=λz=>by rw [z,hp] at hx';cases hx'
       exact ⟨w,e1,φ,sm' _ _ hne hx',hφ⟩
 refine ⟨⟨g.s0,λb u e=>?_,by unfold dj;simp [g.len],g.ln,_,so⟩,so⟩
 refine sm' b u (λz=>?_) (g.s1 b u e)
 subst z;rw [o.fr b i hO] at e;cases e
end
section
variable{X:Cx}{XO:XOF}{cv:Cfg}{CX:CXT}{pos p:Xz}{H₀ F H:Hp}{ρ:Rho}{σ:L2.St}{e:Vw}{es:List Vw}{as:List Arg}{i n ar:Nat}{x:Vk}{g:FR}
noncomputable def tRC(cv:Cfg)(XO:XOF)(K:UF)(as:List Arg)(i ar:Nat)(g:FR):TE:=λσ H Q=>tXA ⟨cv.cv,XO⟩ K as i σ H λvs H1=>spR cv.cv ar g vs H1 Q (λcls _ H'=>∃ c,cls=cv.cv c/\XO c σ H')
theorem qr(F:FnR CX X.prog X.w X.K X.mg X.base cv.cv n x ar g)(hr:Room n X.A)(L:FU CX X ⟨cv.cv,XO⟩)(ha:PA X (e::es) (tXA ⟨cv.cv,XO⟩ X.K as i))(hg:Gl X x:=by rfl)(hdb:(x == ("__debug__":Vk))=false:=by decide)
  (he:UJ (e::es) X.env=(false,VN e X.env)::UJ es X.env:=by exact qe rfl) (hpl:(VC pos (UJ es X.env)).any (·.1)=false:=by exact wj rfl):PE X (.Call (.Name x p) (e::es) [] pos) (tRC cv XO X.K as i ar g):=by
 obtain ⟨f,fd,ps,F,hm,hk,hb⟩:=F.ex
 intro pins s σ H Q I hA
 refine W8 (EF I hg hm ?_ hdb)
 refine PySem.W.callWith_K (h₀:=X.base) I.ok.mod.kin hk (thn (ha pos pins s σ H _ I hA) λus s1 ⟨vs,H1,I1,r,q⟩=>⟨I1.kIn,?_⟩) he hpl
 have hl:(us++[]).length=ps.length:=by rw [V3,<- r.length];exact F.len _ _ _ _ q
 have hB:=hb s1 us I1.kIn hl
 rw [V3] at hB
 refine wpAny_call (codeAny_mono (F.run X.A X.stack s1 H1 ⟨us,[]⟩ us vs Q _ hr I1.env0 hB r q) λr s' hq=>?_)
 cases r with
 | error e=>exact L pins σ H1 s1 e s' I1 hq
 | ok fl=>
  cases fl with
  | ret u=>exact I1.after hq
  | next=>exact WY hq
  | brk=>exact WY hq
  | cont=>exact WY hq
theorem Ad{d:U8}{rs':List U8}{Q:VK}{K:UF}(hK:K=X.K)(gg:SR cv H₀ F ρ σ H)(hn:Zm ar (as.length+1)=true)(hc:xj g as i ρ=U7 (d,rs'))
  (k:∀ q v H' xs',SR cv H₀ F (dj ρ i rs') σ H'->SO cv H₀ F (dj ρ i rs') σ H' (λa=>if a=q then U7 i else UA)->H' q=U7 (.lst xs')->Reps (λ_ _=>False) H' rs' xs'->(∀ t,ρ[i]? =U7 (U7 (.lent t))->q=cv.lend)->Rep (λ_ a=>a≠q) H' d v->Q v H'):
  tRC cv XO K as i ar g σ H Q:=by
 subst hK
 unfold xj at hc
 split at hc
 case h_2=>cases hc
 rename_i ds rs ha hr
 obtain ⟨O,o⟩:=gg.ex
 obtain ⟨q,xs,hσ,hO,hp,rrs,hlend⟩:=Rk o hr
 refine JB as ds H _ gg o hσ hO ha λavs H1 s1 ra=>⟨q,xs,avs,rs,ds,d,rs',rfl,?_,s1 _ _ hp,rrs.same s1,ra,hc,λv H' xs' sm hq r' rv=>?_⟩
 ·rw [ra.length,Nat.eq_of_beq_eq_true hn]
  clear hσ hO hp rrs hlend hr k s1 ra hn hc
  have:∀ (as:List Arg) (ds:List U8),xb i ρ as=U7 ds->ds.length=as.length:=by
   intro as
   induction as with
   | nil=>intro ds h;cases h;rfl
   | cons a as ih=>
    intro ds h
    unfold xb at h
    split at h
    ·rename_i d ds' h1 h2
     cases h
     simp [ih _ h2]
    ·cases h
  rw [this as ds ha]
 ·obtain ⟨g2,o2⟩:=Lf (gg.same s1) (o.same s1) hr hσ hO (s1 _ _ hp) hlend sm hq r'
  exact k q v H' xs' g2 o2 hq r' hlend rv
theorem SR.putO{O:Own}{j:Nat}{v:V}{t:Slot}(g:SR cv H₀ F ρ σ H)(o:SO cv H₀ F ρ σ H O)(hi':X0 j cv.n=true)(ht:SS cv H₀ O (U7 (U7 v)) j H t):SR cv H₀ F (ρ.set j (U7 t)) (σ.set j (U7 v)) H:=by
 have hi:j < σ.length:=by rw [g.ln];exact XA.mp hi'
 have hρ:j < ρ.length:=by rw [g.len];exact XA.mp hi'
 refine ⟨g.s0,g.s1,by simp [g.len],by simp [g.ln],O,o.fr,o.ls,λk t' e=>?_⟩
 by_cases hij:j=k
 ·subst hij
  rw [jg _ _ _ _ hρ,if_pos rfl] at e
  cases e
  rw [jg _ _ _ _ hi,if_pos rfl]
  exact ht
 ·rw [jg _ _ _ _ hρ,if_neg hij] at e
  rw [jg _ _ _ _ hi,if_neg hij]
  exact o.sl k t' e
theorem uk(j:Nat){y:Vk}{pos':Xz}(hnd:X.N.Nodup)(hp:PE X e (tRC cv XO X.K as i ar g))(hn:Zm ar (as.length+1)=true:=by rfl)(hj:X.N[j]? =U7 y:=by rfl)(hy:Loc X.env.scope y:=by first | exact VE rfl | exact Vr rfl)
  (hs:W7 e (U7 (.Name y pos')) pos.line X.env=pure false:=by rfl) (hf:X.fn y=true∨X.env.scope.names.lookup y=U7 .local:=by first | exact .inl rfl | exact .inr rfl | assumption)
  (hjn:X0 j cv.n=true:=by rfl):PS X (.Assign [.Name y pos'] e pos) (tS cv XO (yi j g as i)):=by
 intro pins s σ H D I ⟨H₀,F,ρ,r,gg,e',k⟩
 refine sk hnd hj hy hp hs hf pins s σ H D I ?_
 unfold yi at e'
 split at e'
 ·rename_i d rs hc
  split at e'
  ·cases e'
  ·cases e'
   exact Ad (X:=X) rfl gg hn hc λq v H' xs' g2 o2 hq r' hl rv=>k _ _ (g2.putO o2 hjn ⟨v,rfl,rv.imp λ_ a z=>if_neg z⟩)
 ·cases e'
theorem FB(hp:PE X e (tRC cv XO X.K as i ar g))(hn:Zm ar (as.length+1)=true:=by rfl)(hs:W7 e UA pos.line X.env=pure false:=by rfl):PS X (.Expr e pos) (tS cv XO (n9 g as i)):=by
 intro pins s σ H D I ⟨H₀,F,ρ,r,gg,e',k⟩
 refine pe hp hs pins s σ H D I ?_
 unfold n9 at e'
 split at e'
 ·rename_i d rs hc
  cases e'
  exact Ad (X:=X) rfl gg hn hc λq v H' xs' g2 o2 hq r' hl rv=>k _ _ g2
 ·cases e'
theorem K4(h:ab ρ i=true):∃ t,ρ[i]? =U7 (U7 (.lent t)):=by
 unfold ab at h
 split at h
 ·rename_i t ht;exact ⟨t,ht⟩
 ·cases h
theorem A4{K:UF}{D:Ends}{r:RS}(hK:K=X.K)(gg:SR cv H₀ F ρ σ H)(hn:Zm ar (as.length+1)=true)(e':u1 g as i ρ=U7 r)(k:KS cv XO H₀ F D r):tRC cv XO K as i ar g σ H D.rt:=by
 unfold u1 at e'
 split at e'
 ·rename_i d rs hc
  split at e'
  ·rename_i hl
   cases e'
   obtain ⟨t,ht⟩:=K4 hl
   exact Ad (X:=X) hK gg hn hc λq v H' xs' g2 o2 hq r' hl rv=>by
    have:=hl t ht
    subst this
    exact k v H' g2.s1 rv ⟨xs',hq,r'⟩
  ·cases e'
 ·cases e'
theorem E5(hp:PE X e (tRC cv XO X.K as i ar g))(hn:Zm ar (as.length+1)=true:=by rfl):PS X (.Return (U7 e) pos) (tS cv XO (u1 g as i)):=by
 intro pins s σ H D I ⟨H₀,F,ρ,r,gg,e',k⟩
 exact r9 hp pins s σ H D I (A4 (X:=X) rfl gg hn e' k)
theorem M0{c a b:Vw}{fc:FE}{as2:List Arg}{i2 ar2:Nat}{g2:FR}{ip:Xz}(hc:PT X c (yd (tF ⟨cv.cv,XO⟩ fc)))(ha:PE X a (tRC cv XO X.K as i ar g))(hb:PE X b (tRC cv XO X.K as2 i2 ar2 g2))(hn:Zm ar (as.length+1)=true:=by rfl)(hn2:Zm ar2 (as2.length+1)=true:=by rfl):
  PS X (.Return (U7 (.IfExp c a b ip)) pos) (tS cv XO (sIf fc (u1 g as i) (u1 g2 as2 i2))):=by
 intro pins s σ H D I ⟨H₀,F,ρ,r,gg,e',k⟩
 refine r9 (FQ hc ha hb) pins s σ H D I ?_
 unfold sIf at e'
 refine kn gg e' k λl d v H1 s1 r1 e1=>?_
 split at e1
 ·exact ⟨true,r1,L2.G0 (A4 (X:=X) rfl (gg.same s1) hn e1 k)⟩
 ·exact ⟨false,r1,L2.H8 (A4 (X:=X) rfl (gg.same s1) hn2 e1 k)⟩
 ·cases e1
theorem Ph{tp:Xz}{tpos:Xz}(C:BC X)(hp:PE X e (tRC cv XO X.K as i ar g))(hn:Zm ar (as.length+1)=true:=by rfl)(hg:Gl X "tuple":=by rfl)(he:UJ [e] X.env=(false,VN e X.env)::UJ [] X.env:=by exact qe rfl)(hpl:(VC tpos (UJ [] X.env)).any (·.1)=false:=by exact wj rfl):
  PS X (.Return (U7 (.Call (.Name "tuple" tp) [e] [] tpos)) pos) (tS cv XO (F5 g as i)):=by
 intro pins s σ H D I ⟨H₀,F,ρ,r,gg,e',k⟩
 refine r9 (Ea rg hg C.mtuple Y4 (we hp xw he) (by decide) (by decide) he hpl) pins s σ H D I ?_
 unfold F5 at e'
 split at e'
 ·rename_i xs rs hc
  split at e'
  ·rename_i hl
   rw [Ve] at hl
   cases e'
   obtain ⟨t,ht⟩:=K4 hl.1
   refine Ad (X:=X) rfl gg hn hc λq v H' xs' g2 o2 hq r' hl' rv=>?_
   have:=hl' t ht
   subst this
   obtain ⟨pa,vs,rfl,rl,rr⟩:=rv
   refine ⟨pa,vs,rfl,.inl ⟨.inl rl.rd,λl hln=>?_⟩⟩
   have sn:Same H' (upd H' l (.tup vs)):=qc hln _
   exact k _ _ (g2.s1.trans sn) ⟨l,vs,rfl,.inl z9,(rr.nl hl.2).same sn⟩ ⟨xs',sn _ _ hq,r'.same sn⟩
  ·cases e'
 ·cases e'
theorem dk(i:Nat){f:FE}(h:PE X e (tF ⟨cv.cv,XO⟩ f)):PS X (.Return (U7 e) pos) (tS cv XO (ku i f)):=by
 intro pins s σ H D I ⟨H₀,F,ρ,r,gg,e',k⟩
 refine r9 h pins s σ H D I ?_
 unfold ku at e'
 split at e'
 ·rename_i rs hρ
  obtain ⟨O,vs,o,hσ,hO,hp,rrs⟩:=gg.lentT hρ
  refine kn gg e' k λl d v H1 s1 r1 e1=>?_
  split at e1
  ·rename_i hc
   cases e1
   refine k v H1 (gg.s1.trans s1) ?_ ⟨vs,s1 _ _ hp,rrs.same s1⟩
   by_cases hl:lf d=true
   ·exact r1.nl hl
   ·have h2:2<=l:=by
      rw [Bool.or_eq_true] at hc
      exact of_decide_eq_true (hc.resolve_left hl)
    refine r1.imp λz a pz y=>?_
    subst y
    match l,h2,pz with
    | l+2,_,pz=>rw [pz.2] at hp;cases hp
  ·cases e1
 ·cases e'
theorem Ez(i j:Nat){y:Vk}{yp:Xz}(hN:X.N[j]? =U7 y:=by rfl)(hv:Vis X.env.scope y:=by first | exact VE rfl | exact Vr (VE rfl) | exact Vr (Vr rfl))(hd:(y == ("__debug__":Vk))=false:=by decide)(hcd:(y == ("__classdict__":Vk))=false:=by decide):
  PS X (.Return (U7 (.Name y yp)) pos) (tS cv XO (me i j)):=by
 intro pins s σ H D I ⟨H₀,F,ρ,r,gg,e',k⟩
 refine r9 (yk (i:=j) hN hv hd hcd) pins s σ H D I ?_
 unfold me at e'
 split at e'
 ·rename_i rs hρ
  obtain ⟨O,vs,o,hσ,hO,hp,rrs⟩:=gg.lentT hρ
  split at e'
  ·rename_i d hd'
   cases e'
   split at hd'
   ·cases hd'
   ·rename_i hj
    obtain ⟨v,ev,rv⟩:=nj o hO hj hd'
    exact ⟨v,ev,k v H gg.s1 rv ⟨vs,hp,rrs⟩⟩
  ·cases e'
 ·cases e'
theorem LR(i j k':Nat){y z:Vk}{yp zp lp:Xz}(hN:X.N[j]? =U7 y:=by rfl)(hv:Vis X.env.scope y:=by first | exact VE rfl | exact Vr (VE rfl) | exact Vr (Vr rfl))(hd:(y == ("__debug__":Vk))=false:=by decide)(hcd:(y == ("__classdict__":Vk))=false:=by decide)
  (hN2:X.N[k']? =U7 z:=by rfl) (hv2:Vis X.env.scope z:=by first | exact VE rfl | exact Vr (VE rfl) | exact Vr (Vr rfl)) (hd2:(z == ("__debug__":Vk))=false:=by decide) (hcd2:(z == ("__classdict__":Vk))=false:=by decide)
  (hs1:UJ [.Name y yp,.Name z zp] X.env=(false,VN (.Name y yp) X.env)::UJ [.Name z zp] X.env:=by exact qe rfl) (hs2:UJ [.Name z zp] X.env=(false,VN (.Name z zp) X.env)::UJ [] X.env:=by exact qe rfl):
  PS X (.Return (U7 (.List [.Name y yp,.Name z zp] lp)) pos) (tS cv XO (DQ i j k')):=by
 intro pins s σ H D I ⟨H₀,F,ρ,r,gg,e',k⟩
 refine r9 (N1 (we (yk (i:=j) hN hv hd hcd) (we (yk (i:=k') hN2 hv2 hd2 hcd2) xw hs2) hs1)) pins s σ H D I ?_
 unfold DQ at e'
 split at e'
 ·rename_i rs hρ
  obtain ⟨O,vs,o,hσ,hO,hp,rrs⟩:=gg.lentT hρ
  split at e'
  ·rename_i d1 d2 h1 h2
   cases e'
   split at h1
   ·cases h1
   ·rename_i hj
    split at h2
    ·cases h2
    ·rename_i hk
     obtain ⟨v1,ev1,rv1⟩:=nj o hO hj h1
     obtain ⟨v2,ev2,rv2⟩:=nj o hO hk h2
     refine ⟨v1,ev1,v2,ev2,(by decide:2<=Vc),λl hln=>?_⟩
     have sn:Same H (upd H l (.lst [v1,v2])):=qc hln _
     refine k _ _ (gg.s1.trans sn) ⟨l,[v1,v2],rfl,.inl ⟨λy=>?_,z9⟩,v1,[v2],rfl,rv1.same sn,v2,[],rfl,rv2.same sn,rfl⟩ ⟨vs,sn _ _ hp,rrs.same sn⟩
     rw [y,hp] at hln
     cases hln
  ·cases e'
 ·cases e'
theorem IX(j i:Nat){x y:Vk}{xp yp:Xz}(hnd:X.N.Nodup)(hN:X.N[i]? =U7 x:=by rfl)(hv:Vis X.env.scope x:=by first | exact VE rfl | exact Vr (VE rfl) | exact Vr (Vr rfl))(hd:(x == ("__debug__":Vk))=false:=by decide)(hcd:(x == ("__classdict__":Vk))=false:=by decide)
  (hj:X.N[j]? =U7 y:=by rfl) (hy:Loc X.env.scope y:=by first | exact VE rfl | exact Vr rfl) (hs:W7 (.Name x xp) (U7 (.Name y yp)) pos.line X.env=pure false:=by rfl) (hf:X.fn y=true∨X.env.scope.names.lookup y=U7 .local:=by first | exact .inl rfl | exact .inr rfl | assumption)
  (hjn:X0 j cv.n=true:=by rfl):PS X (.Assign [.Name y yp] (.Name x xp) pos) (tS cv XO (A0 j i)):=by
 intro pins s σ H D I ⟨H₀,F,ρ,r,gg,e',k⟩
 refine sk hnd hj hy (yk (i:=i) hN hv hd hcd) hs hf pins s σ H D I ?_
 unfold A0 at e'
 split at e'
 ·rename_i ds hρ
  split at e'
  ·cases e'
  ·rename_i hij
   cases e'
   obtain ⟨O,q,vs,o,hσ,hO,hp,rs⟩:=gg.own hρ
   refine ⟨.ref q,hσ,k _ _ ?_⟩
   have hjσ:j < σ.length:=by rw [gg.ln];exact XA.mp hjn
   have hjρ:j < (ρ.set i UA).length:=by rw [List.length_set,gg.len];exact XA.mp hjn
   have hiρ:i < ρ.length:=(UV.mp hρ).1
   have hn:∀ a,O a=UA->(if a=q then U7 j else O a)=UA:=λa z=>by
    rw [if_neg (λy=>by rw [y,hO] at z;cases z)]
    exact z
   refine ⟨gg.s0,gg.s1,by simp [gg.len],by simp [gg.ln],λa=>if a=q then U7 j else O a,λa m z=>?_,λa m z=>?_,λm t z=>?_⟩
   ·by_cases y:a=q
    ·subst y;exact o.fr a i hO
    ·rw [if_neg y] at z;exact o.fr a m z
   ·by_cases y:a=q
    ·subst y;exact ⟨.l vs,hp⟩
    ·rw [if_neg y] at z;exact o.ls a m z
   ·by_cases hjm:j=m
    ·subst hjm
     rw [jg _ _ _ _ hjρ,if_pos rfl] at z
     cases z
     rw [jg _ _ _ _ hjσ,if_pos rfl]
     exact ⟨q,vs,rfl,if_pos rfl,hp,rs⟩
    ·rw [jg _ _ _ _ hjρ,if_neg hjm] at z
     rw [jg _ _ _ _ hjσ,if_neg hjm]
     by_cases him:i=m
     ·subst him
      rw [jg _ _ _ _ hiρ,if_pos rfl] at z
      cases z
     ·rw [jg _ _ _ _ hiρ,if_neg him] at z
      have sl:=o.sl m t z
      have nq:∀ a,O a=U7 m->a≠q:=λa w y=>by rw [y,hO] at w;cases w;exact him rfl
      cases t with
      | par d=>obtain ⟨w,e1,rr⟩:=sl;exact ⟨w,e1,rr.imp λ_ a z=>hn a z⟩
      | loc d=>obtain ⟨w,e1,rr⟩:=sl;exact ⟨w,e1,rr.imp λ_ a z=>⟨z.1,hn a z.2.1,z.2.2⟩⟩
      | own ds=>obtain ⟨q1,ws,e1,hq,hqp,rs'⟩:=sl;exact ⟨q1,ws,e1,(if_neg (nq _ hq)).trans hq,hqp,rs'⟩
      | own2 ds=>obtain ⟨q1,ws,e1,hq,hqp,rs'⟩:=sl;exact ⟨q1,ws,e1,(if_neg (nq _ hq)).trans hq,hqp,rs'.imp λ_ a z=>⟨z.1,hn a z.2.1,z.2.2⟩⟩
      | lent ds=>obtain ⟨ws,e1,hq,hqp,rs'⟩:=sl;exact ⟨ws,e1,(if_neg (nq _ hq)).trans hq,hqp,rs'⟩
      | dct ks=>obtain ⟨q1,e1,hq,hd⟩:=sl;exact ⟨q1,e1,(if_neg (nq _ hq)).trans hq,hd⟩
      | duo c ds es=>exact DuoS.mv (λ_ _ x=>x) (λb u x y=>⟨(if_neg (nq _ x)).trans x,y⟩) sl
      | ex c=>exact sl
 ·cases e'
theorem SO.changeG{i:Nat}{t:Slot}{p:UL}{o0 o1:OwV}{O:Own}(o:SO cv H₀ F ρ σ H O)(hρ:i < ρ.length)(hO:O p=U7 i)(hp:H p=U7 o0.ho)(ht:SS cv H₀ O σ[i]? i (upd H p o1.ho) t):
  SO cv H₀ F (ρ.set i (U7 t)) σ (upd H p o1.ho) O:=by
 have hT:∀ a xs,Rd H a (.tup xs)->Rd (upd H p o1.ho) a (.tup xs):=λa xs e=>iu hp e
 have hL:∀ {P:PP},(∀ z a,P z a->O a=UA)->∀ a (ws:HO),Rl P H a ws->Rl P (upd H p o1.ho) a ws:=λ{P} hP a ws rl=>by
  have hne:∀ z,P z a->a≠p:=λz q y=>by have:=hP z a q;rw [y,hO] at this;cases this
  rcases rl with ⟨q,e⟩ | ⟨q,u,e⟩
  ·exact .inl ⟨q,by rw [z0 (hne _ q)];exact e⟩
  ·exact .inr ⟨q,u,by rw [z0 (hne _ q)];exact e⟩
 refine ⟨o.fr,λa j e=>?_,λj t' e=>?_⟩
 ·by_cases z:a=p
  ·subst z;exact ⟨o1,z9⟩
  ·rw [z0 z];exact o.ls a j e
 ·by_cases hij:i=j
  ·subst hij
   rw [jg _ _ _ _ hρ,if_pos rfl] at e
   cases e
   exact ht
  ·rw [jg _ _ _ _ hρ,if_neg hij] at e
   have q:=o.sl j t' e
   cases t' with
   | par d=>obtain ⟨w,e1,rr⟩:=q;exact ⟨w,e1,Rep.mono hT (hL λ_ _ x=>x) d w rr⟩
   | loc d=>obtain ⟨w,e1,rr⟩:=q;exact ⟨w,e1,Rep.mono hT (hL λ_ _ x=>x.2.1) d w rr⟩
   | own ds=>
    obtain ⟨q1,ws,e1,hq,hqp,rs⟩:=q
    have hne:q1≠p:=λz=>by rw [z,hO] at hq;cases hq;exact hij rfl
    exact ⟨q1,ws,e1,hq,by rw [z0 hne];exact hqp,Reps.mono hT (hL λ_ _ x=>x.elim) _ _ rs⟩
   | own2 ds=>
    obtain ⟨q1,ws,e1,hq,hqp,rs⟩:=q
    have hne:q1≠p:=λz=>by rw [z,hO] at hq;cases hq;exact hij rfl
    exact ⟨q1,ws,e1,hq,by rw [z0 hne];exact hqp,Reps.mono hT (hL λ_ _ x=>x.2.1) _ _ rs⟩
   | lent ds=>
    obtain ⟨ws,e1,hq,hqp,rs⟩:=q
    have hne:cv.lend≠p:=λz=>by rw [z,hO] at hq;cases hq;exact hij rfl
    exact ⟨ws,e1,hq,by rw [z0 hne];exact hqp,Reps.mono hT (hL λ_ _ x=>x.elim) _ _ rs⟩
   | dct ks=>
    obtain ⟨q1,e1,hq,hd⟩:=q
    have hne:q1≠p:=λz=>by rw [z,hO] at hq;cases hq;exact hij rfl
    exact ⟨q1,e1,hq,hd.upd hne⟩
   | duo c ds es=>exact DuoS.upd hp hO hij q
   | ex c=>
    obtain ⟨w,e1,φ,hx,hφ⟩:=q
    have hne:w≠p:=λz=>by rw [z,hp] at hx;cases o0<;>cases hx
    exact ⟨w,e1,φ,by rw [z0 hne];exact hx,hφ⟩
theorem NP(i j:Nat){x y:Vk}{xp yp apos cpos ap2 cp2 kp:Xz}{c:Nat}(hN:X.N[i]? =U7 x:=by rfl)(hv:Vis X.env.scope x:=by first | exact VE rfl | exact Vr (VE rfl) | exact Vr (Vr rfl))(hd:(x == ("__debug__":Vk))=false:=by decide)(hcd:(x == ("__classdict__":Vk))=false:=by decide)
  (hN2:X.N[j]? =U7 y:=by rfl) (hv2:Vis X.env.scope y:=by first | exact VE rfl | exact Vr (VE rfl) | exact Vr (Vr rfl)) (hd2:(y == ("__debug__":Vk))=false:=by decide) (hcd2:(y == ("__classdict__":Vk))=false:=by decide)
  (hbase:Wd (.Name x xp) "append" X.env (VN (.Name x xp) X.env)=VN (.Name x xp) X.env:=by rfl) (hbase2:Wd (.Name y yp) "pop" X.env (VN (.Name y yp) X.env)=VN (.Name y yp) X.env:=by rfl)
  (hfew:((VC cpos (UJ [.Call (.Attribute (.Name y yp) "pop" ap2) [.Constant (.int 0) c kp] [] cp2] X.env)).all (λx=>!x.1) && (YS cpos (X7 [] X.env)).all (λx=>x.1.isSome)
    && decide ([Vw.Call (.Attribute (.Name y yp) "pop" ap2) [.Constant (.int 0) c kp] [] cp2].length+([]:List Xl).length+(if ([]:List Xl).isEmpty then 0 else 1) < 30))=true:=by rfl)
  (hfew2:((VC cp2 (UJ [.Constant (.int 0) c kp] X.env)).all (λx=>!x.1) && (YS cp2 (X7 [] X.env)).all (λx=>x.1.isSome)
    && decide ([Vw.Constant (.int 0) c kp].length+([]:List Xl).length+(if ([]:List Xl).isEmpty then 0 else 1) < 30))=true:=by rfl)
  (hline:(apos.endLine == cpos.line)=true:=by rfl) (hline2:(ap2.endLine == cp2.line)=true:=by rfl)
  (hs1:UJ [.Call (.Attribute (.Name y yp) "pop" ap2) [.Constant (.int 0) c kp] [] cp2] X.env=(false,VN (.Call (.Attribute (.Name y yp) "pop" ap2) [.Constant (.int 0) c kp] [] cp2) X.env)::UJ [] X.env:=by rfl) (hplain:(VC cpos (UJ [] X.env)).any (·.1)=false:=by rfl)
  (hs2:UJ [.Constant (.int 0) c kp] X.env=(false,VN (.Constant (.int 0) c kp) X.env)::UJ [] X.env:=by rfl) (hplain2:(VC cp2 (UJ [] X.env)).any (·.1)=false:=by rfl)
  (hs:W7 (.Call (.Attribute (.Name x xp) "append" apos) [.Call (.Attribute (.Name y yp) "pop" ap2) [.Constant (.int 0) c kp] [] cp2] [] cpos) UA pos.line X.env=pure false:=by rfl):
  PS X (.Expr (.Call (.Attribute (.Name x xp) "append" apos) [.Call (.Attribute (.Name y yp) "pop" ap2) [.Constant (.int 0) c kp] [] cp2] [] cpos) pos) (tS cv XO (Au i j)):=by
 intro pins s σ H D I ⟨H₀,F,ρ,r,gg,e',k⟩
 refine pe (Eg Wj Xv Xw pq (yk (i:=i) hN hv hd hcd)
  (we (Eg Wj PySem.F.slot_list_pop PySem.F.type_list_pop Ms (yk (i:=j) hN2 hv2 hd2 hcd2) (we BO xw hs2) hbase2 hfew2 hline2 hs2 hplain2) xw hs1) hbase hfew hline hs1 hplain) hs pins s σ H D I ?_
 unfold Au at e'
 split at e'
 case h_2=>cases e'
 rename_i xs hi
 split at e'
 case h_2=>cases e'
 rename_i y' ys hj
 split at e'
 case isFalse=>cases e'
 rename_i hc
 obtain ⟨hij,hlen,hlf⟩:=hc
 cases e'
 obtain ⟨O,o⟩:=gg.ex
 obtain ⟨p,vs,hσ,hO,hp,rs⟩:=o.sl i _ hi
 obtain ⟨q,ws,hσ2,hO2,hq,rs2⟩:=o.sl j _ hj
 have hpq:p≠q:=λz=>by rw [z,hO2] at hO;cases hO;exact hij rfl
 obtain ⟨v,wr,rfl,rv,rr⟩:=rs2
 have hT:∀ a xs,Rd H a (.tup xs)->Rd (upd H q (.lst wr)) a (.tup xs):=λa xs h=>iu (o0:=.l (v::wr)) hq h
 have fF:∀ {ds:List U8} {us:List V},Reps (λ_ _=>False) H ds us->Reps (λ_ _=>False) (upd H q (.lst wr)) ds us:=λ{ds us} r=>Reps.mono hT (λa ws rl=>by rcases rl with ⟨z,_⟩ | ⟨z,_⟩<;>exact z.elim) ds us r
 have g2:=gg.change o hj hσ2 hO2 hq rr
 have o2:SO cv H₀ F (ρ.set j (U7 (.own ys))) σ (upd H q (.lst wr)) O:=
  o.changeG (o0:=.l (v::wr)) (o1:=.l wr) (UV.mp hj).1 hO2 hq ⟨q,wr,hσ2,hO2,z9,fF rr⟩
 refine ⟨.ref p,hσ,.inl ⟨rfl,vs,SqL.of hp⟩,.ref q,hσ2,.inl ⟨rfl,v::wr,SqL.of hq⟩,q,v::wr,0,0,v,rfl,rfl,hq,by decide,by decide,by simp [seqIndex?],rfl,p,vs,v,rfl,rfl,by rw [z0 hpq];exact hp,by rw [rs.length];exact Vj hlen Cu,?_⟩
 have hi2:(ρ.set j (U7 (.own ys)))[i]? =U7 (U7 (.own xs)):=by
  rw [jg _ _ _ _ (UV.mp hj).1,if_neg (Wv hij)];exact hi
 exact k _ _ (g2.change o2 hi2 hσ hO (by rw [z0 hpq];exact hp) ((fF rs).append (Reps.one (Rep.mono hT (λa ws rl=>by rcases rl with ⟨z,_⟩ | ⟨z,_⟩<;>exact z.elim) _ _ rv))))
end
theorem AC:fillsNumberSlot (.type "tuple") "mul" =pure false:=
 PySem.fillsNumberSlot_seq (id:="tuple.__mul__") (r:=U7 (.builtin "tuple.__rmul__")) PySem.F.slot_tuple_mul.lookup (by decide +kernel) PySem.F.slot_tuple_rmul.lookup (by decide +kernel)
theorem Fj:seqRepeat? (.type "tuple")=pure (U7 (.builtin "tuple.__mul__")):=by
 unfold seqRepeat?
 rw [PySem.seqSlot_of (T:="tuple") (name:="__mul__") (id:="tuple.__mul__") PySem.F.slot_tuple_mul.lookup (by decide +kernel),PySem.seqSlot_of (T:="tuple") (name:="__rmul__") (id:="tuple.__rmul__") PySem.F.slot_tuple_rmul.lookup (by decide +kernel)]
 rfl
theorem IQ(a:Int)(t:Tok)(l:UL)(items:Array UB)(n:Nat)(dd:Option UL)(sl:Array (Option UB)):
  Meets (Vo.«int.__rmul__» ⟨[.int a t,.ref l],[]⟩) (λ_ R s=>s.heap.get? l=U7 {cls:=.type "tuple",dict:=dd,data:=.seq items n,slots:=sl}/\R (.ok (.ret YR)) s):=
 .of_wp λprog w A R s h=>by obtain ⟨hp,g,d,tk,os⟩:=s;obtain ⟨hl,h⟩:=h;wp_walk using VH hl;exact ⟨_,rfl,h⟩
theorem II(t:Tok)(l:UL)(items:Array UB)(n:Nat)(dd:Option UL)(sl:Array (Option UB)):
  Meets (Vo.«tuple.__mul__» ⟨[.ref l,.int 1 t],[]⟩) (λ_ R s=>s.heap.get? l=U7 {cls:=.type "tuple",dict:=dd,data:=.seq items n,slots:=sl}/\R (.ok (.ret (.ref l))) s):=
 .of_wp λprog w A R s h=>by obtain ⟨hp,g,d,tk,os⟩:=s;obtain ⟨hl,h⟩:=h;have f1:=YK;wp_walk using VH hl;exact ⟨_,rfl,h⟩
theorem Il(k:Int)(t:Tok)(l:UL)(items:Array UB)(n:Nat)(dd:Option UL)(sl:Array (Option UB))(h1:-(2 ^ 63)<=k)(h0:k<=0)(hne:items.isEmpty=false):
  Meets (Vo.«tuple.__mul__» ⟨[.ref l,.int k t],[]⟩) (λ_ R s=>s.heap.get? l=U7 {cls:=.type "tuple",dict:=dd,data:=.seq items n,slots:=sl}/\R (.ok (.ret (VD s.heap.objs.size))) {s with heap:=s.heap.push {cls:=Wa "tuple",data:=Data.seq #[]},toks:=s.toks}):=
 .of_wp λprog w A R s h=>by
  obtain ⟨hp,g,d,tk,os⟩:=s;obtain ⟨hl,h⟩:=h;have f1:=YK
  have e1:(decide (k < -(2 ^ 63)) || decide (k≥2 ^ 63))=false:=by rw [Ya];exact ⟨decide_eq_false (by omega),decide_eq_false (by omega)⟩
  have e2:(items.isEmpty || k == 1)=false:=by rw [hne,Bool.false_or];exact beq_eq_false_iff_ne.mpr (by omega)
  have e3:(decide (k<=0) || items.isEmpty)=true:=by rw [decide_eq_true h0,Bool.true_or]
  wp_walk using VH hl
  refine Xg (decide_eq_false (by rw [e1];exact UY)) ?_
  wp_walk using VH hl
  refine Xg (decide_eq_false (by rw [e2];exact UY)) ?_
  wp_walk using VH hl
  exact ⟨_,rfl,h⟩
theorem Ih(k:Int)(t:Tok)(l:UL)(items:Array UB)(n:Nat)(dd:Option UL)(sl:Array (Option UB))(h1:k < 2 ^ 63)(h0:1 < k)(hne:items.isEmpty=false)(hz:items.size * k.toNat<=Vc)(hz2:(Zk (λx1 x2=>x1++x2) #[] (UW k.toNat items)).size<=Vc):
  Meets (Vo.«tuple.__mul__» ⟨[.ref l,.int k t],[]⟩) (λ_ R s=>s.heap.get? l=U7 {cls:=.type "tuple",dict:=dd,data:=.seq items n,slots:=sl}/\R (.ok (.ret (VD s.heap.objs.size))) {s with heap:=s.heap.push {cls:=Wa "tuple",data:=Data.seq (Zk (λx1 x2=>x1++x2) #[] (UW k.toNat items))},toks:=s.toks}):=
 .of_wp λprog w A R s h=>by
  obtain ⟨hp,g,d,tk,os⟩:=s;obtain ⟨hl,h⟩:=h;have f1:=YK
  have e1:(decide (k < -(2 ^ 63)) || decide (k≥2 ^ 63))=false:=by rw [Ya];exact ⟨decide_eq_false (by omega),decide_eq_false (by omega)⟩
  have e2:(items.isEmpty || k == 1)=false:=by rw [hne,Bool.false_or];exact beq_eq_false_iff_ne.mpr (by omega)
  have e3:(decide (k<=0) || items.isEmpty)=false:=by rw [hne,Bool.or_false];exact decide_eq_false (by omega)
  have hk:((items.size:Int) * k)=((items.size * k.toNat:Nat):Int):=by rw [Int.natCast_mul,Int.toNat_of_nonneg (by omega)]
  have hs:(Vc:Nat)<=(2 ^ 63 - 1) / 8:=by decide
  wp_walk using VH hl
  refine Xg (decide_eq_false (by rw [e1];exact UY)) ?_
  wp_walk using VH hl
  refine Xg (decide_eq_false (by rw [e2];exact UY)) ?_
  wp_walk using VH hl
  refine Xg (decide_eq_false (by rw [e3];exact UY)) ?_
  wp_walk using VH hl
  refine Xg (decide_eq_false (by rw [hk];omega)) ?_
  wp_walk using VH hl
  refine Xg (decide_eq_false (by unfold Vo.Tuple.tupleTooMany;rw [hk];simp only [decide_eq_true_eq];omega)) ?_
  wp_walk using VH hl
  exact ⟨_,rfl,h⟩
section
variable{X:Cx}{XO:XOT}{a b:Vw}{fa fb:FE}{pos:Xz}
noncomputable def rRepT:R2:=λx y H Q=>∃ l k xs,x= .ref l/\y= .int k/\Rd H l (.tup xs)/\xs≠[]/\-(2 ^ 63)<=k/\k < 2 ^ 63/\xs.length * k.toNat<=Vc/\
 (k=1->Q (.ref l) H)/\(k≠1->∀ p,H p=UA->Q (.ref p) (upd H p (.tup (UW k.toNat xs).flatten)))
theorem P3:OpR X (WN .Mult) rRepT:=by
 intro pins s σ H x y v u Q I rx ry h
 obtain ⟨l,k,xs,rfl,rfl,hH,hne,h1,h2,hz,q1,q2⟩:=h
 cases rx
 obtain ⟨t,rfl⟩:=ry
 obtain ⟨its,r,p1,_⟩:=I.tuple (.inl hH)
 obtain ⟨⟨cls,dd,data,sl⟩,e,hc,n,hd⟩:=id p1
 simp only at hc hd
 subst hc hd
 have hl:=r.length
 have hi:its≠[]:=λz=>hne (r.nil_iff.mp z)
 have hie:its.toArray.isEmpty=false:=by cases its with | nil=>exact absurd rfl hi | cons a b=>rfl
 have f0:Zk (λx1 x2=>x1++x2) #[] (UW k.toNat its.toArray)=(UW k.toNat its).flatten.toArray:=by
  have:=AW its k.toNat []
  rw [XG] at this
  exact this
 refine wpAny_binaryOp_repeat_ref (T:="tuple") (U:="int") (by decide) ⟨_,e,rfl⟩ (λs'=>typeIs_int s' k t) AC F.fills_int_mul YZ Fj F.slot_int_index.lookup
  (W9 YZ (typeIs_int s k t) F.entry_int_rmul (F.args_int_rmul_2 _ _) (IQ k t l its.toArray n dd sl)
    ⟨e,rfl,⟨_,e,rfl⟩,?_⟩)
 have lay:∀ ys us,Vals ys us->ys.length<=Vc->(∀ p,H p=UA->Q (.ref p) (upd H p (.tup ys)))->∃ v H',Inv X pins σ H' {s with heap:=s.heap.push {cls:=Wa "tuple",data:=Data.seq us.toArray},toks:=s.toks}/\RelV v (VD s.heap.objs.size)/\Q v H':=by
  intro ys us ru hy qq
  refine ⟨.ref s.heap.objs.size,_,I.laid (t':=s.toks) (o:=.tup ys) (λb ob q=>UH _ q) (UI _) ?_,rfl,qq _ (I.hok.fresh (UI _))⟩
  exact ⟨⟨hy,tv (US _ rfl) rfl⟩,_,ru,Yg.new _ _⟩
 by_cases k1:k=1
 ·subst k1
  exact W9 F.slot_tuple_mul ⟨_,e,rfl⟩ F.entry_tuple_mul (F.args_tuple_mul_2 _ _) (II t l its.toArray n dd sl) ⟨e,.ref l,H,I,rfl,q1 rfl⟩
 ·have q2:=q2 k1
  by_cases k0:k<=0
  ·have e0:k.toNat=0:=by omega
   rw [e0] at q2
   exact W9 F.slot_tuple_mul ⟨_,e,rfl⟩ F.entry_tuple_mul (F.args_tuple_mul_2 _ _) (Il k t l its.toArray n dd sl h1 k0 hie) ⟨e,lay [] [] .nil (VJ _) q2⟩
  ·have hlen:(UW k.toNat xs).flatten.length<=Vc:=by rw [Fw,Xm];exact hz
   refine W9 F.slot_tuple_mul ⟨_,e,rfl⟩ F.entry_tuple_mul (F.args_tuple_mul_2 _ _) (Ih k t l its.toArray n dd sl h2 (by omega) hie (by rw [UO,<- hl];exact hz) (by rw [f0,UO,Fw,Xm,<- hl];exact hz)) ⟨e,?_⟩
   rw [f0]
   exact lay _ _ (r.rep k.toNat) hlen q2
theorem Qb:OpD rRepT HZ true:=by
 intro H₀ Hs H l m x y d v u Q s0 s1 e rx ry q
 unfold HZ at e
 split at e
 ·rename_i xs k
  split at e
  ·rename_i hz
   simp only [Ve,decide_eq_true_eq] at hz
   obtain ⟨⟨⟨f1,hz⟩,hk⟩,hne⟩:=hz
   cases e
   obtain ⟨pa,vs,rfl,ha,ra⟩:=rx
   cases (show u= .int k from ry)
   have l1:=ra.length
   have hb:big < 2 ^ 63:=by decide
   refine ⟨pa,k,vs,rfl,rfl,ha,λz=>?_,by omega,by omega,by rw [l1];exact ah hz,λk1=>?_,λ_ p hp=>?_⟩
   ·subst z;rw [<- l1] at hne;exact absurd hne (by decide)
   ·subst k1
    have:(UW (1:Int).toNat xs).flatten=xs:=by show (UW 1 xs).flatten=xs;simp
    rw [this] at q
    exact q _ H (Same.refl H) ⟨pa,vs,rfl,ha,ra.nl f1⟩
   ·exact q _ _ (qc hp _) ⟨p,_,rfl,.inl z9,((ra.nl f1).rep _).same (qc hp _)⟩
  ·cases e
 ·cases e
theorem Nq(ha:PE X a (tF XO fa))(hb:PE X b (tF XO fb)):PE X (.BinOp a .Mult b pos) (tF XO (tq fa fb)):=IU P3 Qb ha hb
end
section
variable{prog:Vn}{w:Vz}{A:VG}{E:UB->UG->Prop}{s:UG}{d it v:UL}{od:WK}{es:Array DictEntry}{ep i:Nat}{ok ov:UB}
theorem Hh(hd:(d == Xr)=false):
  MeetsIn prog w (Vo.«dict.items» ⟨[.ref d],[]⟩) (λ_ R s=>s.TypeIs (.ref d) "dict"/\R (.ok (.ret (.ref s.heap.objs.size))) {s with heap:=s.heap.push {cls:=.type "dict_items",data:=.fields #[.ref d]}}):=
 .of_wp λA R s ⟨hT,h⟩=>by
  unfold Vo.«dict.items»
  refine U9 ?_
  unfold Vo.Dict.noArgs
  refine U9 (wpAny_notOrdered_dict hT ?_)
  show UZ _ _ (pure d) _ _ s
  refine UK ?_
  show UZ _ _ (Vo.Dict.showsAll d >>= _) _ _ s
  unfold Vo.Dict.showsAll
  rw [if_neg (by rw [hd];exact UY)]
  refine U9 (UK ?_)
  exact U9 (VI (UK ⟨_,rfl,h⟩))
theorem Ji{Q:UB->UG->Prop}(hv:s.heap.IsItemsView v d)(ho:s.heap.get? d=U7 od)(hdat:od.data= .dict es ep)
  (hQ:Q (.ref s.heap.objs.size) {s with heap:=s.heap.push {cls:=.type "dict_itemiterator",data:=.fields #[.none,.bool false,.ref d,.int 0 0,.int es.size 0,.int ep 0,.none,.none]}}):
  UZ (Vh prog w) A (pyIter (.ref v)) Q E s:=by
 obtain ⟨ov,hov,hcv,hdv⟩:=id hv
 refine wpAny_pyIter_slot hv.typeIs F.slot_dict_items_iter (Wc F.slot_dict_items_iter hv.typeIs F.entry_dict_items_iter ?_ (F.args_dict_items_iter_1 _))
 unfold Vo.«dict_items.__iter__»
 refine U9 (UK ?_)
 refine U9 ?_
 unfold Vo.Dict_items.dictOf
 refine U9 (VX hov hdv (x:=.ref d) rfl (UK ?_))
 refine U9 ?_
 unfold Vo.Dict_items.newIterator
 refine U9 (YD ho hdat ?_)
 refine U9 (wpAny_dictEpoch ho hdat ?_)
 have hown:XI "dict_itemiterator" =true:=by decide
 simp only [hown,if_true]
 refine VI (UK ⟨_,rfl,"dict_itemiterator",_,⟨_,US _ rfl,rfl⟩,VY.lookup,?_⟩)
  (by simp only [sizeOk,Vo.Dict_items.ownedTupleFields,UO,UC,UM,Vm,Y0];omega)
 simpa [XR,Vo.Dict_items.ownedTupleFields] using hQ
theorem Ie{e:DictEntry}{Q:Option UB->UG->Prop}(hit:Xa s.heap it d i es.size ep ok ov)(hod:s.heap.get? d=U7 od)(hdd:od.data= .dict es ep)(hx:es[i]? =U7 e)
  (hQ:∀ h',IsItemIterOut h' it d (i+1) es.size ep e.key e.val s.heap.objs.size->h'.get? s.heap.objs.size=U7 {cls:=.type "tuple",data:=.seq #[e.key,e.val]}->h'.objs.size=s.heap.objs.size+1->
    (∀ b o,b≠it->s.heap.get? b=U7 o->h'.get? b=U7 o)->Q (U7 (.ref s.heap.objs.size)) {s with heap:=h'}):
  UZ (Vh prog w) A (Zq (.ref it)) Q E s:=by
 obtain ⟨hp,g,dr,tk,os⟩:=s
 have hT:UG.TypeIs ⟨hp,g,dr,tk,os⟩ (.ref it) "dict_itemiterator":=⟨_,hit,rfl⟩
 unfold Zq
 refine U9 (Yq (Wi (name:=X8 "__next__") hT VY
  (Wc VY hT F.entry_dict_itemiterator_next ?_ (F.args_dict_itemiterator_next_1 _))))
 refine U9 (UK ?_)
 refine U9 ?_
 refine U9 ?_
 refine U9 (WC hT (UK ?_))
 refine U9 (wpAny_fieldsOf hit rfl ?_)
 have hown:XI "dict_itemiterator" =true:=by decide
 simp only [hown,if_true]
 show UZ _ _ (if (VD d == Vq)=true then _ else _) _ _ _
 rw [if_neg (show ¬ ((VD d == Vq)=true) from UY)]
 refine U9 (UK ?_)
 refine U9 (YD hod hdd ?_)
 rw [if_neg (by simp)]
 refine U9 (UK ?_)
 refine U9 (wpAny_dictEpoch hod hdd ?_)
 rw [if_neg (by simp)]
 refine UK ?_
 simp only [show ¬ ((i:Int) < 0) from by omega,if_false,Int.toNat_natCast,hx]
 refine U9 ?_
 refine U9 (WC hT (UK ?_))
 refine U9 (YE hT ?_)
 show UZ _ _ (setField (.ref it) 3 (XR ((i:Int)+1)) >>= _) _ _ ⟨hp,g,dr,tk,os⟩
 refine U9 (XC hit (by simp) λh₁ he₁ hs₁=>?_)
 replace hs₁:Wq it hp h₁:=hs₁
 replace he₁:Xa h₁ it d (i+1) es.size ep ok ov:=by
  have e:((i+1:Nat):Int)=(i:Int)+1:=by omega
  unfold Xa;rw [e];simpa [XR] using he₁
 have hT₁:UG.TypeIs ⟨h₁,g,dr,tk,os⟩ (.ref it) "dict_itemiterator":=⟨_,he₁,rfl⟩
 refine U9 (WE ?_)
 refine U9 (YE hT₁ ?_)
 refine U9 (YE hT₁ ?_)
 show UZ _ _ (Vo.Dict_items.pairFromOwner (.ref it) 6 e.key e.val) _ _ ⟨h₁,g,dr,tk,os⟩
 unfold Vo.Dict_items.pairFromOwner
 refine U9 (wpAny_newTuple ?_)
 have he₂:Xa (h₁.push {cls:=.type "tuple",data:=.seq #[e.key,e.val]}) it d (i+1) es.size ep ok ov:=UH _ he₁
 generalize hh₂:h₁.push {cls:=.type "tuple",data:=.seq #[e.key,e.val]} =h₂ at he₂
 have hz₁:h₁.objs.size=hp.objs.size:=hs₁.1
 have hil:it < hp.objs.size:=UT hit
 have ht₂:h₂.get? hp.objs.size=U7 {cls:=.type "tuple",data:=.seq #[e.key,e.val]}:=by rw [<- hh₂,<- hz₁];exact US _ rfl
 have hz₂:h₂.objs.size=hp.objs.size+1:=by rw [<- hh₂,YB,hz₁]
 have hk₂:∀ b o,b≠it->hp.get? b=U7 o->h₂.get? b=U7 o:=λb o hb q=>by rw [<- hh₂];exact UH _ (hs₁.extBut b o hb q)
 show UZ _ _ (Vo.Dict_items.ownedTupleIsFree (.ref it) >>= _) _ _ ⟨h₂,g,dr,tk,os⟩
 rw [hz₁]
 clear hh₂ he₁ hs₁ hT₁ hz₁ h₁
 refine U9 ?_
 unfold Vo.Dict_items.ownedTupleIsFree
 refine U9 (VX he₂ rfl (x:=.none) rfl (UK ?_))
 simp only [if_true]
 refine U9 (VX he₂ rfl (x:=ok) rfl ?_)
 refine U9 (VX he₂ rfl (x:=ov) rfl ?_)
 refine U9 (XC he₂ (by simp) λh₃ he₃ hs₃=>?_)
 replace hs₃:Wq it h₂ h₃:=hs₃
 replace he₃:Xa h₃ it d (i+1) es.size ep e.key ov:=he₃
 refine U9 (XC he₃ (by simp) λh₄ he₄ hs₄=>?_)
 replace hs₄:Wq it h₃ h₄:=hs₄
 replace he₄:Xa h₄ it d (i+1) es.size ep e.key e.val:=he₄
 refine U9 (XC he₄ (by simp) λh₅ he₅ hs₅=>?_)
 replace hs₅:Wq it h₄ h₅:=hs₅
 replace he₅:IsItemIterOut h₅ it d (i+1) es.size ep e.key e.val hp.objs.size:=he₅
 refine U9 (XC he₅ (by simp) λh₆ he₆ hs₆=>?_)
 replace hs₆:Wq it h₅ h₆:=hs₆
 replace he₆:IsItemIterOut h₆ it d (i+1) es.size ep e.key e.val hp.objs.size:=he₆
 refine U9 (wpAny_letGo (UK (UK ⟨_,rfl,UK (hQ h₆ he₆ ?_ ?_ ?_)⟩)))
 ·exact hs₆.extBut _ _ (Wr hil) (hs₅.extBut _ _ (Wr hil) (hs₄.extBut _ _ (Wr hil) (hs₃.extBut _ _ (Wr hil) ht₂)))
 ·show h₆.objs.size=hp.objs.size+1
  rw [hs₆.1,hs₅.1,hs₄.1,hs₃.1,hz₂]
 ·exact λb o hb q=>hs₆.extBut b o hb (hs₅.extBut b o hb (hs₄.extBut b o hb (hs₃.extBut b o hb (hk₂ b o hb q))))
theorem LF{Q:Option UB->UG->Prop}(hh:A.handled=UA)(hit:Xa s.heap it d i es.size ep ok ov)(hod:s.heap.get? d=U7 od)(hdd:od.data= .dict es ep)(hx:es[i]? =UA)
  (hQ:∀ h',V1.ExtBut it s.heap h'->Q UA {s with heap:=h'}):UZ (Vh prog w) A (Zq (.ref it)) Q E s:=by
 have hT:s.TypeIs (.ref it) "dict_itemiterator":=⟨_,hit,rfl⟩
 unfold Zq
 refine U9 (Yq (Wi (name:=X8 "__next__") hT VY
  (Wc VY hT F.entry_dict_itemiterator_next ?_ (F.args_dict_itemiterator_next_1 _))))
 refine U9 (UK ?_)
 refine U9 ?_
 refine U9 ?_
 refine U9 (WC hT (UK ?_))
 refine U9 (wpAny_fieldsOf hit rfl ?_)
 have hown:XI "dict_itemiterator" =true:=by decide
 simp only [hown,if_true]
 show UZ _ _ (if (VD d == Vq)=true then _ else _) _ _ s
 rw [if_neg (show ¬ ((VD d == Vq)=true) from UY)]
 refine U9 (UK ?_)
 refine U9 (YD hod hdd ?_)
 rw [if_neg (by simp)]
 refine U9 (UK ?_)
 refine U9 (wpAny_dictEpoch hod hdd ?_)
 rw [if_neg (by simp)]
 refine UK ?_
 simp only [show ¬ ((i:Int) < 0) from by omega,if_false,Int.toNat_natCast,hx]
 refine U9 ?_
 refine U9 (WC hT (UK ?_))
 show UZ _ _ (setField (.ref it) 2 .none >>= _) _ _ s
 refine U9 (X3 hit rfl (by simp) ?_)
 show UZ _ _ (newExc (.type "StopIteration") [] >>= _) _ _ _
 refine U9 ?_
 simp only [newExc,newTuple]
 refine U9 (VI ?_ (by size_fits))
 refine U9 (m:=Zl _ _) (Xn (a:=Vq) (by first | rfl | (simp only [Zl];rfl)) ?_)
 refine VI ?_ (by size_fits)
 simp only [raiseNew]
 refine U9 (wpAny_handled ?_)
 rw [show A.in1.handled=UA from hh]
 refine U9 (UK (wpAny_throw ?_))
 refine U9 (Yf (T:="StopIteration") (b:=true) ⟨_,US _ rfl,rfl⟩ isSubtype_stop ?_)
 exact UK (hQ _ (((Wq.update ..).extBut.push _).push _))
end
theorem p5:entryFor table "dict_itemiterator.__iter__" =U7 Vo.«dict_keyiterator.__iter__»:=
 entryFor_alias (id':="dict_keyiterator.__iter__") (by kernel_rfl) rfl (by decide +kernel) (by kernel_rfl)
theorem B0{prog:Vn}{w:Vz}{A:VG}{E:UB->UG->Prop}{s:UG}{d it:UL}{n ep i:Nat}{ok ov:UB}{Q:UB->UG->Prop}(st:Xa s.heap it d i n ep ok ov)(h:Q (.ref it) s):UZ (Vh prog w) A (pyIter (.ref it)) Q E s:=by
 have hT:s.TypeIs (.ref it) "dict_itemiterator":=⟨_,st,rfl⟩
 refine wpAny_pyIter_slot hT F.slot_dict_itemiterator_iter (Wc F.slot_dict_itemiterator_iter hT p5 ?_ (F.args_dict_itemiterator_iter_1 _))
 show UZ _ _ (ret (.ref it)) _ _ s
 exact UK ⟨_,rfl,"dict_itemiterator",_,hT,VY.lookup,h⟩
noncomputable def ItM(a:UL)(n ep:Nat):It:=
 ⟨λi H=>∃ kvs,Rd H a (.dT kvs ep)/\kvs.length=n/\i < n,λi H x H'=>∃ p b k v kvs,Rd H a (.dT kvs ep)/\kvs[i]? =U7 (k,v)/\x= .ref p/\H p=UA/\Rd H b (.tup (k.map kV))/\H'=upd H p (.tup [.ref b,v]),
  λi H=>∃ kvs,Rd H a (.dT kvs ep)/\kvs.length=n/\n<=i⟩
theorem F1{P:Vn}{w:Vz}{H:Hp}{h:V1}{a:UL}{kvs:List (List Key×V)}{ep:Nat}(ok:HOk P w H h)(e:Rd H a (.dT kvs ep)):
  (a == Xr)=false/\∃ o es,h.get? a=U7 o/\o.ExactDict/\o.data= .dict es ep/\es.size=kvs.length/\∀ (i:Nat) (k:List Key) (v:V),kvs[i]? =U7 (k,v)->∃ (en:DictEntry) (b:UL),es[i]? =U7 en/\en.key= .ref b/\Rd H b (.tup (k.map kV))/\RelV v en.val:=by
 obtain ⟨z,y,xs,r,o,es,h1,h2,h3,h4,h5⟩:=(show ObjOk P w H h a (.dT kvs ep) from JJ ok e)
 have hl:es.size=kvs.length:=by
  have a1:=congrArg Xj h4
  simp only [Yk,V8] at a1
  rw [a1,Paired.length r]
 refine ⟨y,o,es,h1,h2,h3,hl,λi k v hi=>?_⟩
 have get:∀ {l:List (List Key×V)} {m:List (List Key×UL×UB)},L2.KT H l m->∀ (i:Nat) (k:List Key) (v:V),l[i]? =U7 (k,v)->∃ q,m[i]? =U7 q/\k=q.1/\Rd H q.2.1 (.tup (k.map kV))/\RelV v q.2.2:=by
  intro l m q
  induction q with
  | nil=>intro i k v hi;simp at hi
  | @cons p q ps qs hq t ih=>
   intro i k v hi
   cases i with
   | zero=>
    have e:p=(k,v):=by simpa using hi
    subst e
    exact ⟨q,rfl,hq⟩
   | succ i=>exact ih i k v (by simpa using hi)
 obtain ⟨q,hq,e1,e2,e3⟩:=get r i k v hi
 refine ⟨entryOfKey (Yy (vd P w)) q,q.2.1,?_,rfl,e2,e3⟩
 rw [<- Wf,h4,Vu,hq]
 rfl
theorem IY{P:Vn}{w:Vz}{K:UF}{elts:List Vw}{x1}{tpos:Xz}(a it:UL)(n ep:Nat):Turn P w K (.Tuple elts x1 tpos) (ItM a n ep) [it] it (λi h=>∃ ok ov,Xa h it a i n ep ok ov) where
 mem:=by simp
 obj:=λi h ⟨ok,ov,st⟩ b hb=>by
  have e:b=it:=by simpa using hb
  subst e
  exact ⟨_,st,λv z=>by
   have z':Data.fields _=Data.cell v:=z
   cases z'⟩
 keep:=λi h h' ⟨ok,ov,st⟩ k=>⟨ok,ov,k it (by simp) _ st⟩
 item:=by
  intro X hP hw hK hc i pins s σ H E I hf ⟨ok,ov,st⟩ hg
  subst hP hw hK
  obtain ⟨kvs,hq,hl,hi⟩:=hg
  obtain ⟨hs,o,es,h1,h2,h3,h4,h5⟩:=F1 I.hok hq
  obtain ⟨kv,hkv⟩:∃ kv,kvs[i]? =U7 kv:=⟨kvs[i]'(by omega),by simp⟩
  obtain ⟨k,v⟩:=kv
  obtain ⟨en,b,e1,e2,e3,e4⟩:=h5 i k v hkv
  obtain ⟨f0,f1,f2,f3,f4,f5⟩:=hf it (by simp)
  have st':Xa s.heap it a i es.size ep ok ov:=by rw [h4,hl];exact st
  refine Ie st' h1 h3 e1 λh1' heo ht1 hz1 hk1=>⟨_,rfl,?_⟩
  refine wpAny_letOwnedTupleGo_items heo λh2' he2 hs2=>?_
  replace hs2:Wq it h1' h2':=hs2
  have hel:it < s.heap.objs.size:=UT st
  have nP:H s.heap.objs.size=UA:=I.hok.fresh (UI _)
  have keep2:∀ b o,b≠it->s.heap.get? b=U7 o->h2'.get? b=U7 o:=λb o n1 q=>(hs2.2 b n1).trans (hk1 b o n1 q)
  have hp2:h2'.get? s.heap.objs.size=U7 {cls:=.type "tuple",data:=.seq #[en.key,en.val]}:=(hs2.2 _ (Wr hel)).trans ht1
  have nm:∀ b,b∉[it]->b≠it:=λb hb z=>hb (by simp [z])
  have tr:∀ b o,H b=U7 o->b≠it:=λb o q z=>by rw [z,f0] at q;cases q
  have hok2:HOk X.prog X.w (upd H s.heap.objs.size (.tup [.ref b,v])) h2':=λc ob q=>by
   by_cases z:c=s.heap.objs.size
   ·subst z
    rw [z9] at q
    cases q
    exact ⟨⟨by show 2<=Vc;decide,tv hp2 rfl⟩,[en.key,en.val],.cons e2 (.cons e4 .nil),_,hp2,rfl,_,rfl⟩
   ·rw [z0 z] at q
    refine (I.hok c ob q).stay (λc' v hcc r=>?_) (λc r=>by rw [z0 (qv r nP)];exact r) λc ys r=>by rw [z0 (qv r nP)];exact r
    rcases hcc with hcc | hcc
    ·rw [hcc] at r ⊢
     exact keep2 c v (tr c _ q) r
    ·exact keep2 c' v (tr c' _ hcc) r
  have I2:Inv X pins σ (upd H s.heap.objs.size (.tup [.ref b,v])) {s with heap:=h2'}:=by
   refine I.step (ch:=[it]) (λb hb=>?_) (λb o _ _ hb q _=>keep2 b o (nm b hb) q) (λb o _ _ hb q _=>⟨o.slots,keep2 b o (nm b hb) q⟩) (λb o hb q n=>?_) (λb o hb q=>⟨o,keep2 b o (nm b hb) q⟩)
    (λb ys q=>by rw [z0 (qv q nP)];exact q) (λb o y q=>by rw [z0 (qv q nP)];exact q) (λb ps q=>⟨#[],by rw [z0 (qv q nP),q];simp⟩) (λm hm=>?_) hok2 I.bare
   ·have z:b=it:=by simpa using hb
    subst z
    exact ⟨f3,f1,f4,f5⟩
   ·rw [z0 (Vt (UT q))];exact n
   ·obtain ⟨o,es,ep,ho,r⟩:=hm
    exact ⟨o,es,ep,keep2 _ o (Wv f1) ho,r⟩
  refine ⟨.ref s.heap.objs.size,_,I2,rfl,⟨_,b,k,v,kvs,hq,hkv,rfl,nP,e3,rfl⟩,⟨en.key,en.val,?_⟩,λb hb=>?_⟩
  ·have z:Xa h2' it a (i+1) n ep en.key en.val:=by rw [<- hl,<- h4];exact he2
   exact z
  ·have z:b=it:=by simpa using hb
   subst z
   rw [z0 (Vt hel)];exact f0
 done:=by
  intro X hP hw hK hc i pins s σ H E I hf ⟨ok,ov,st⟩ hg
  subst hP hw hK
  obtain ⟨kvs,hq,hl,hi⟩:=hg
  obtain ⟨hs,o,es,h1,h2,h3,h4,h5⟩:=F1 I.hok hq
  obtain ⟨g0,g1,g2,g3,g4,g5⟩:=hf it (by simp)
  have st':Xa s.heap it a i es.size ep ok ov:=by rw [h4,hl];exact st
  exact LF (I.ok.hd hc) st' h1 h3 (by simp;omega) λh' eb=>⟨rfl,I.turned (t':=s.toks) (λb o hb q=>eb b o hb q) g0 g1 g3 g4 g5⟩
 self:=λ_ _ _ _ _ ⟨_,_,st⟩ h=>B0 st h
section
variable{X:Cx}{XO:XOT}{e:Vw}{f:FE}{pos p tpos apos cpos:Xz}{elts:List Vw}{k1:Nat}
noncomputable def Uw(tl:TE):TI:=λσ H R=>tl σ H λx H1=>∃ a kvs ep,x= .ref a/\Rd H1 a (.dT kvs ep)/\R (ItM a kvs.length ep) H1
theorem GL{l:Vw}{tl:TE}(hl:PE X l tl)(hbase:Wd l "items" X.env (VN l X.env)=VN l X.env)
  (hline:(apos.endLine == cpos.line)=true):PI X (.Tuple elts k1 tpos) (.Call (.Attribute l "items" apos) [] [] cpos) (Uw tl):=by
 intro pins s σ H R I h
 refine wpAny_Call_method0_late hbase hline (thn (hl pins s σ H _ I h) λu s1 ⟨x,H1,I1,rx,a,kvs,ep,ex,hd,q1⟩=>?_)
 subst ex
 obtain rfl:u=VD a:=rx
 obtain ⟨t1,t2,t3⟩:=Ny I1 (.inr ⟨kvs,ep,hd⟩)
 refine ⟨"dict","dict.items",PySem.F.plainAttrs_dict,PySem.F.slot_dict_items,PySem.F.type_dict_items,t1,t2,WQ rfl (PySem.evalArgs_none ?_)⟩
 refine call_meetsIn PySem.F.slot_dict_items t1 PySem.F.entry_dict_items (PySem.F.args_dict_items_1 _) (Hh t3) ⟨t1,?_⟩
 have I2:Inv X pins σ H1 {s1 with heap:=s1.heap.push {cls:=.type "dict_items",data:=.fields #[.ref a]}}:=I1.kept (t':=s1.toks) λb o q=>UH _ q
 obtain ⟨_,o,es,h1,h2,h3,h4,_⟩:=F1 I2.hok hd
 refine Ji (d:=a) ⟨_,US _ rfl,rfl,rfl⟩ h1 h3 ?_
 generalize hs2:({s1 with heap:=s1.heap.push {cls:=.type "dict_items",data:=.fields #[.ref a]}}:UG)=s2 at I2 h1
 have hs:=UI s2.heap.objs.size
 refine ⟨s2.heap.objs.size,[s2.heap.objs.size],_,ItM a kvs.length ep,H1,rfl,I2.kept (t':=s2.toks) λb o q=>UH _ q,IY a _ _ _,⟨.none,.none,?_⟩,λb hb=>?_,q1⟩
 ·rw [h4]
  exact US _ rfl
 ·have z:b=s2.heap.objs.size:=by simpa using hb
  subst z
  exact I2.fpOk hs (I2.hok.fresh hs)
theorem D1{P:PP}{H:Hp}:∀ (k:List Int),Reps P H (k.map .int) (((k.map Wp:List Key)).map kV)
 | []=>rfl
 | i::k=>⟨.int i,_,rfl,rfl,D1 k⟩
theorem i7{Z:Hp}{p:UL}{ts:List Ent}{ep:Nat}(hl:Rd Z p (.dT (ts.map dEnt) ep)):i4 Z (ItM p (ts.map dEnt).length ep) (ts.map v9):=λH2 s i=>by
 have hq:Rd H2 p (.dT (ts.map dEnt) ep):=Rd.same s hl
 refine ⟨λd hd=>?_,λhi=>⟨_,hq,rfl,by rw [hi];simp⟩⟩
 rw [Vu] at hd
 cases hx:ts[i]? with
 | none=>rw [hx] at hd;cases hd
 | some x=>
  rw [hx] at hd
  cases hd
  have hlt:i < ts.length:=(UV.mp hx).1
  refine ⟨⟨_,hq,rfl,by simpa using hlt⟩,λy H3 yl=>?_⟩
  obtain ⟨q,b,k,v,kvs,hq',hkv,rfl,hn,hb,rfl⟩:=yl
  have e:kvs=ts.map dEnt:=by
   rcases hq with h1 | ⟨o,h1⟩<;>rcases hq' with h2 | ⟨o',h2⟩<;>(rw [h1] at h2;cases h2;try rfl)
  subst e
  rw [Vu,hx] at hkv
  cases hkv
  have sm:=qc hn (.tup [.ref b,.int x.2])
  exact ⟨sm,q,_,rfl,.inl z9,.ref b,_,rfl,⟨b,_,rfl,Rd.same sm hb,D1 _⟩,.int x.2,_,rfl,rfl,rfl⟩
theorem B9{P:PP}{H:Hp}{d:U8}{v:V}{ts:List Ent}(r:Rep P H d v)(e:Bf d=U7 ts):∃ a ep,v= .ref a/\Rl P H a (.dT (ts.map dEnt) ep):=by
 cases d with
 | dict kvs=>
  rcases r with ⟨a,rfl,_⟩ | ⟨a,ts',ep,rfl,rfl,h⟩ | ⟨c,ds,es,a,w,p,q,vs,us,rfl,_⟩
  ·cases e
  rotate_left
  ·cases c<;>cases e
  ·have:=rk ts'
   rw [show Bf (.dict (ts'.map HE))=Cs (ts'.map HE) from rfl] at e
   rw [show (ts'.map HE)=ts'.map λx=>(Zd (x.1.map .int),Wm x.2) from rfl,this] at e
   cases e
   exact ⟨a,ep,rfl,h⟩
 | none=>cases e
 | bool _=>cases e
 | int _=>cases e
 | str _=>cases e
 | tuple _=>cases e
 | list _=>cases e
theorem Os(h:PE X e (tF XO f))(hbase:Wd e "items" X.env (VN e X.env)=VN e X.env:=by rfl)
  (hline:(apos.endLine == cpos.line)=true:=by rfl):PI X (.Tuple elts k1 tpos) (.Call (.Attribute e "items" apos) [] [] cpos) (tI XO (ti f)):=
 PI.imp (GL h hbase hline) λσ H R ⟨H₀,Hs,ρ,r,g,e,k,kx⟩=>by
  unfold ti at e
  split at e
  ·rename_i l d hf
   rw [WR] at e
   obtain ⟨ts,hts,rfl⟩:=e
   refine ⟨H₀,Hs,ρ,_,g,hf,⟨λl' d' v H1 e' s1 r1=>?_,λc H' e=>(nomatch e)⟩⟩
   cases e'
   obtain ⟨a,ep,rfl,rl⟩:=B9 r1 hts
   exact ⟨a,_,ep,rfl,rl.rd,k l _ _ H1 rfl s1 λZ hT hL=>i7 (hL a _ rl)⟩
  ·rename_i c hf
   cases e
   exact ⟨H₀,Hs,ρ,_,g,hf,⟨λl' d' v H1 e' s1 r1=>(nomatch e'),λc' H' e' s=>kx c' H' (by cases e';rfl) s⟩⟩
  ·cases e
theorem RU{x:Vk}{ds:List U8}{tg:Vw}(T:KTup X.K X.mg x (.tuple ds))(hg:Gl X x:=by rfl)(hd:(x == ("__debug__":Vk))=false:=by decide):PI X tg (.Name x p) (tI XO (iC ds)):=by
 obtain ⟨a,ds',vs,e,hm,hq,hrp⟩:=T.ex
 cases e
 refine PI.imp (Iv (Ox (v:=.ref a) hg hm rfl hd)) λσ H R ⟨H₀,Hs,ρ,r,g,e,k,kx⟩=>?_
 cases e
 refine ⟨a,rfl,⟨vs,hq H⟩,k 2 ds (Itt X.K a) H rfl (Same.refl _) λZ _ _ H2 s i=>?_⟩
 have r:=hrp (λ_ _=>False) H2
 refine ⟨λd hd=>?_,λhi=>⟨vs,hq H2,by rw [r.length,hi];exact UI _⟩⟩
 obtain ⟨v,hv,rv⟩:=r.get hd
 refine ⟨⟨vs,v,hq H2,hv⟩,λx H3 y=>?_⟩
 obtain ⟨e,y⟩:=y
 subst e
 have:=y vs (hq _)
 rw [hv] at this
 cases this
 exact ⟨Same.refl _,rv⟩
end
section
variable{X:Cx}{XO:XOF}{cv:Cfg}{st:VW}{body:List VW}{b:FS}{pos p tpos apos cpos:Xz}{tf:FT}{elts:List Vw}{k1:Nat}
theorem R5(i:Nat){x:Vk}{xp:Xz}(hp:Yz (Vh X.prog X.w) X.A X.env X.xe)(hc:X.calm=true)(ht:Tg X cv (.Tuple elts k1 tpos) tf)(hb:PSs X body (tS cv XO b))(hN:X.N[i]? =U7 x:=by rfl)
  (hv:Vis X.env.scope x:=by first | exact VE rfl | exact Vr (VE rfl) | exact Vr (Vr rfl)) (hd:(x == ("__debug__":Vk))=false:=by decide) (hcd:(x == ("__classdict__":Vk))=false:=by decide)
  (hbase:Wd (.Name x xp) "items" X.env (VN (.Name x xp) X.env)=VN (.Name x xp) X.env:=by rfl)
  (hline:(apos.endLine == cpos.line)=true:=by rfl)
  (hs:∀ y,Xh (.Call (.Attribute (.Name x xp) "items" apos) [] [] cpos) X.env y=pure y:=by intro _;rfl):PS X (.For (.Tuple elts k1 tpos) (.Call (.Attribute (.Name x xp) "items" apos) [] [] cpos) body [] pos) (tS cv XO (HW i tf b)):=by
 obtain ⟨gt,hg',hd'⟩:=ht.ex
 refine PS.imp (Js hp hc (GL (yk (i:=i) hN hv hd hcd) hbase hline) hg' hb hs) λD σ H ⟨H₀,F,ρ,r,g,e,k⟩=>?_
 obtain ⟨O,o⟩:=g.ex
 obtain ⟨gf,hF⟩:=g.freeze o
 unfold HW at e
 split at e
 ·rename_i d hρ
  rw [Option.bind_eq_some_iff] at e
  obtain ⟨ts,hts,e⟩:=e
  obtain ⟨v,hσ,rr⟩:=o.sl i _ hρ
  obtain ⟨a,ep,rfl,rl⟩:=B9 rr hts
  refine ⟨.ref a,hσ,a,_,ep,rfl,rl.rd,u6 gf (i7 ?_) hd' e (k.thaw g.s0 hF)⟩
  rcases rl with ⟨q,hx⟩ | ⟨q,u,hx⟩
  ·exact .inl (by rw [wx q];exact hx)
  ·exact .inr ⟨u,by rw [wx q];exact hx⟩
 ·rename_i d hρ
  rw [Option.bind_eq_some_iff] at e
  obtain ⟨ts,hts,e⟩:=e
  obtain ⟨v,hσ,rr⟩:=o.sl i _ hρ
  obtain ⟨a,ep,rfl,rl⟩:=B9 rr hts
  refine ⟨.ref a,hσ,a,_,ep,rfl,rl.rd,u6 gf (i7 ?_) hd' e (k.thaw g.s0 hF)⟩
  rcases rl with ⟨q,hx⟩ | ⟨q,u,hx⟩
  ·exact .inl (by rw [wx q.2.1];exact hx)
  ·exact .inr ⟨u,by rw [wx q.2.1];exact hx⟩
 ·cases e
theorem RZ(j i:Nat){x y:Vk}{xp yp:Xz}(hN:X.N.Nodup)(hj:X.N[j]? =U7 x:=by rfl)(hx:Loc X.env.scope x:=by first | exact VE rfl | exact Vr rfl)(hi:X.N[i]? =U7 y:=by rfl)
  (hv:Vis X.env.scope y:=by first | exact VE rfl | exact Vr (VE rfl) | exact Vr (Vr rfl)) (hd:(y == ("__debug__":Vk))=false:=by decide) (hcd:(y == ("__classdict__":Vk))=false:=by decide)
  (hs:W7 (.Name y yp) (U7 (.Name x xp)) pos.line X.env=pure false:=by rfl) (hf:X.fn x=true∨X.env.scope.names.lookup x=U7 .local:=by first | exact .inl rfl | exact .inr rfl | assumption)
  (hin:X0 j cv.n=true:=by rfl):PS X (.Assign [.Name x xp] (.Name y yp) pos) (tS cv XO (Hw j i)):=by
 intro pins s σ H D I ⟨H₀,F,ρ,r,g,e',k⟩
 refine sk hN hj hx (yk (i:=i) hi hv hd hcd) hs hf pins s σ H D I ?_
 unfold Hw at e'
 split at e'
 ·rename_i d hρ
  cases e'
  obtain ⟨O,o⟩:=g.ex
  obtain ⟨v,hσ,rr⟩:=o.sl i _ hρ
  refine ⟨v,hσ,k _ _ (g.put hin λO' o'=>?_)⟩
  obtain ⟨v',hσ',rr'⟩:=o'.sl i _ hρ
  rw [hσ] at hσ'
  cases hσ'
  exact ⟨v,rfl,rr'⟩
 ·cases e'
end
theorem EU{k k':List Int}(h:(k.map Wp:List Key)=k'.map Wp):k=k':=by
 induction k generalizing k' with
 | nil=>cases k' with
  | nil=>rfl
  | cons a b=>cases h
 | cons i k ih=>cases k' with
  | nil=>cases h
  | cons j k'=>
   simp only [UR,List.cons.injEq,Wp.injEq] at h
   rw [h.1,ih h.2]
theorem Ma(ts:List Ent)(k:List Int):CB (ts.map dEnt) (k.map Wp)=(xa ts k).map V.int:=by
 induction ts with
 | nil=>rfl
 | cons x ts ih=>
  by_cases e:x.1=k
  ·rw [UR,Aw (show (dEnt x).1=k.map Wp by subst e;rfl)]
   simp [xa,W2,e,dEnt]
  ·rw [UR,An (λz=>e (EU z)),ih]
   simp [xa,W2,e]
theorem FV(ts:List Ent)(k:List Int)(n:Int):ki (ts.map dEnt) (k.map Wp) (.int n)=(u3 ts k n).map dEnt:=by
 have hany:((ts.map dEnt).any λkv=>decide (kv.1=k.map Wp))=ts.any λx=>decide (x.1=k):=by
  rw [List.any_map]
  congr 1
  funext x
  exact decide_eq_decide.mpr ⟨λz=>EU z,λz=>by subst z;rfl⟩
 unfold ki u3
 rw [hany]
 by_cases h:(ts.any λx=>decide (x.1=k))=true
 ·rw [if_pos h,if_pos h,XD,XD]
  apply VL
  intro x _
  by_cases e:x.1=k
  ·simp [dEnt,e]
  ·simp only [Function.comp,if_neg e]
   rw [if_neg (show ¬ (dEnt x).1=k.map Wp from λz=>e (EU z))]
 ·rw [if_neg h,if_neg h,XJ]
  rfl
theorem Dg(ts:List Ent)(k:List Int)(n:Int):(u3 ts k n).length<=ts.length+1:=by
 unfold u3
 split<;>simp
theorem Q8{X:Cx}{pins:List (UL×WK)}{σ:L2.St}{H:Hp}{s:UG}{a b:UL}{ts:List Ent}{ep:Nat}{k:List Int}{n:Int}{u:UB}{A:VG}{E:UB->UG->Prop}{Q:Unit->UG->Prop}(hu:(Yy (vd X.prog X.w)).room A)
  (I:Inv X pins σ H s) (e:H a=U7 (.dT (ts.map dEnt) ep)) (eb:Rd H b (.tup ((k.map Wp:List Key).map kV))) (ru:RelV (.int n) u) (hl:ts.length < Vc)
  (h:∀ ep' s',Inv X pins σ (upd H a (.dT ((u3 ts k n).map dEnt) ep')) s'->(∀ c o,c≠a->s.heap.get? c=U7 o->s'.heap.get? c=U7 o)->Q () s'):UZ (Vh X.prog X.w) A (dictSet a (.ref b) u) Q E s:=by
 obtain ⟨z,hd,xs,rel,dd⟩:=Ql I.hok e
 have hz:xs.length<=Vc:=by rw [<- Paired.length rel];exact z
 refine wpAny_dictSet_heap (hsz:=hz) hu (EV I.hok eb) dd λh' dd' hs=>?_
 obtain ⟨q,es,ep',hq,h2,h3,h4,_,h5⟩:=dd'
 refine h ep' _ (Kp I (by rw [e];exact XY) hs ⟨q,hq⟩ ⟨?_,hd,_,?_,q,es,hq,h2,h3,h4,h5⟩) λc o hc q=>(hs.2 c hc).trans q
 ·rw [V8]
  have:=Dg ts k n
  omega
 ·rw [<- FV]
  refine (rel.put (k.map Wp) eb ru).keeps λc ys ec=>?_
  rcases ec with ec | ⟨o,ec⟩
  ·exact .inl (by rw [z0 (Kg ec e (λz=>nomatch z))];exact ec)
  ·exact .inr ⟨o,by rw [z0 (Kg ec e (λz=>nomatch z))];exact ec⟩
theorem RM{X:Cx}{pins:List (UL×WK)}{σ:L2.St}{H:Hp}{s:UG}{a b:UL}{ts:List Ent}{ep:Nat}{k:List Int}{n:Int}{u:UB}{A:VG}{E:UB->UG->Prop}{Q:Unit->UG->Prop}(hu:A.units+1 < Yh)
  (I:Inv X pins σ H s) (e:H a=U7 (.dT (ts.map dEnt) ep)) (eb:Rd H b (.tup ((k.map Wp:List Key).map kV))) (ru:RelV (.int n) u) (hl:ts.length < Vc)
  (h:∀ ep' s',Inv X pins σ (upd H a (.dT ((u3 ts k n).map dEnt) ep')) s'->Q () s'):UZ (Vh X.prog X.w) A (setItem (.ref a) (.ref b) u) Q E s:=by
 obtain ⟨z,hd,xs,rel,dd⟩:=Ql I.hok e
 have hz:xs.length<=Vc:=by rw [<- Paired.length rel];exact z
 refine wpAny_setItem_heap (hsz:=hz) (tupleKind_room_in1 hu) (EV I.hok eb) dd λh' dd' hs=>?_
 obtain ⟨q,es,ep',hq,h2,h3,h4,_,h5⟩:=dd'
 refine h ep' _ (Kp I (by rw [e];exact XY) hs ⟨q,hq⟩ ⟨?_,hd,_,?_,q,es,hq,h2,h3,h4,h5⟩)
 ·rw [V8]
  have:=Dg ts k n
  omega
 ·rw [<- FV]
  refine (rel.put (k.map Wp) eb ru).keeps λc ys ec=>?_
  rcases ec with ec | ⟨o,ec⟩
  ·exact .inl (by rw [z0 (Kg ec e (λz=>nomatch z))];exact ec)
  ·exact .inr ⟨o,by rw [z0 (Kg ec e (λz=>nomatch z))];exact ec⟩
theorem M9{XO:XOT}{f:FE}{σ:L2.St}{H:Hp}{Q Q':VK}(h:tF XO f σ H Q)(i:∀ v H,Q v H->Q' v H):tF XO f σ H Q':=
 let ⟨H₀,Hs,ρ,r,g,e,k⟩:=h
 ⟨H₀,Hs,ρ,r,g,e,λl d v H' e s rp=>i _ _ (k.1 l d v H' e s rp),k.2⟩
theorem BP{i j:Nat}{σ:L2.St}{H:Hp}{Q Q':VK}(h:Fb (Dv i) (Dv j) (λσ H Q=>Q (.int 0) H) σ H Q)(w:∀ v H,Q v H->Q' v H):Fb (Dv i) (Dv j) (λσ H Q=>Q (.int 0) H) σ H Q':=by
 obtain ⟨v,h1,a,rfl,hd,u,h2,o,hg,q⟩:=h
 exact ⟨_,h1,a,rfl,hd,u,h2,o,hg,w _ _ q⟩
theorem Aq{P:PP}{H:Hp}:∀ {k:List Int} {vs:List V},Reps P H (k.map .int) vs->vs=(k.map Wp:List Key).map kV
 | [],_,h=>h
 | i::k,_,⟨v,r,e,h,t⟩=>by
  subst e
  rw [Aq t,show v=V.int i from h]
  rfl
section
variable{prog:Vn}{w:Vz}{A:VG}{E:UB->UG->Prop}{s:UG}
theorem Lx{a:UL}{xs:Array UB}{k:Nat}{o:WK}{Q:Option UB->UG->Prop}(hx:s.heap.get? a=U7 o)(hc:o.cls= .type "list")(hd:o.dict=UA)(hdat:o.data= .seq xs k)(hA:A.handled=UA)
  (h:∀ h' tk,(∀ b o,s.heap.get? b=U7 o->h'.get? b=U7 o)->Q UA {s with heap:=h',toks:=tk}):UZ (Vh prog w) A (getAttr? (.ref a) "keys") Q E s:=by
 obtain ⟨c,dct,dat,sl⟩:=o
 simp only at hc hdat hd
 subst hc hdat hd
 obtain ⟨hp,g,d,tk,os⟩:=s
 have hT:∀ tk',(⟨hp,g,d,tk',os⟩:UG).TypeIs (.ref a) "list":=λ_=>⟨_,hx,rfl⟩
 have f1:=sub_AttributeError
 have f3:=Ys.lookup
 have f4:=Ys.bind (.ref a)
 have f5:=am_list_getattr_none
 have hm:Zj (.type "list") "keys" =pure UA:=am_miss_of_fast (by decide +kernel)
 unfold getAttr? getAttrBy? getAttrBy
 repeat (any_goals (first | assumption | exact hT _ | ((with_reducible show UZ _ _ (call (UB.builtin "list.__getattribute__") _ _) _ _ _);refine W9 Ys (hT _) am_entry_list_getattribute (F.args_list_getattribute_2 _ _) (meets_getattribute_miss_list a xs k sl "keys" _ hm (by decide +kernel)) ⟨hx,hA,λh' tk' e hx'=>?_⟩) | wp_step))
 obtain ⟨t',u',he⟩:=hx'.there
 show UZ _ _ (getattributeRaised _ _ _ _ _ _ _) _ _ _
 unfold getattributeRaised
 repeat (any_goals (first | assumption | wp_step))
 exact h _ _ hx'.keeps
theorem cu:entryFor table "dict.update.loop" =U7 Vo.«dict.update.loop»:=YL (by kernel_rfl)
theorem kz:plainId "dict.update.loop" =true:=by decide +kernel
theorem Cn:mroOf (.type "dict")=pure [.type "dict",.type "object"]:=by rw [mroOf_type];kernel_rfl
theorem By:Zj (.type "dict") "__new__" =pure (U7 (.builtin "dict.__new__")):=by rw [W3,VR];kernel_rfl
theorem FN:TypeCalled "dict" "dict.__new__" "dict.__init__":=
 ⟨by decide +kernel,by decide +kernel,⟨_,_,Cn⟩,madeBy_type Cn By (by decide +kernel),by decide +kernel,by rw [WJ];kernel_rfl,F.slot_dict_init⟩
theorem Bu(a:UB):checkTypeCall "dict" ⟨[a],[]⟩=pure ():=by kernel_rfl
theorem C7(a:UB):checkBuiltinCall "dict.__new__" ⟨[.type "dict",a],[]⟩=pure ():=by kernel_rfl
theorem BN:entryFor table "dict.__new__" =U7 Vo.«dict.__new__»:=YL (by kernel_rfl)
theorem n6:plainId "dict.__new__" =true:=by decide +kernel
theorem Dy:isSubtype (.type "dict") (.type "dict")=pure true:=by rw [WJ];kernel_rfl
theorem Du(a:UB){Q₁:UB->UG->Prop}(h:Q₁ (.ref s.heap.objs.size) {s with heap:=s.heap.push {cls:=.type "dict",data:=.dict #[]}}):
  Yu (Vh prog w) A (.call (.builtin "dict.__new__") ⟨[.type "dict",a],[]⟩) (wants Q₁ E) s:=by
 refine codeAny_of_tree ?_
 show UZ _ A.in1 (do checkBuiltinCall "dict.__new__" ⟨[.type "dict",a],[]⟩;again (.builtin "dict.__new__" ⟨[.type "dict",a],[]⟩)) _ _ s
 refine U9 (Xn (C7 a) (UK ⟨Yr n6 _,Yx BN ?_⟩))
 rw [YU n6 _]
 have hsub:=Dy
 have hmro:=Cn
 obtain ⟨hp,g,d,tk,os⟩:=s
 unfold Vo.«dict.__new__»
 repeat (any_goals (first | assumption | wp_step))
end
section
variable{X:Cx}{pins:List (UL×WK)}{σ:L2.St}{A:VG}
theorem ON{H:Hp}{a:UL}{o o':HO}:upd (upd H a o) a o'=upd H a o':=by
 funext b
 by_cases z:b=a
 ·subst z;rw [z9,z9]
 ·rw [z0 z,z0 z,z0 z]
theorem HV(hu:(Yy (vd X.prog X.w)).room A.in1){R:Result->UG->Prop}(D it l:UL)(vs:List V)(hA:A.handled=UA)(Hz:Hp)(hD:Hz D=UA)(hln:Rd Hz l (.lst vs)):∀ (us:List Ent) (i:Nat) (acc:List Ent) (ep:Nat) (s:UG),
  Inv X pins σ (upd Hz D (.dT (acc.map dEnt) ep)) s->s.heap.IsListIter it l i->E6 X pins (upd Hz D (.dT (acc.map dEnt) ep)) it->Reps (λ_ _=>False) Hz (us.map v9) (vs.drop i)->acc.length+us.length<=big->
  (∀ ep' s',Inv X pins σ (upd Hz D (.dT ((us.foldl (λacc x=>u3 acc x.1 x.2) acc).map dEnt) ep')) s'->R (.ok (.ret .none)) s')->
  Yu (Vh X.prog X.w) A (.builtin "dict.update.loop" ⟨[.ref D,.ref it,XR i,.none],[]⟩) R s:=by
 intro us
 have up:∀ {c:UL} {u:HO},Rd Hz c u->∀ o,Rd (upd Hz D o) c u:=λ{c u} q o=>by
  rcases q with q | ⟨oo,q⟩
  ·exact .inl (by rw [z0 (λz=>by rw [z,hD] at q;cases q)];exact q)
  ·exact .inr ⟨oo,by rw [z0 (λz=>by rw [z,hD] at q;cases q)];exact q⟩
 induction us with
 | nil=>
  intro i acc ep s I st fp rs hl h
  refine Yx cu ?_
  rw [YU kz _]
  obtain ⟨its,rv,p,hz⟩:=I.list (.inl (up hln _))
  have hnil:vs.drop i=[]:=rs
  have hlen:=rv.length
  have hi:vs.length<=i:=List.drop_eq_nil_iff.mp hnil
  obtain ⟨f0,f1,f2,f3,f4,f5⟩:=fp
  unfold Vo.«dict.update.loop»
  refine U9 (wpAny_pyNext_list_end (A:=A.in1) hA st p.isList (by simp;omega) λh' eb=>?_)
  have I1:=I.turned (t':=s.toks) (λb o hb e=>eb b o hb e) f0 f1 f3 f4 f5
  unfold Vo.Dict.addKeywords
  refine U9 (m:=pure _) (UK (UK ?_))
  exact h ep _ I1
 | cons x us ih=>
  intro i acc ep s I st fp rs hl h
  obtain ⟨v,r,ev,rx,rs⟩:=rs
  obtain ⟨p,ws,rfl,hp,rp⟩:=rx
  obtain ⟨kv,wr,rfl,hk,rp⟩:=rp
  obtain ⟨nv,wr',rfl,hn,rp⟩:=rp
  have rp:wr'=[]:=rp
  subst rp
  obtain ⟨b,bs,rfl,hb,rb⟩:=hk
  have ebs:=Aq rb
  subst ebs
  cases (show nv= .int x.2 from hn)
  have hvi:vs[i]? =U7 (.ref p):=by
   have:=congrArg (λl=>l[0]?) ev
   simpa using this
  have hdrop:vs.drop (i+1)=r:=by
   have:=congrArg List.tail ev
   simpa [List.tail_drop] using this
  refine Yx cu ?_
  rw [YU kz _]
  obtain ⟨its,rv,pl,hz⟩:=I.list (.inl (up hln _))
  obtain ⟨u,hu',ru⟩:=rv.get hvi
  cases ru
  obtain ⟨f0,f1,f2,f3,f4,f5⟩:=id fp
  unfold Vo.«dict.update.loop»
  refine U9 (wpAny_pyNext_list_item st pl.isList (x:=.ref p) (by simpa using hu') λh' st' sb=>?_)
  have I1:Inv X pins σ (upd Hz D (.dT (acc.map dEnt) ep)) {s with heap:=h'}:=I.turned (t':=s.toks) (λb o hb e=>(sb.2 b hb).trans e) f0 f1 f3 f4 f5
  obtain ⟨its2,rv2,⟨o2,ho2,hc2,n2,hd2⟩,_⟩:=I1.tuple (.inl (up hp _))
  cases rv2 with
  | cons q1 q2=>
  cases q2 with
  | cons q2 q3=>
  cases q3
  cases q1
  refine U9 (WE ?_)
  refine U9 (wpAny_tryCatch ?_)
  unfold Vo.Dict.pairItems
  refine U9 (X9 (T:="tuple") ⟨o2,ho2,hc2⟩ ?_)
  rw [if_pos (by decide)]
  refine U9 (wpAny_seqItems ho2 hd2 (UK ?_))
  refine WE (Q8 (k:=x.1) (n:=x.2) hu I1 z9 (up hb _) q2 (by
   have:big < Vc:=by decide
   simp only [UM] at hl
   omega) λep' s' I2 keep=>?_)
  rw [ON] at I2
  refine UK ⟨Yr kz _,?_⟩
  have st2:s'.heap.IsListIter it l (i+1):=st'.at λo q=>keep it o (λz=>by rw [z,z9] at f0;cases f0) q
  have e1:XR ((i:Int)+1)=XR ((i+1:Nat):Int):=by congr 1
  refine ih (i+1) (u3 acc x.1 x.2) ep' s' I2 st2 ⟨?_,f1,f2,f3,f4,f5⟩ (by rw [hdrop];exact rs) ?_ h
  ·by_cases z:it=D
   ·rw [z,z9] at f0;cases f0
   ·rw [z0 z] at f0 ⊢;exact f0
  ·have:=Dg acc x.1 x.2
   simp only [UM] at hl
   omega
end
section
variable{X:Cx}{XO:XOT}{a:Vw}{fa fb:FE}{pos p apos cpos:Xz}
noncomputable def rDict:List V->Hp->VK->Prop:=λxs H Q=>∃ l vs ts,xs=[.ref l]/\Rd H l (.lst vs)/\Reps (λ_ _=>False) H (ts.map v9) vs/\ts.length<=big/\∀ D ep,H D=UA->Q (.ref D) (upd H D (.dT ((dictOf ts).map dEnt) ep))
theorem KW(hu:X.A.units+64 < Yh)(hc:X.calm=true):CallR X (.type "dict") rDict:=by
 intro pins s σ H xs us Q I r h
 obtain ⟨l,vs,ts,rfl,hl,rs,hb,q⟩:=h
 obtain ⟨u,rfl,ru⟩:=Av r
 cases ru
 have hh:=I.ok.hd hc
 refine callType_codes (Q₁:=λobj s₁=>obj= .ref s.heap.objs.size/\s₁= {s with heap:=s.heap.push {cls:=.type "dict",data:=.dict #[]}}) FN (Bu _) F.entry_dict_init (Du _ ⟨rfl,rfl⟩) λobj s₁ h₁=>?_
 obtain ⟨rfl,rfl⟩:=h₁
 have nD:H s.heap.objs.size=UA:=I.hok.fresh (UI _)
 have I1:Inv X pins σ (upd H s.heap.objs.size (.dT [] 0)) {s with heap:=s.heap.push {cls:=.type "dict",data:=.dict #[]}}:=I.laid (a:=s.heap.objs.size) (o:=.dT [] 0) (t':=s.toks) (λ_ _ q=>UH _ q) (UI _) (GU s.heap I.big)
 generalize hD:s.heap.objs.size=D at nD I1
 have gD:(s.heap.push {cls:=.type "dict",data:=.dict #[]}).get? D=U7 {cls:=.type "dict",data:=.dict #[]}:=by rw [<- hD];exact US _ rfl
 generalize hs1:({s with heap:=s.heap.push {cls:=.type "dict",data:=.dict #[]}}:UG)=s1 at I1
 have gD1:s1.heap.get? D=U7 {cls:=.type "dict",data:=.dict #[]}:=by rw [<- hs1];exact gD
 have hT:s1.TypeIs (.ref D) "dict":=⟨_,gD1,rfl⟩
 refine ⟨hT,F.args_dict_init_2 _ _,?_⟩
 have hl1:Rd (upd H D (.dT [] 0)) l (.lst vs):=by
  rcases hl with q | ⟨oo,q⟩
  ·exact .inl (by rw [z0 (λz=>by rw [z,nD] at q;cases q)];exact q)
  ·exact .inr ⟨oo,by rw [z0 (λz=>by rw [z,nD] at q;cases q)];exact q⟩
 obtain ⟨its,rv,pl,hz⟩:=I1.list (.inl hl1)
 obtain ⟨o,n,ho,hcl,hd0,hd⟩:=id pl
 unfold Vo.«dict.__init__» Vo.Dict.selfAndRest
 refine U9 (U9 (wpAny_notOrdered_dict hT ?_))
 refine U9 (m:=Vo.Dict.addrOf _) (UK (UK ?_))
 unfold Vo.Dict.updateCommon
 show UZ _ _ (Vo.Dict.updateFrom "dict.__init__" D (.ref l) [] .none) _ _ _
 unfold Vo.Dict.updateFrom
 refine U9 (X9 (T:="list") ⟨o,ho,hcl⟩ ?_)
 rw [if_pos (by decide)]
 refine U9 (Lx (A:=X.A.in1.in1) ho hcl hd0 hd hh λh' tk keep=>?_)
 rw [if_pos (show (UA:Option UB).isNone=true from rfl)]
 have I2:Inv X pins σ (upd H D (.dT [] 0)) {s1 with heap:=h',toks:=tk}:=I1.kept (t':=tk) keep
 obtain ⟨its2,rv2,pl2,hz2⟩:=I2.list (.inl hl1)
 refine U9 (wpAny_rule ?_)
 refine U9 (wpAny_pyIter_list pl2.isList ?_)
 refine UK ⟨Yr kz _,?_⟩
 have I3:=I2.kept (t':=tk) (h':=h'.push {cls:=.type "list_iterator",data:=.fields #[.ref l,.int 0 0]}) λb o q=>UH _ q
 refine HV (A:=X.A.in1) ?_ D h'.objs.size l vs hh H nD hl ts 0 [] 0 _ I3 ⟨_,US _ rfl,rfl,rfl⟩ (I2.fpOk (UI _) (I2.hok.fresh (UI _))) (by simpa using rs) (by simpa using hb) λep' s' I'=>?_
 ·exact tupleKind_room_in1 (A:=X.A.in1) (show X.A.units+1+1 < Yh by omega)
 ·exact ⟨rfl,.ref D,_,I',rfl,q D ep' nD⟩
theorem Ly:Wu "dict" =U7 (.type "dict"):=by decide +kernel
theorem Rm(C:BC X)(hc:X.calm=true)(hm:X.mg "dict" =UA)(ha:PE X a (tF XO fa))(hg:Gl X "dict":=by rfl)(he:UJ [a] X.env=(false,VN a X.env)::UJ [] X.env:=by exact qe rfl)(hpl:(VC pos (UJ [] X.env)).any (·.1)=false:=by exact wj rfl):PE X (.Call (.Name "dict" p) [a] [] pos) (tF XO (JZ fa)):=
 B6 (KW C.hu hc) (λH₀ Hs H l x d v Q s0 s1 e rx q=>by
  unfold JF at e
  split at e
  ·split at e
   ·rename_i ds hb
    rw [WR] at e
    obtain ⟨ts,hts,rfl⟩:=e
    have:=BI hts
    subst this
    obtain ⟨p,vs,rfl,hp,rs⟩:=rx
    have hlf:lfs (ts.map v9)=true:=N8 λx hx=>by
     obtain ⟨t,_,rfl⟩:=WG.mp hx
     simp [v9,lf,lfs,AG]
    refine ⟨p,vs,ts,rfl,hp.rd,rs.nl hlf,by simpa using hb,λD ep hD=>q _ _ (qc hD _) (.inr (.inl ⟨D,dictOf ts,ep,rfl,rfl,.inl ⟨⟨rfl,s1.free hD⟩,z9⟩⟩))⟩
   ·cases e
  ·cases e) hm Ly ha hg (by decide) (by decide) he hpl
theorem PB{prog:Vn}{w:Vz}{A:VG}{E:UB->UG->Prop}{s:UG}{d:UL}{o:WK}{es:Array DictEntry}{ep:Nat}{Q:UB->UG->Prop}(hd:(d == Xr)=false)(ho:s.heap.get? d=U7 o)(hc:o.ExactDict)(hdat:o.data= .dict es ep)(hfit:(es.size:Int) < 2 ^ 63)
  (h:Q (.int es.size (s.toks+1)) {s with toks:=s.toks+1+1}):UZ (Vh prog w) A (call (.builtin "len") [.ref d]) Q E s:=by
 have ty:s.TypeIs (.ref d) "dict":=⟨o,ho,hc.1⟩
 have meets:MeetsIn prog w (Vo.«dict.__len__» ⟨[.ref d],[]⟩) (λ_ R s=>∃ o es ep,s.heap.get? d=U7 o/\o.data= .dict es ep/\R (.ok (.ret (.int es.size s.toks))) {s with toks:=s.toks+1}):=
  .of_wp λA R s ⟨o,es,ep,ho,hdat,h⟩=>by
   show UZ _ _ (dictSize d >>= _) _ _ s
   unfold dictSize
   refine U9 (U9 (YD ho hdat (UK ?_)))
   show UZ _ _ (Vo.Dict.pendingCount d >>= _) _ _ s
   refine U9 (wpAny_pendingCount_other hd ?_)
   refine wpAny_ret_mkInt ?_
   rw [Nat.add_zero];exact h
 refine Calls.call_function_entry kind_len plain_len entry_len (args_len1 _) ?_
 unfold Vo.«len»
 refine U9 (m:=oneArg "len" _) (UK ?_)
 refine U9 (m:=callSpecial? (.ref d) (X8 "__len__")) (Wi (name:=X8 "__len__") ty PySem.F.slot_dict_len
  (call_meetsIn PySem.F.slot_dict_len ty PySem.F.entry_dict_len (PySem.F.args_dict_len_1 _) meets ⟨o,es,ep,ho,hdat,?_⟩))
 show UZ _ _ _ _ _ {s with toks:=s.toks+1}
 refine U9 (WE (UK ?_))
 refine U9 (wpAny_letGo ?_)
 show UZ _ _ (if ((es.size:Nat):Int) < 0 then _ else _) _ _ _
 rw [if_neg (by omega)]
 show UZ _ _ (if ((es.size:Nat):Int)≥2 ^ 63 then _ else _) _ _ _
 rw [if_neg (by omega)]
 exact U9 (wpAny_mkInt (UK ⟨_,rfl,h⟩))
noncomputable def rLenD:List V->Hp->VK->Prop:=λxs H Q=>∃ a kvs ep,xs=[V.ref a]/\Rd H a (.dT kvs ep)/\Q (.int kvs.length) H
theorem Lp:CallR X (.builtin "len") rLenD:=by
 intro pins s σ H xs us Q I r h
 obtain ⟨a,kvs,ep,rfl,hd,q⟩:=h
 obtain ⟨u,rfl,ru⟩:=Av r
 cases ru
 have hz:(Vc:Nat) < 2 ^ 63:=by decide
 have z:=(JV I.hok hd).1
 obtain ⟨hs,o,es,h1,h2,h3,h4,_⟩:=F1 I.hok hd
 refine PB hs h1 h2 h3 (by rw [h4];omega) ?_
 rw [h4]
 exact ⟨.int kvs.length,H,I.tok _,⟨_,rfl⟩,q⟩
theorem QO(C:BC X)(ha:PE X a (tF XO fa))(hg:Gl X "len":=by rfl)(he:UJ [a] X.env=(false,VN a X.env)::UJ [] X.env:=by exact qe rfl)(hpl:(VC pos (UJ [] X.env)).any (·.1)=false:=by exact wj rfl):PE X (.Call (.Name "len" p) [a] [] pos) (tF XO (Ko fa)):=
 EH Lp (λH₀ Hs H l x d v Q s0 s1 e rx q=>by
  unfold Kw at e
  rw [WR] at e
  obtain ⟨ts,hts,rfl⟩:=e
  obtain ⟨a,ep,rfl,rl⟩:=B9 rx hts
  exact ⟨a,_,ep,rfl,rl.rd,q _ H (Same.refl H) (by rw [V8];rfl)⟩) C.mlen PySem.boot_len ha hg (by decide) (by decide) he hpl
theorem Jv{X:Cx}{pins:List (UL×WK)}{σ:L2.St}{H:Hp}{s:UG}{a:UL}{ns:List Int}{i:Int}{u:UB}{Q:VK}(I:Inv X pins σ H s)(ha:Rd H a (.tup (ns.map .int)))(ru:RelV (.int i) u)(q:Q (.int (ns.countP λn=>decide (n=i):Nat)) H):
  UZ (Vh X.prog X.w) X.A (call (.builtin "tuple.count") [.ref a,u]) (EP X pins σ Q) X.xe s:=by
 obtain ⟨t,rfl⟩:=ru
 obtain ⟨its,rv,⟨⟨c,dd,dt,sl⟩,ho,hc,n,hd⟩,_⟩:=I.tuple (.inl ha)
 simp only at hc hd
 subst hc hd
 have cnts:∀ (ns:List Int) (its:List UB),Vals (ns.map V.int) its->(∀ y∈its,∃ j t,y=UB.int j t)/\its.countP (λy=>match y with
   | .int j _=>j == i
   | _=>false)=ns.countP λn=>decide (n=i):=by
  intro ns
  induction ns with
  | nil=>intro its r;cases r;exact ⟨λy hy=>(nomatch hy),rfl⟩
  | cons m ns ih=>
   intro its r
   cases r with
   | cons r1 r2=>
    obtain ⟨t,rfl⟩:=r1
    obtain ⟨h1,h2⟩:=ih _ r2
    refine ⟨λy hy=>?_,?_⟩
    ·rcases Vl.mp hy with rfl | hy
     ·exact ⟨m,t,rfl⟩
     ·exact h1 y hy
    ·rw [List.countP_cons,List.countP_cons,h2]
     simp only [beq_iff_eq,decide_eq_true_eq]
 obtain ⟨h1,h2⟩:=cnts ns its rv
 refine W9 F.slot_tuple_count ⟨_,ho,rfl⟩ F.entry_tuple_count (F.args_tuple_count_2 _ _) (PySem.SeqAt.tuple_countAt a its.toArray n dd sl (.int i t) (λy=>match y with
  | .int j _=>j == i
  | _=>false)) ⟨ho,λy hy=>?_,?_⟩
 ·obtain ⟨j,t',rfl⟩:=h1 y (by simpa using hy)
  exact PySem.SeqAt.EqAt.int_int j t' i t
 ·refine ⟨.int (ns.countP λn=>decide (n=i):Nat),H,I.tok _,⟨s.toks,?_⟩,q⟩
  rw [List.toList_toArray,h2]
theorem OM(C:BC X){b:Vw}(ha:PE X a (tF XO fa))(hb:PE X b (tF XO fb))(hbase:Wd a "count" X.env (VN a X.env)=VN a X.env:=by rfl)
  (hfew:((VC cpos (UJ [b] X.env)).all (λx=>!x.1) && (YS cpos (X7 [] X.env)).all (λx=>x.1.isSome)
    && decide ([b].length+([]:List Xl).length+(if ([]:List Xl).isEmpty then 0 else 1) < 30))=true:=by rfl)
  (hline:(apos.endLine == cpos.line)=true:=by rfl) (hs:VC cpos (UJ [b] X.env)=[(false,VN b X.env)]:=by rfl):
  PE X (.Call (.Attribute a "count" apos) [b] [] cpos) (tF XO (ro fa fb)):=by
 intro pins s σ H Q I ⟨H₀,Hs,ρ,rr,g,e,kk⟩
 have q:tF XO fa σ H λx H1=>∃ (p:UL) (ns:List Int),x= .ref p/\Rd H1 p (.tup (ns.map .int))/\tF XO fb σ H1 λy H2=>∃ i:Int,y= .int i/\Rd H2 p (.tup (ns.map .int))/\Q (.int (ns.countP λn=>decide (n=i):Nat)) H2:=by
  refine wy g e kk λl x v H1 s1 g1 r1 e1 k1=>?_
  split at e1
  ·rename_i xs
   split at e1
   ·rename_i ns hns
    have:=cq hns
    subst this
    obtain ⟨p,vs,rfl,hp,rs⟩:=r1
    have ev:vs=ns.map V.int:=by
     rw [Aq rs,XD]
     rfl
    subst ev
    refine ⟨p,ns,rfl,hp,wy g1 e1 k1 λm y u H2 s2 g2 r2 e2 k2=>?_⟩
    split at e2
    ·rename_i i
     exact ⟨i,r2,Rd.same s2 hp,k2.give e2 (Same.refl _) rfl⟩
    ·cases e2
   ·cases e1
  ·cases e1
 refine wpAny_Call_method_late hbase hfew hline hs (thn (ha pins s σ H _ I q) λv s1 ⟨x,H1,I1,r1,p,ns,ex,hp,q1⟩=>?_)
 subst ex
 obtain rfl:v=VD p:=r1
 obtain ⟨⟨_,nd⟩,its,rv,o,ho,hc,n,hd⟩:=(show ObjOk X.prog X.w H1 s1.heap p (.tup (ns.map .int)) from hp.ok I1.hok)
 refine ⟨"tuple","tuple.count",PySem.F.plainAttrs_tuple,PySem.F.slot_tuple_count,PySem.F.type_tuple_count,⟨o,ho,hc⟩,λb e=>by cases e;exact ⟨o,ho,nd o ho⟩,?_⟩
 refine WQ rfl (YT (WX (thn (hb pins s1 σ H1 _ I1 q1) λiv s2 ⟨y,H2,I2,ry,i,ey,hp2,q2⟩=>Xi ?_)))
 subst ey
 exact Jv I2 hp2 ry q2
end
section
variable{X:Cx}{XO:XOF}{cv:Cfg}{pos:Xz}{H₀ F H:Hp}{ρ:Rho}{σ:L2.St}{f:FE}
theorem SR.newOwn{i:Nat}{t:Slot}{p:UL}{o1:OwV}(g:SR cv H₀ F ρ σ H)(hi':X0 i cv.n=true)(hp:H p=UA)(ht:∀ O:Own,O p=U7 i->SS cv H₀ O (U7 (U7 (.ref p))) i (upd H p o1.ho) t):
  SR cv H₀ F (ρ.set i (U7 t)) (σ.set i (U7 (.ref p))) (upd H p o1.ho):=by
 obtain ⟨O,o⟩:=g.ex
 have hi:i < σ.length:=by rw [g.ln];exact XA.mp hi'
 have hρ:i < ρ.length:=by rw [g.len];exact XA.mp hi'
 have sm:Same H (upd H p o1.ho):=qc hp _
 have hO:∀ a,H a≠UA->(if a=p then U7 i else O a)=O a:=λa n=>by
  rw [if_neg]
  intro z;subst z;exact n hp
 refine ⟨g.s0,g.s1.trans sm,by simp [g.len],by simp [g.ln],λa=>if a=p then U7 i else O a,λa j q=>?_,λa j q=>?_,λj t' e=>?_⟩
 ·by_cases z:a=p
  ·subst z;exact g.s1.free hp
  ·rw [if_neg z] at q;exact o.fr a j q
 ·by_cases z:a=p
  ·subst z;exact ⟨o1,z9⟩
  ·rw [if_neg z] at q;obtain ⟨vs,q'⟩:=o.ls a j q;exact ⟨vs,sm _ _ q'⟩
 ·by_cases hij:i=j
  ·subst hij
   rw [jg _ _ _ _ hρ,if_pos rfl] at e
   cases e
   rw [jg _ _ _ _ hi,if_pos rfl]
   exact ht _ (if_pos rfl)
  ·rw [jg _ _ _ _ hρ,if_neg hij] at e
   rw [jg _ _ _ _ hi,if_neg hij]
   have q:=o.sl j t' e
   have old:∀ {P P':PP},(∀ z a,H a≠UA->P z a->P' z a)->∀ a (u:HO),Rl P H a u->Rl P' (upd H p o1.ho) a u:=λ{P P'} hP a u r=>by
    rcases r with ⟨p,e⟩ | ⟨p,u,e⟩
    ·exact .inl ⟨hP _ _ (bc e) p,sm _ _ e⟩
    ·exact .inr ⟨hP _ _ (bc e) p,u,sm _ _ e⟩
   cases t' with
   | par d=>obtain ⟨w,e,r⟩:=q;exact ⟨w,e,Rep.mono (λa vs e=>Rd.same sm e) (old λz a n p=>(hO a n).trans p) d w r⟩
   | loc d=>obtain ⟨w,e,r⟩:=q;exact ⟨w,e,Rep.mono (λa vs e=>Rd.same sm e) (old λz a n p=>⟨p.1,(hO a n).trans p.2.1,p.2.2⟩) d w r⟩
   | own ds=>
    obtain ⟨p,vs,e,q,h,rs⟩:=q
    exact ⟨p,vs,e,(hO p (bc h)).trans q,sm _ _ h,rs.same sm⟩
   | own2 ds=>
    obtain ⟨p,vs,e,q,h,rs⟩:=q
    exact ⟨p,vs,e,(hO p (bc h)).trans q,sm _ _ h,Reps.mono (λa vs e=>Rd.same sm e) (old λz a n p=>⟨p.1,(hO a n).trans p.2.1,p.2.2⟩) ds vs rs⟩
   | lent ds=>obtain ⟨ws,e1,hq,hqp,rs⟩:=q;exact ⟨ws,e1,(hO _ (bc hqp)).trans hq,sm _ _ hqp,rs.same sm⟩
   | dct ks=>
    obtain ⟨a,e,q,h⟩:=q
    obtain ⟨_,hw⟩:=h.ow
    exact ⟨a,e,(hO a (bc hw)).trans q,h.same sm⟩
   | duo c ds es=>exact DuoS.mv (λa vs e=>Rd.same sm e) (λb u x y=>⟨(hO b (bc y)).trans x,sm _ _ y⟩) q
   | ex c=>obtain ⟨a,e,x⟩:=q;exact ⟨a,e,x.same sm⟩
theorem NW(i:Nat){x:Vk}{pos' dpos:Xz}(hN:X.N.Nodup)(hi:X.N[i]? =U7 x:=by rfl)(hx:Loc X.env.scope x:=by first | exact VE rfl | exact Vr rfl)
  (hs:W7 (.Dict [] [] dpos) (U7 (.Name x pos')) pos.line X.env=pure false:=by rfl) (hf:X.fn x=true∨X.env.scope.names.lookup x=U7 .local:=by first | exact .inl rfl | exact .inr rfl | assumption)
  (hin:X0 i cv.n=true:=by rfl):PS X (.Assign [.Name x pos'] (.Dict [] [] dpos) pos) (tS cv XO (BW i)):=by
 intro pins s σ H D I ⟨H₀,F,ρ,r,g,e',k⟩
 refine sk hN hi hx LV hs hf pins s σ H D I ?_
 cases e'
 exact λp hp=>k _ _ (g.newOwn (o1:=.t [] 0) hin hp λO hO=>⟨p,rfl,hO,0,z9⟩)
theorem RK{X:Cx}{pins:List (UL×WK)}{σ:L2.St}{H:Hp}{a b:UL}{ts:List Ent}{ep:Nat}{k:List Int}(e:H a=U7 (.dT (ts.map dEnt) ep))(eb:Rd H b (.tup ((k.map Wp:List Key).map kV))):QF H a (.ref b) ((xa ts k).map V.int):=
 .inr ⟨_,ep,k.map Wp,b,.inl e,rfl,eb,(Ma ts k).symm⟩
theorem Jh(neg:Bool)(i j:Nat){op:Operator}{x y:Vk}{xp xp2 yp yp2 pos' gp cp bp zp:Xz}{z:Nat}{e:Vw}(C:BC X)(hop:op=if neg then .Sub else .Add)(h:PE X e (tF ⟨cv.cv,XO⟩ f))(hN:X.N[i]? =U7 x:=by rfl)(hv:Vis X.env.scope x:=by first | exact VE rfl | exact Vr (VE rfl) | exact Vr (Vr rfl))
  (hd:(x == ("__debug__":Vk))=false:=by decide) (hcd:(x == ("__classdict__":Vk))=false:=by decide)
  (hN2:X.N[j]? =U7 y:=by rfl) (hv2:Vis X.env.scope y:=by first | exact VE rfl | exact Vr (VE rfl) | exact Vr (Vr rfl)) (hd2:(y == ("__debug__":Vk))=false:=by decide) (hcd2:(y == ("__classdict__":Vk))=false:=by decide)
  (m:M2 X (.Name x xp) "get" gp (.Name y yp) (.Constant (.int 0) z zp) cp:=by exact ⟨rfl,rfl,rfl,rfl⟩)
  (hs:W7 (.BinOp (.Call (.Attribute (.Name x xp) "get" gp) [.Name y yp,.Constant (.int 0) z zp] [] cp) op e bp) (U7 (.Subscript (.Name x xp2) (.Name y yp2) pos')) pos.line X.env=pure false:=by rfl):
  PS X (.Assign [.Subscript (.Name x xp2) (.Name y yp2) pos'] (.BinOp (.Call (.Attribute (.Name x xp) "get" gp) [.Name y yp,.Constant (.int 0) z zp] [] cp) op e bp) pos) (tS cv XO (u9 neg i j f)):=by
 have hu:X.A.units+1 < Yh:=by have:=C.hu;omega
 have hget:=LX hu (yk (i:=i) hN hv hd hcd) (yk (i:=j) hN2 hv2 hd2 hcd2) (BO (X:=X) (i:=0) (j:=z) (pos:=zp)) m
 intro pins s σ H D I ⟨H₀,F,ρ,r,g,e',k⟩
 unfold u9 at e'
 split at e'
 case h_2=>cases e'
 rename_i ts hρ
 split at e'
 case h_2=>cases e'
 rename_i l xs hj
 split at e'
 case h_2=>cases e'
 rename_i kk hk
 have:=cq hk
 subst this
 obtain ⟨O,o⟩:=g.ex
 obtain ⟨p,hσ,hO,ep,hD⟩:=o.sl i _ hρ
 obtain ⟨b,hσj,hb⟩:∃ b,σ[j]? =U7 (U7 (.ref b))/\Rd H b (.tup ((kk.map Wp:List Key).map kV)):=by
  have gg:=g.g
  unfold za at hj
  have key:∀ {P:PP} {v:V},Rep P H (.tuple (kk.map .int)) v->∃ b,v= .ref b/\Rd H b (.tup ((kk.map Wp:List Key).map kV)):=λ{P v} r=>by
   obtain ⟨b,vs,rfl,hb,rs⟩:=r
   rw [Aq rs] at hb
   exact ⟨b,rfl,hb⟩
  split at hj
  ·rename_i d hρj
   cases hj
   obtain ⟨v,h1,h2⟩:=gg.vr j _ hρj
   obtain ⟨b,rfl,hb⟩:=key h2
   exact ⟨b,h1,hb⟩
  ·rename_i d hρj
   cases hj
   obtain ⟨v,h1,h2⟩:=gg.vr j _ hρj
   obtain ⟨b,rfl,hb⟩:=key h2
   exact ⟨b,h1,hb⟩
  ·cases hj
  ·cases hj
  ·cases hj
  ·cases hj
  ·injection hj with hj
   injection hj with _ hj
   injection hj with hj
   match kk,hj with
   | [_,_,_],hj=>exact absurd hj (by simp)
  ·cases hj
 have q:=kn (Q:=λv H1=>∃ n:Int,v= .int n/\Same H H1/\U7 r=U7 (RS.next (ρ.set i (U7 (.dct (u3 ts kk ((xa ts kk).getD 0+(if neg then -n else n)))))))/\ts.length < big) g e' k λl d v H1 s1 r1 e1=>by
  split at e1
  ·rename_i n
   split at e1
   ·rename_i hb
    exact ⟨n,r1,s1,e1.symm,hb⟩
   ·cases e1
  ·cases e1
 have hgt:Fb (Dv i) (Dv j) (λσ H Q=>Q (.int 0) H) σ H (λv H1=>v= .int ((xa ts kk).getD 0)/\H1=H):=by
  refine ⟨.ref p,hσ,p,rfl,.inr ⟨_,ep,.inl hD⟩,.ref b,hσj,_,RK (X:=X) (pins:=pins) (σ:=σ) hD hb,?_,rfl⟩
  cases xa ts kk<;>rfl
 refine wpAny_Assign_Subscript ?_ hs
 have hval:UZ (Vh X.prog X.w) X.A (VN (.BinOp (.Call (.Attribute (.Name x xp) "get" gp) [.Name y yp,.Constant (.int 0) z zp] [] cp) op e bp) X.env)
   (EP X pins σ λv H1=>∃ n:Int,v= .int ((xa ts kk).getD 0+(if neg then -n else n))/\Same H H1/\U7 r=U7 (RS.next (ρ.set i (U7 (.dct (u3 ts kk ((xa ts kk).getD 0+(if neg then -n else n)))))))/\ts.length < big) X.xe s:=by
  cases neg with
  | false=>
   subst hop
   refine Mx op_add hget h pins s σ H _ I ?_
   refine BP hgt λv H1 ⟨ev,eH⟩=>?_
   subst ev eH
   refine M9 q λv H1 ⟨n,ev,s1,e1,hb⟩=>?_
   subst ev
   exact ⟨_,_,rfl,rfl,n,rfl,s1,e1,hb⟩
  | true=>
   subst hop
   refine Mx RG hget h pins s σ H _ I ?_
   refine BP hgt λv H1 ⟨ev,eH⟩=>?_
   subst ev eH
   refine M9 q λv H1 ⟨n,ev,s1,e1,hb⟩=>?_
   subst ev
   refine ⟨_,_,rfl,rfl,n,?_,s1,e1,hb⟩
   show V.int _=V.int _
   congr 1
 refine thn hval λrv s1 ⟨v,H1,I1,rrv,n,ev,sm,er,hbig⟩=>?_
 subst ev
 cases er
 refine thn (yk (i:=i) hN hv hd hcd pins s1 σ H1 (λv H2=>v= .ref p/\H2=H1) I1 ⟨_,hσ,rfl,rfl⟩) λu s2 ⟨x,H2,I2,rx,ex,eH⟩=>?_
 subst ex eH
 obtain rfl:u=VD p:=rx
 refine thn (yk (i:=j) hN2 hv2 hd2 hcd2 pins s2 σ H2 (λv H3=>v= .ref b/\H3=H2) I2 ⟨_,hσj,rfl,rfl⟩) λu2 s3 ⟨x2,H3,I3,rx2,ex2,eH2⟩=>?_
 subst ex2 eH2
 obtain rfl:u2=VD b:=rx2
 have o1:SO cv H₀ F ρ σ H3 O:=⟨o.fr,λa i e=>let ⟨vs,q⟩:=o.ls a i e;⟨vs,sm _ _ q⟩,λi t e=>(o.sl i t e).same sm⟩
 refine RM (k:=kk) hu I3 (sm _ _ hD) (Rd.same sm hb) rrv (by
  have:big < Vc:=by decide
  omega) λep' s4 I4=>?_
 exact ⟨σ,_,I4,k _ _ ((g.same sm).changeG (o0:=.t _ ep) (o1:=.t _ ep') o1 (UV.mp hρ).1 hO (sm _ _ hD) ⟨p,hσ,hO,ep',z9⟩)⟩
end
theorem KK.up{XO:XOT}{H₀ Hs H2:Hp}{σ:L2.St}{H:Hp}{Q:VK}{r:RE}(s:Same Hs H2)(k:KK XO H₀ Hs σ H Q r):KK XO H₀ H2 σ H Q r:=
 ⟨λl d v H' e t rp=>k.1 l d v H' e t (rp.imp λz a p=>by
   match l,p with
   | 0,p=>exact p
   | 1,p=>exact p
   | l+2,p=>exact ⟨p.1,s.free p.2⟩),k.2⟩
section
variable{X:Cx}{XO:XOT}{a b c:Vw}{fa fb fc:FE}{pos:Xz}
theorem TC{x1}(ha:PE X a (tF XO fa))(hb:PE X b (tF XO fb))(hc:PE X c (tF XO fc))(h1:UJ [a,b,c] X.env=(false,VN a X.env)::UJ [b,c] X.env:=by exact qe rfl)(h2:UJ [b,c] X.env=(false,VN b X.env)::UJ [c] X.env:=by exact qe rfl)
  (h3:UJ [c] X.env=(false,VN c X.env)::UJ [] X.env:=by exact qe rfl):PE X (.Tuple [a,b,c] x1 pos) (tF XO (Mt fa fb fc)):=
 PE.imp (M6 (we ha (we hb (we hc xw h3) h2) h1)) λσ H Q ⟨H₀,Hs,ρ,r,g,e,kk⟩=>by
  refine wy g e kk λl0 x w H1 s1 g1 r1 e1 k1=>?_
  refine wy g1 e1 k1 λl y v H2 s2 g2 r2 e2 k2=>?_
  refine wy (Hs:=H2) ⟨g2.s0.trans g2.s1,Same.refl H2,g2.vr⟩ e2 (k2.up g2.s1) λm z u H3 s3 g3 r3 e3 _=>?_
  split at e3
  case h_2=>cases e3
  rename_i ds es
  split at e3
  case isFalse=>cases e3
  rename_i hc
  simp only [Ve,decide_eq_true_eq] at hc
  obtain ⟨⟨⟨⟨c1,c2⟩,c3⟩,c4⟩,c5⟩:=hc
  obtain ⟨p,vs,rfl,rl,rs⟩:=r2
  obtain ⟨q,us,rfl,rl',rs'⟩:=r3
  have y1:H2 p=U7 (.lst vs)/\Hs p=UA:=by
   match l,c4,rl with
   | l+2,_,.inl ⟨y,h⟩=>exact ⟨h,y.2⟩
   | l+2,_,.inr ⟨y,_⟩=>exact absurd y.1 (by simp)
  have y2:H3 q=U7 (.lst us)/\H2 q=UA:=by
   match m,c5,rl' with
   | l+2,_,.inl ⟨y,h⟩=>exact ⟨h,y.2⟩
   | l+2,_,.inr ⟨y,_⟩=>exact absurd y.1 (by simp)
  have hne:p≠q:=λz=>by subst z;rw [y2.2] at y1;exact absurd y1.1 (by simp)
  refine ⟨by show 3<=Vc;decide,λt ht=>?_⟩
  have sm:=qc ht (.tup [w,.ref p,.ref q])
  refine (k2.same s3).give e3 sm (.inr (.inr ⟨x,ds,es,t,w,p,q,vs,us,rfl,rfl,.inl z9,?_,hne,?_,?_,?_,?_⟩))
  ·exact Rep.rf _ _ c1 (r1.same ((s2.trans s3).trans sm))
  ·exact .inl ⟨⟨rfl,y1.2⟩,sm _ _ (s3 _ _ y1.1)⟩
  ·exact Reps.rf _ _ c2 (rs.same (s3.trans sm))
  ·exact .inl ⟨⟨rfl,g2.s1.free y2.2⟩,sm _ _ y2.1⟩
  ·exact Reps.rf _ _ c3 (rs'.same sm)
end
section
variable{X:Cx}{XO:XOF}{cv:Cfg}{e:Vw}{f:FE}{pos:Xz}{H₀ F H H1:Hp}{ρ:Rho}{σ:L2.St}
theorem SR.setU{i l:Nat}{d:U8}{v:V}{t:Slot}(g:SR cv H₀ F ρ σ H)(hi':X0 i cv.n=true)(s1:Same H H1)(r1:Rep (PL H₀ H l) H1 d v)(ha:Qc l d=U7 t):
  SR cv H₀ F (ρ.set i (U7 t)) (σ.set i (U7 v)) H1:=by
 unfold Qc at ha
 split at ha
 case h_2=>exact g.set hi' s1 r1 ha
 rename_i c ds es
 split at ha
 case isFalse=>cases ha
 rename_i h2
 cases ha
 rcases r1 with ⟨a,e,_⟩ | ⟨a,ts,ep,_,e,_⟩ | ⟨c',ds',es',a,w,p,q,vs,us,e,rfl,ht,rc,hne,rl,rs,rl',rs'⟩
 ·cases e
 ·match ts,e with
  | [],e=>cases e
  | x::ts,e=>injection e with e _;injection e with _ e;cases e
 injection e with e e'
 injection e with e1 e2
 injection e2 with e2
 injection e' with e' _
 injection e' with _ e'
 injection e' with e'
 subst e1 e2 e'
 have y1:H1 p=U7 (.lst vs)/\H p=UA:=by
  match l,h2,rl with
  | l+2,_,.inl ⟨y,h⟩=>exact ⟨h,y.2⟩
  | l+2,_,.inr ⟨y,_⟩=>exact absurd y.1 (by simp)
 have y2:H1 q=U7 (.lst us)/\H q=UA:=by
  match l,h2,rl' with
  | l+2,_,.inl ⟨y,h⟩=>exact ⟨h,y.2⟩
  | l+2,_,.inr ⟨y,_⟩=>exact absurd y.1 (by simp)
 obtain ⟨O,o⟩:=g.ex
 refine g.setN o hi' s1 (λb=>if b=p then U7 i else if b=q then U7 i else O b) (λb n=>?_) (λb j z=>?_) (λb j z=>?_) ⟨a,w,p,q,vs,us,rfl,ht,RF.rep _ _ rc,hne,if_pos rfl,?_,y1.1,y2.1,RFs.rep _ _ rs,RFs.rep _ _ rs'⟩
 ·show (if b=p then U7 i else if b=q then U7 i else O b)=O b
  rw [if_neg (λz=>by subst z;exact n y1.2),if_neg (λz=>by subst z;exact n y2.2)]
 ·by_cases z1:b=p
  ·subst z1;exact g.s1.free y1.2
  ·by_cases z2:b=q
   ·subst z2;exact g.s1.free y2.2
   ·rw [if_neg z1,if_neg z2] at z;exact o.fr b j z
 ·by_cases z1:b=p
  ·subst z1;exact ⟨.l vs,y1.1⟩
  ·by_cases z2:b=q
   ·subst z2;exact ⟨.l us,y2.1⟩
   ·rw [if_neg z1,if_neg z2] at z;obtain ⟨w,h⟩:=o.ls b j z;exact ⟨w,s1 _ _ h⟩
 ·show (if q=p then U7 i else if q=q then U7 i else O q)=U7 i
  rw [if_neg (λz=>hne z.symm),if_pos rfl]
theorem N3(i:Nat){x:Vk}{pos':Xz}(hN:X.N.Nodup)(h:PE X e (tF ⟨cv.cv,XO⟩ f))(hi:X.N[i]? =U7 x:=by rfl)(hx:Loc X.env.scope x:=by first | exact VE rfl | exact Vr rfl)
  (hs:W7 e (U7 (.Name x pos')) pos.line X.env=pure false:=by rfl) (hf:X.fn x=true∨X.env.scope.names.lookup x=U7 .local:=by first | exact .inl rfl | exact .inr rfl | assumption)
  (hin:X0 i cv.n=true:=by rfl):PS X (.Assign [.Name x pos'] e pos) (tS cv XO (nu i f)):=by
 intro pins s σ H D I ⟨H₀,F,ρ,r,g,e',k⟩
 refine sk hN hi hx h hs hf pins s σ H D I ?_
 refine kn g e' k λl d v H1 s1 r1 e1=>?_
 cases ha:Qc l d with
 | none=>rw [ha] at e1;cases e1
 | some t=>
  rw [ha] at e1
  cases e1
  exact k _ _ (g.setU hin s1 r1 ha)
theorem GY(fst:Bool)(i:Nat){x:Vk}{xp kp sp apos cpos:Xz}{c:Nat}{kj:Nat}(hcc:c=if fst then 1 else 2)(h:PE X e (tF ⟨cv.cv,XO⟩ f))(hN:X.N[i]? =U7 x:=by rfl)(hv:Vis X.env.scope x:=by first | exact VE rfl | exact Vr (VE rfl) | exact Vr (Vr rfl))
  (hd:(x == ("__debug__":Vk))=false:=by decide) (hcd:(x == ("__classdict__":Vk))=false:=by decide)
  (hix:BF (.Constant (.int c) kj kp):=by exact λ_ _=>rfl)
  (hbase:Wd (.Subscript (.Name x xp) (.Constant (.int c) kj kp) sp) "append" X.env (VN (.Subscript (.Name x xp) (.Constant (.int c) kj kp) sp) X.env)=VN (.Subscript (.Name x xp) (.Constant (.int c) kj kp) sp) X.env:=by rfl)
  (hfew:((VC cpos (UJ [e] X.env)).all (λx=>!x.1) && (YS cpos (X7 [] X.env)).all (λx=>x.1.isSome)
    && decide ([e].length+([]:List Xl).length+(if ([]:List Xl).isEmpty then 0 else 1) < 30))=true:=by rfl)
  (hline:(apos.endLine == cpos.line)=true:=by rfl) (hs1:UJ [e] X.env=(false,VN e X.env)::UJ [] X.env:=by rfl) (hplain:(VC cpos (UJ [] X.env)).any (·.1)=false:=by rfl)
  (hs:W7 (.Call (.Attribute (.Subscript (.Name x xp) (.Constant (.int c) kj kp) sp) "append" apos) [e] [] cpos) UA pos.line X.env=pure false:=by rfl):
  PS X (.Expr (.Call (.Attribute (.Subscript (.Name x xp) (.Constant (.int c) kj kp) sp) "append" apos) [e] [] cpos) pos) (tS cv XO (ux fst i f)):=by
 intro pins s σ H D I ⟨H₀,F,ρ,r,g,e',k⟩
 refine pe (Eg Wj Xv Xw pq (NG Jg (yk (i:=i) hN hv hd hcd) BO hix) (we h xw hs1) hbase hfew hline hs1 hplain) hs pins s σ H D I ?_
 unfold ux at e'
 split at e'
 case h_2=>cases e'
 rename_i cc ds es hρ
 obtain ⟨O,o⟩:=g.ex
 obtain ⟨a,w,p,q,vs,us,hσ,ht,rc,hne,o1,o2,h3,h4,r1,r2⟩:=o.sl i _ hρ
 have hρl:i < ρ.length:=(UV.mp hρ).1
 have hzz:∀ {m:Nat},m < big->m < Vc:=λz=>Vj z Cu
 cases fst with
 | true=>
  subst hcc
  refine ⟨.ref a,hσ,.inr (.inl ⟨a,_,1,.ref p,rfl,rfl,.inl ht,rfl,.inl ⟨rfl,vs,SqL.of h3⟩,?_⟩)⟩
  refine kn g e' k λl d v H1 s1 rd e1=>?_
  split at e1
  case isFalse=>cases e1
  rename_i hc
  simp only [Ve,decide_eq_true_eq] at hc
  cases e1
  refine ⟨p,vs,v,rfl,rfl,s1 _ _ h3,by rw [r1.length];exact hzz hc.1.2,?_⟩
  have g1:=g.same s1
  have o1':SO cv H₀ F ρ σ H1 O:=o.same s1
  have hT:∀ a xs,Rd H1 a (.tup xs)->Rd (upd H1 p (.lst (vs++[v]))) a (.tup xs):=λa xs e=>iu (o0:=.l vs) (s1 _ _ h3) e
  have hL:∀ a u,Rl (λ_ _=>False) H1 a u->Rl (λ_ _=>False) (upd H1 p (.lst (vs++[v]))) a u:=λ_ _ rl=>by rcases rl with ⟨x,_⟩ | ⟨x,_⟩<;>exact x.elim
  exact k _ _ (g1.changeG (o0:=.l vs) (o1:=.l (vs++[v])) o1' hρl o1 (s1 _ _ h3) ⟨a,w,p,q,vs++[v],us,hσ,hT _ _ (Rd.same s1 ht),Rep.mono hT hL _ _ (rc.same s1),hne,o1,o2,z9,(z0 (λz=>hne z.symm)).trans (s1 _ _ h4),Reps.mono hT hL _ _ ((r1.same s1).append (Reps.one (rd.nl hc.1.1))),Reps.mono hT hL _ _ (r2.same s1)⟩)
 | false=>
  subst hcc
  refine ⟨.ref a,hσ,.inr (.inl ⟨a,_,2,.ref q,rfl,rfl,.inl ht,rfl,.inl ⟨rfl,us,SqL.of h4⟩,?_⟩)⟩
  refine kn g e' k λl d v H1 s1 rd e1=>?_
  split at e1
  case isFalse=>cases e1
  rename_i hc
  simp only [Ve,decide_eq_true_eq] at hc
  cases e1
  refine ⟨q,us,v,rfl,rfl,s1 _ _ h4,by rw [r2.length];exact hzz hc.2,?_⟩
  have g1:=g.same s1
  have o1':SO cv H₀ F ρ σ H1 O:=o.same s1
  have hT:∀ a xs,Rd H1 a (.tup xs)->Rd (upd H1 q (.lst (us++[v]))) a (.tup xs):=λa xs e=>iu (o0:=.l us) (s1 _ _ h4) e
  have hL:∀ a u,Rl (λ_ _=>False) H1 a u->Rl (λ_ _=>False) (upd H1 q (.lst (us++[v]))) a u:=λ_ _ rl=>by rcases rl with ⟨x,_⟩ | ⟨x,_⟩<;>exact x.elim
  exact k _ _ (g1.changeG (o0:=.l us) (o1:=.l (us++[v])) o1' hρl o2 (s1 _ _ h4) ⟨a,w,p,q,vs,us++[v],hσ,hT _ _ (Rd.same s1 ht),Rep.mono hT hL _ _ (rc.same s1),hne,o1,o2,(z0 hne).trans (s1 _ _ h3),z9,Reps.mono hT hL _ _ (r1.same s1),Reps.mono hT hL _ _ ((r2.same s1).append (Reps.one (rd.nl hc.1.1)))⟩)
end
end KT
namespace KT
open PySem
noncomputable def g7(g_law_count:FC):FS:=(ze (sIf (eEq (jd (za 0)) (eC (.int 1))) (zq (G6 (eEq (eIx (za 0) (eC (.int 0))) (eC (.str "one"))))) zj) (ze (sIf (eEq (jd (za 0)) (eC (.int 2))) (zq (eIx (za 1) (eIx (za 0) (eC (.int 1))))) zj) (ze (sIf (eEq (eIx (za 0) (eC (.int 0))) (eC (.str "either"))) (zq (qh (zd g_law_count [(eIx (za 0) (eC (.int 1))),(za 1)]) (zd g_law_count [(eIx (za 0) (eC (.int 2))),(za 1)]))) zj) (zq (vj (zd g_law_count [(eIx (za 0) (eC (.int 1))),(za 1)]) (zd g_law_count [(eIx (za 0) (eC (.int 2))),(za 1)]))))))
noncomputable def Bo:FS:=(zq (km (eIs .int (za 0)) (f9 (eIs .bool (za 0)))))
noncomputable def vb(g_law_bundles:FC):FS:=(ze (sIf (eEq (jd (za 0)) (eC (.int 1))) (zq (vj (q9 [(zm [])]) (G6 (eEq (eIx (za 0) (eC (.int 0))) (eC (.str "one")))))) zj) (ze (sIf (eEq (jd (za 0)) (eC (.int 2))) (zq (q9 [(zm [(eIx (za 0) (eC (.int 1)))])])) zj) (ze (zl 1 (zd g_law_bundles [(eIx (za 0) (eC (.int 1)))])) (ze (zl 2 (zd g_law_bundles [(eIx (za 0) (eC (.int 2)))])) (ze (sIf (eEq (eIx (za 0) (eC (.int 0))) (eC (.str "either"))) (zq (vw (qh (za 1) (za 2)))) zj) (ze (zl 3 (q9 [])) (ze (yb 1 (zw 4) (yb 2 (zw 5) (yz 3 (fx (vw (qh (za 4) (za 5))))))) (zq (vw (za 3))))))))))
noncomputable def b8(g_law_put:FC):FS:=(ze (sIf (eEq (za 1) (zm [])) (zq (za 2)) zj) (ze (zl 3 (zd g_law_put [(eIx (za 0) (qh (eC (.int 1)) (eIx (za 1) (eC (.int 0))))),(eSl (za 1) (FM (eC (.int 1))) Kk),(za 2)])) (ze (sIf (eEq (eIx (za 1) (eC (.int 0))) (eC (.int 0))) (zq (zm [(eIx (za 0) (eC (.int 0))),(za 3),(eIx (za 0) (eC (.int 2)))])) zj) (zq (zm [(eIx (za 0) (eC (.int 0))),(eIx (za 0) (eC (.int 1))),(za 3)])))))
noncomputable def gu:FS:=(ze (sIf (eLt (jd (za 0)) (eC (.int 3))) (zq (eC .none)) zj) (ze (zl 2 (eIx (za 0) (eC (.int 1)))) (ze (zl 3 (eIx (za 0) (eC (.int 2)))) (ze (sIf (eEq (za 1) (eC (.str "swap"))) (zq (zm [(eIx (za 0) (eC (.int 0))),(za 3),(za 2)])) zj) (ze (sIf (km (eEq (za 1) (eC (.str "group"))) (eEq (eIx (za 2) (eC (.int 0))) (eIx (za 0) (eC (.int 0))))) (zq (zm [(eIx (za 0) (eC (.int 0))),(eIx (za 2) (eC (.int 1))),(zm [(eIx (za 0) (eC (.int 0))),(eIx (za 2) (eC (.int 2))),(za 3)])])) zj) (ze (sIf (km (eEq (za 1) (eC (.str "spread"))) (km (eEq (eIx (za 0) (eC (.int 0))) (eC (.str "both"))) (eEq (eIx (za 3) (eC (.int 0))) (eC (.str "either"))))) (zq (zm [(eC (.str "either")),(zm [(eC (.str "both")),(za 2),(eIx (za 3) (eC (.int 1)))]),(zm [(eC (.str "both")),(za 2),(eIx (za 3) (eC (.int 2)))])])) zj) (ze (sIf (km (eEq (za 1) (eC (.str "drop"))) (km (eEq (eIx (za 0) (eC (.int 0))) (eC (.str "both"))) (eEq (eIx (za 2) (eC (.int 0))) (eC (.str "none"))))) (zq (zm [(eC (.str "none"))])) zj) (ze (sIf (km (eEq (za 1) (eC (.str "drop"))) (eIn (zm [(eIx (za 0) (eC (.int 0))),(eIx (za 2) (eC (.int 0)))]) (zm [(zm [(eC (.str "both")),(eC (.str "one"))]),(zm [(eC (.str "either")),(eC (.str "none"))])]))) (zq (za 3)) zj) (zq (eC .none))))))))))
noncomputable def sh(g_law_put:FC)(g_law_here:FC):FS:=(ze (sIf (f9 (eIs .list (za 1))) (zq (eC .none)) zj) (ze (yb 1 (zw 2) (ze (sIf (eOr (f9 (eIs .tuple (za 2))) (eOr (eNe (jd (za 2)) (eC (.int 2))) (f9 (eIs .tuple (eIx (za 2) (eC (.int 1))))))) (zq (eC .none)) zj) (ze (zl 3 (za 0)) (ze (ye (xu (eIx (za 2) (eC (.int 1)))) (zw 4) (ze (sIf (eOr (mw (za 4) (zm [(eC (.int 0)),(eC (.int 1))])) (eLt (jd (za 3)) (eC (.int 3)))) (zq (eC .none)) zj) (zl 3 (eIx (za 3) (qh (eC (.int 1)) (za 4)))))) (ze (zl 5 (zd g_law_here [(za 3),(eIx (za 2) (eC (.int 0)))])) (ze (sIf (Gd (za 5) (eC .none)) (zq (eC .none)) zj) (zl 0 (zd g_law_put [(za 0),(eIx (za 2) (eC (.int 1))),(za 5)])))))))) (zq (za 0))))
noncomputable def cy:FS:=(zq (JZ (ue (ti (za 0)) [] tc2 (eNe (za 1) (eC (.int 0))) (zm [(za 0),(za 1)]))))
noncomputable def Be(g_without_noughts:FC):FS:=(ze (BW 3) (ze (HW 0 (wc 4 5) (ze (zl 6 (fx (ue (xu (za 4)) [1] tc1 (eNe (za 0) (za 1)) (za 0)))) (ze (zl 7 (za 5)) (ze (ye (iR1 (ro (za 4) (za 1))) (zw 8) (zl 7 (vj (za 7) (za 2)))) (u9 false 3 6 (za 7)))))) (zq (zd g_without_noughts [(za 3)]))))
noncomputable def A2(g_without_noughts:FC):FS:=(ze (BW 2) (ze (yb 0 (zw 3) (u9 false 2 3 (eC (.int 1)))) (ze (yb 1 (zw 3) (u9 true 2 3 (eC (.int 1)))) (zq (zd g_without_noughts [(za 2)])))))
noncomputable def md(g_with_size:FC)(g_difference:FC):FS:=(ze (zl 2 (zd g_difference [(za 0),(za 1)])) (ze (zl 3 (q9 [])) (ze (ye (iC [.int 0,.int 1,.int 2,.int 3]) (zw 4) (ze (zl 5 (eC (.int 0))) (ze (zl 6 (zd g_with_size [(za 2),(za 4),(za 5)])) (ze (dz (eEq (Ko (za 6)) (eC (.int 0))) (ze (zl 5 (qh (za 5) (eC (.int 1)))) (zl 6 (zd g_with_size [(za 2),(za 4),(za 5)])))) (ze (Hw 2 6) (yz 3 (za 5))))))) (zq (fx (za 3))))))
noncomputable def e7:FS:=(ze (sIf (eEq (jd (za 0)) (eC (.int 0))) (ze (je 3 (zm [(eC (.str "drop")),(za 2)])) (ku 3 (Bc (za 1)))) zj) (ze (sIf (eEq (jd (za 1)) (eC (.int 0))) (ze (je 3 (zm [(eC (.str "swap")),(za 2)])) (ze (je 3 (zm [(eC (.str "drop")),(za 2)])) (ku 3 (Bc (za 0))))) zj) (ze (zl 4 (q9 [])) (ze (zl 5 (Bc (za 0))) (ze (zl 6 (Bc (za 1))) (ze (zl 7 (za 2)) (ze (dz (eOr (eGt (jd (za 5)) (eC (.int 1))) (NL (eIx (za 6) (eC (.int 0))) (eIx (za 5) (eC (.int 0))))) (sIf (NL (eIx (za 6) (eC (.int 0))) (eIx (za 5) (eC (.int 0)))) (ze (je 3 (zm [(eC (.str "swap")),(za 7)])) (ze (A0 8 5) (ze (A0 5 6) (A0 6 8)))) (ze (je 3 (zm [(eC (.str "group")),(za 7)])) (ze (Au 4 5) (zl 7 (qh (za 7) (zm [(eC (.int 1))]))))))) (ku 3 (qh (qh (za 4) (za 5)) (za 6))))))))))
noncomputable def ez(g_merged:FR)(g_in_line:FR):FS:=(ze (sIf (eIs .tuple (za 0)) (ku 2 (q9 [(za 0)])) zj) (ze (sIf (eEq (za 0) (q9 [])) (ku 2 (q9 [])) zj) (ze (yi 3 g_in_line [.x 0 0,.f (qh (za 1) (zm [(eC (.int 0))]))] 2) (ze (yi 4 g_in_line [.x 0 1,.f (qh (za 1) (zm [(eC (.int 1))]))] 2) (u1 g_merged [.n 3,.n 4,.n 1] 2)))))
noncomputable def gz(g_is_barren:FC):FS:=(ze (zl 1 (eIx (za 0) (eC (.int 0)))) (ze (sIf (eEq (za 1) (eC (.str "either"))) (zq (km (zd g_is_barren [(eIx (za 0) (eC (.int 1)))]) (zd g_is_barren [(eIx (za 0) (eC (.int 2)))]))) zj) (ze (sIf (eEq (za 1) (eC (.str "both"))) (zq (eOr (zd g_is_barren [(eIx (za 0) (eC (.int 1)))]) (zd g_is_barren [(eIx (za 0) (eC (.int 2)))]))) zj) (zq (eEq (za 1) (eC (.str "none")))))))
noncomputable def kc(g_is_barren:FC)(g_tree_of:FR):FS:=(ze (sIf (zd g_is_barren [(eIx (za 0) (eC (.int 1)))]) (n9 g_tree_of [.f (eIx (za 0) (eC (.int 1))),.f (qh (za 1) (zm [(eC (.int 0))]))] 2) (ze (n9 g_tree_of [.f (eIx (za 0) (eC (.int 2))),.f (qh (za 1) (zm [(eC (.int 1))]))] 2) (je 2 (zm [(eC (.str "swap")),(za 1)])))) (ze (je 2 (zm [(eC (.str "drop")),(za 1)])) (ku 2 (q9 []))))
noncomputable def va(g_both_of_trees:FR):FS:=(ze (sIf (eEq (za 0) (zm [])) (ze (je 3 (zm [(eC (.str "drop")),(za 2)])) (me 3 1)) zj) (ze (je 3 (zm [(eC (.str "spread")),(za 2)])) (ze (yi 4 g_both_of_trees [.n 0,.x 1 0,.f (qh (za 2) (zm [(eC (.int 0))]))] 3) (ze (yi 5 g_both_of_trees [.n 0,.x 1 1,.f (qh (za 2) (zm [(eC (.int 1))]))] 3) (DQ 3 4 5)))))
noncomputable def ju(g_merged:FR)(g_spread_tree:FR):FS:=(ze (sIf (eIs .list (za 0)) (ze (je 3 (zm [(eC (.str "swap")),(za 2)])) (u1 g_spread_tree [.n 1,.n 0,.n 2] 3)) zj) (ze (sIf (eIs .list (za 1)) (u1 g_spread_tree [.n 0,.n 1,.n 2] 3) zj) (F5 g_merged [.n 0,.n 1,.n 2] 3)))
noncomputable def wg(g_merged:FR)(g_factors_in_line:FR):FS:=(ze (sIf (eNe (eIx (za 0) (eC (.int 0))) (eC (.str "both"))) (ku 2 (q9 [(za 0)])) zj) (ze (yi 3 g_factors_in_line [.f (eIx (za 0) (eC (.int 1))),.f (qh (za 1) (zm [(eC (.int 0))]))] 2) (ze (yi 4 g_factors_in_line [.f (eIx (za 0) (eC (.int 2))),.f (qh (za 1) (zm [(eC (.int 1))]))] 2) (u1 g_merged [.n 3,.n 4,.n 1] 2))))
noncomputable def xk(g_both_of_trees:FR)(g_tree_of:FR)(g_factors_in_line:FR):FS:=(ze (yi 3 g_factors_in_line [.n 0,.n 1] 2) (ze (zl 4 (iz (jd (za 3)) (eC (.int 1)))) (ze (yi 5 g_tree_of [.f (eIx (za 3) (za 4)),.f (qh (za 1) (tq (zm [(eC (.int 1))]) (za 4)))] 2) (ze (ye (C2 (iz (za 4) (eC (.int 1)))) (zw 6) (ze (zl 7 (qh (za 1) (tq (zm [(eC (.int 1))]) (za 6)))) (ze (yi 8 g_tree_of [.f (eIx (za 3) (za 6)),.f (qh (za 7) (zm [(eC (.int 0))]))] 2) (yi 5 g_both_of_trees [.n 8,.n 5,.n 7] 2)))) (me 2 5)))))
noncomputable def j4(g_tree_of:FR)(g_is_barren:FC)(g_barren_tree:FR)(g_product_tree:FR):FS:=(ze (zl 3 (eIx (za 0) (eC (.int 0)))) (ze (sIf (eEq (za 3) (eC (.str "none"))) (ku 2 (q9 [])) zj) (ze (sIf (eEq (za 3) (eC (.str "one"))) (ku 2 (zm [])) zj) (ze (sIf (eEq (za 3) (eC (.str "name"))) (ku 2 (zm [(eIx (za 0) (eC (.int 1)))])) zj) (ze (sIf (eEq (za 3) (eC (.str "both"))) (sIf (zd g_is_barren [(za 0)]) (u1 g_barren_tree [.n 0,.n 1] 2) (u1 g_product_tree [.n 0,.n 1] 2)) zj) (ze (yi 4 g_tree_of [.f (eIx (za 0) (eC (.int 1))),.f (qh (za 1) (zm [(eC (.int 0))]))] 2) (ze (yi 5 g_tree_of [.f (eIx (za 0) (eC (.int 2))),.f (qh (za 1) (zm [(eC (.int 1))]))] 2) (ze (sIf (eEq (za 4) (q9 [])) (ze (je 2 (zm [(eC (.str "drop")),(za 1)])) (me 2 5)) zj) (ze (sIf (eEq (za 5) (q9 [])) (ze (je 2 (zm [(eC (.str "swap")),(za 1)])) (ze (je 2 (zm [(eC (.str "drop")),(za 1)])) (me 2 4))) zj) (DQ 2 4 5))))))))))
noncomputable def f6(g_in_line:FR)(g_tree_of:FR):FS:=(ze (zl 1 (q9 [])) (ze (yi 2 g_tree_of [.n 0,.f (zm [])] 1) (ze (n9 g_in_line [.n 2,.f (zm [])] 1) (zq (za 1)))))
noncomputable def xi(g_gathered:FC)(g_is_barren:FC):FS:=(ze (zl 1 (eIx (za 0) (eC (.int 0)))) (ze (sIf (eEq (za 1) (eC (.str "none"))) (zq (q9 [])) zj) (ze (sIf (eEq (za 1) (eC (.str "one"))) (zq (q9 [(zm [])])) zj) (ze (sIf (eEq (za 1) (eC (.str "name"))) (zq (q9 [(zm [(eIx (za 0) (eC (.int 1)))])])) zj) (ze (sIf (eEq (za 1) (eC (.str "either"))) (zq (qh (zd g_gathered [(eIx (za 0) (eC (.int 1)))]) (zd g_gathered [(eIx (za 0) (eC (.int 2)))]))) zj) (ze (sIf (zd g_is_barren [(za 0)]) (zq (q9 [])) zj) (ze (zl 2 (zd g_gathered [(eIx (za 0) (eC (.int 1)))])) (ze (zl 3 (zd g_gathered [(eIx (za 0) (eC (.int 2)))])) (ze (zl 4 (q9 [])) (ze (yb 2 (zw 5) (cx 4 (Ep (xu (za 3)) [5] (fx (vw (qh (za 1) (za 0))))))) (zq (za 4))))))))))))
noncomputable def AM(g_gathered:FC):FS:=(zq (vw (zd g_gathered [(za 0)])))
noncomputable def GV(g_parting_sizes:FC)(g_row_to_plain:FC)(g_bundles:FC):FS:=(ze (zl 2 (zd g_bundles [(za 0)])) (ze (zl 3 (zd g_bundles [(za 1)])) (ze (sIf (eEq (za 2) (za 3)) (zq (Mt (eC (.str "same")) (zd g_row_to_plain [(za 0)]) (zd g_row_to_plain [(za 1)]))) zj) (zq (zm [(eC (.str "unlike")),(zd g_parting_sizes [(za 2),(za 3)])])))))
noncomputable def ou:FS:=(ze (zl 1 (q9 [])) (ze (yb 0 (zw 2) (ze (zl 3 (zm [(eC (.str "one"))])) (ze (ye (Ba (ag (za 2))) (wc 4 5) (zl 3 (eIf (eEq (za 4) (eC (.int 0))) (zm [(eC (.str "name")),(za 5)]) (zm [(eC (.str "both")),(zm [(eC (.str "name")),(za 5)]),(za 3)])))) (yz 1 (za 3))))) (ze (zl 6 (zm [(eC (.str "none"))])) (ze (ye (Ba (ag (za 1))) (wc 4 3) (zl 6 (eIf (eEq (za 4) (eC (.int 0))) (za 3) (zm [(eC (.str "either")),(za 3),(za 6)])))) (zq (za 6))))))
noncomputable def m7(g_law_count:FC)(g_law_whole:FC)(g_law_bundles:FC)(g_law_gone:FC)(g_judged:FC)(g_law_plain:FC):FS:=(ze (nu 2 (zd g_judged [(za 0),(za 1)])) (ze (sIf (eOr (f9 (eIs .tuple (za 2))) (eLt (jd (za 2)) (eC (.int 2)))) (zq (eC (.bool false))) zj) (ze (sIf (eEq (zd g_law_bundles [(za 0)]) (zd g_law_bundles [(za 1)])) (ze (sIf (eOr (eNe (eIx (za 2) (eC (.int 0))) (eC (.str "same"))) (eNe (jd (za 2)) (eC (.int 3)))) (zq (eC (.bool false))) zj) (ze (zl 3 (zd g_law_plain [(zd g_law_bundles [(za 0)])])) (ze (sIf (eOr (eNe (zd g_law_gone [(za 0),(eIx (za 2) (eC (.int 1)))]) (za 3)) (eNe (zd g_law_gone [(za 1),(eIx (za 2) (eC (.int 2)))]) (za 3))) (zq (eC (.bool false))) zj) (ze (zl 4 (jd (eIx (za 2) (eC (.int 2))))) (ze (ux true 2 (zm [(eC (.str "turn")),(zm [])])) (ze (sIf (eNe (jd (eIx (za 2) (eC (.int 2)))) (za 4)) (zq (eC (.bool false))) zj) (ze (ux false 2 (zm [(eC (.str "turn")),(zm [])])) (ze (nu 5 (zd g_judged [(za 0),(za 1)])) (zq (km (eEq (zd g_law_gone [(za 0),(eIx (za 5) (eC (.int 1)))]) (za 3)) (eEq (zd g_law_gone [(za 1),(eIx (za 5) (eC (.int 2)))]) (za 3)))))))))))) zj) (ze (sIf (eOr (eNe (eIx (za 2) (eC (.int 0))) (eC (.str "unlike"))) (eOr (eNe (jd (za 2)) (eC (.int 2))) (eOr (f9 (eIs .tuple (eIx (za 2) (eC (.int 1))))) (eNe (jd (eIx (za 2) (eC (.int 1)))) (eC (.int 4)))))) (zq (eC (.bool false))) zj) (ze (ye (xu (eIx (za 2) (eC (.int 1)))) (zw 6) (sIf (eOr (f9 (zd g_law_whole [(za 6)])) (f9 (CV dLe dLe (eC (.int 0)) (za 6) (eC (.int 20))))) (zq (eC (.bool false))) zj)) (zq (eNe (zd g_law_count [(za 0),(eIx (za 2) (eC (.int 1)))]) (zd g_law_count [(za 1),(eIx (za 2) (eC (.int 1)))]))))))))
noncomputable def Dc:FS:=(ze (zl 1 (eC (.int 0))) (ze (ye (xu (q9 [(eC (.int 48271)),(eC (.int 69621)),(eC (.int 39373)),(eC (.int 44488))])) (zw 2) (ze (zl 3 (yg (qh (vj (za 0) (za 2)) (eC (.int 7919))) (eC (.int 2147483647)))) (ze (zl 3 (yg (vj (yg (vj (za 3) (za 3)) (eC (.int 2147483647))) (eC (.int 40692))) (eC (.int 2147483399)))) (zl 1 (qh (vj (za 1) (Pc (eC (.int 10)) (eC (.int 9)))) (sv (za 3) (eC (.int 7)))))))) (zq (za 1))))
noncomputable def rq(g_law_stir:FC):FS:=(ze (sIf (eLt (za 1) (jd (za 0))) (zq (zd g_law_stir [(eIx (za 0) (za 1))])) zj) (zq (zd g_law_stir [(eC (.int 0))])))
noncomputable def Ip:FS:=(ze (zl 2 (za 0)) (ze (ye (iR1 (iz (za 1) (eC (.int 1)))) (zw 3) (zl 2 (zm [(eC (.str "either")),(za 0),(za 2)]))) (zq (za 2))))
noncomputable def LC(g_law_some:FC):FS:=(ze (zl 1 (zm [(eC (.str "both")),(za 0),(za 0)])) (ze (zl 2 (zm [(eC (.str "both")),(za 1),(zm [(eC (.str "either")),(za 1),(zd g_law_some [(zm [(eC (.str "one"))]),(eC (.int 11))])])])) (zq (zm [(za 2),(zm [(eC (.str "both")),(zd g_law_some [(za 0),(eC (.int 6))]),(zm [(eC (.str "either")),(za 1),(zm [(eC (.str "one"))])])])]))))
noncomputable def CO:FS:=(ze (zl 3 (yg (qh (qh (yg (za 0) (eC (.int 2147483629))) (eC (.int 1))) (vj (za 1) (eC (.int 1000003)))) (eC (.int 2147483647)))) (ze (zl 3 (yg (vj (yg (vj (za 3) (za 3)) (eC (.int 2147483647))) (eC (.int 48271))) (eC (.int 2147483629)))) (ze (zl 3 (yg (vj (yg (vj (za 3) (za 3)) (eC (.int 2147483629))) (eC (.int 40692))) (eC (.int 2147483399)))) (zq (yg (sv (za 3) (eC (.int 97))) (za 2))))))
noncomputable def uo(g_law_kind:FC)(g_law_draw:FC):FS:=(ze (sIf (eLt (za 1) (eC (.int 2))) (ze (zl 3 (zd g_law_draw [(za 0),(vj (eC (.int 5)) (za 2)),(eC (.int 12))])) (ze (sIf (eEq (za 3) (eC (.int 0))) (zq (zm [(eC (.str "none"))])) zj) (ze (sIf (eLt (za 3) (eC (.int 3))) (zq (zm [(eC (.str "one"))])) zj) (zq (zm [(eC (.str "name")),(yg (za 3) (eC (.int 4)))]))))) zj) (ze (zl 4 (qh (eC (.int 1)) (zd g_law_draw [(za 0),(qh (vj (eC (.int 5)) (za 2)) (eC (.int 1))),(iz (za 1) (eC (.int 1)))]))) (ze (zl 5 (eIx (q9 [(eC (.str "either")),(eC (.str "both"))]) (zd g_law_draw [(za 0),(qh (vj (eC (.int 5)) (za 2)) (eC (.int 2))),(eC (.int 2))]))) (zq (zm [(za 5),(zd g_law_kind [(za 0),(za 4),(vj (eC (.int 2)) (za 2))]),(zd g_law_kind [(za 0),(iz (za 1) (za 4)),(qh (vj (eC (.int 2)) (za 2)) (eC (.int 1)))])])))))
noncomputable def vx(g_law_leafed:FC)(g_law_draw:FC):FS:=(ze (sIf (eLt (jd (za 0)) (eC (.int 3))) (ze (sIf (eEq (zd g_law_draw [(za 1),(za 2),(eC (.int 6))]) (eC (.int 0))) (zq (eIx (q9 [(zm [(eC (.str "one"))]),(zm [(eC (.str "name")),(zd g_law_draw [(za 1),(qh (za 2) (eC (.int 1))),(eC (.int 4))])])]) (zd g_law_draw [(za 1),(qh (za 2) (eC (.int 2))),(eC (.int 2))]))) zj) (zq (za 0))) zj) (zq (zm [(eIx (za 0) (eC (.int 0))),(zd g_law_leafed [(eIx (za 0) (eC (.int 1))),(za 1),(vj (eC (.int 2)) (za 2))]),(zd g_law_leafed [(eIx (za 0) (eC (.int 2))),(za 1),(qh (vj (eC (.int 2)) (za 2)) (eC (.int 1)))])])))
noncomputable def rn:FS:=(ze (yb 1 (zw 2) (zl 0 (eIx (za 0) (qh (eC (.int 1)) (za 2))))) (zq (za 0)))
noncomputable def m6(g_law_part:FC):FS:=(ze (zl 1 (q9 [])) (ze (zl 2 (q9 [(zm [])])) (ze (dz (eNe (za 2) (q9 [])) (ze (L1 3 2) (ze (yz 1 (za 3)) (sIf (eEq (jd (zd g_law_part [(za 0),(za 3)])) (eC (.int 3))) (cx 2 (q9 [(qh (za 3) (zm [(eC (.int 1))])),(qh (za 3) (zm [(eC (.int 0))]))])) zj)))) (zq (za 1)))))
noncomputable def fz(g_law_put:FC)(g_law_here:FC)(g_law_part:FC)(g_law_paths:FC):FS:=(ze (sIf (mw (za 2) (zd g_law_paths [(za 0)])) (zq (eC .none)) zj) (ze (zl 3 (zd g_law_here [(zd g_law_part [(za 0),(za 2)]),(za 1)])) (ze (sIf (Gd (za 3) (eC .none)) (zq (eC .none)) zj) (zq (zd g_law_put [(za 0),(za 2),(za 3)])))))
noncomputable def gr(g_law_here:FC)(g_law_part:FC)(g_law_paths:FC):FS:=(ze (zl 1 (q9 [])) (ze (ye (xu (zd g_law_paths [(za 0)])) (zw 2) (ye (xu (q9 [(eC (.str "swap")),(eC (.str "group")),(eC (.str "spread")),(eC (.str "drop"))])) (zw 3) (sIf (Gp (zd g_law_here [(zd g_law_part [(za 0),(za 2)]),(za 3)]) (eC .none)) (yz 1 (zm [(za 3),(za 2)])) zj))) (zq (za 1))))
noncomputable def oq(g_law_paths:FC)(g_law_turned:FC)(g_law_cell:FC)(g_law_all_turnings:FC):FS:=(ze (ye (iR1 (yg (zd g_law_cell [(za 0),(za 1)]) (eC (.int 9)))) (zw 3) (ze (zl 4 (zd g_law_all_turnings [(za 2)])) (sIf (km (eNe (za 4) (q9 [])) (eLt (jd (zd g_law_paths [(za 2)])) (eC (.int 14)))) (ze (bo (wc 5 6) (eIx (za 4) (yg (zd g_law_cell [(za 0),(qh (qh (za 1) (eC (.int 1))) (za 3))]) (jd (za 4))))) (zl 2 (zd g_law_turned [(za 2),(za 5),(za 6)]))) zj))) (zq (za 2)))
noncomputable def Kx(g_law_right:FC)(g_law_cell:FC)(g_law_far:FC)(g_law_kind:FC)(g_law_leafed:FC)(g_law_other:FC):FS:=(ze (zl 1 (zd g_law_kind [(zd g_law_cell [(za 0),(eC (.int 0))]),(qh (eC (.int 1)) (yg (zd g_law_cell [(za 0),(eC (.int 1))]) (eC (.int 5)))),(eC (.int 1))])) (ze (zl 2 (zd g_law_other [(za 0),(eC (.int 2)),(za 1)])) (ze (zl 3 (yg (sv (zd g_law_cell [(za 0),(eC (.int 1))]) (eC (.int 5))) (eC (.int 4)))) (ze (sIf (eGt (za 3) (eC (.int 1))) (zl 2 (zd g_law_leafed [(za 2),(zd g_law_cell [(za 0),(eC (.int 12))]),(eC (.int 1))])) zj) (ze (sIf (eEq (za 3) (eC (.int 3))) (zl 2 (zd g_law_kind [(zd g_law_cell [(za 0),(eC (.int 12))]),(qh (eC (.int 1)) (yg (zd g_law_cell [(za 0),(eC (.int 13))]) (eC (.int 5)))),(eC (.int 1))])) zj) (ze (sIf (eEq (yg (zd g_law_cell [(za 0),(eC (.int 14))]) (eC (.int 8))) (eC (.int 1))) (bo (wc 1 2) (zd g_law_far [(zm [(eC (.str "name")),(yg (sv (zd g_law_cell [(za 0),(eC (.int 14))]) (eC (.int 8))) (eC (.int 4)))])])) zj) (zq (km (zd g_law_right [(za 1),(za 2)]) (zd g_law_right [(za 2),(za 1)])))))))))
noncomputable def jq:Nat->FC
 | 0=>λ_=>UA
 | n+1=>qj 2 (g7 (jq n))
noncomputable def w6:Nat->FC
 | 0=>λ_=>UA
 | n+1=>qj 1 (Bo)
noncomputable def z8:Nat->FC
 | 0=>λ_=>UA
 | n+1=>qj 6 (vb (z8 n))
noncomputable def j3:Nat->FC
 | 0=>λ_=>UA
 | n+1=>qj 4 (b8 (j3 n))
noncomputable def jm:Nat->FC
 | 0=>λ_=>UA
 | n+1=>qj 4 (gu)
noncomputable def vc:Nat->FC
 | 0=>λ_=>UA
 | n+1=>qj 6 (sh (j3 n) (jm n))
noncomputable def qy:Nat->FC
 | 0=>λ_=>UA
 | n+1=>qj 1 (cy)
noncomputable def jf:Nat->FC
 | 0=>λ_=>UA
 | n+1=>qj 9 (Be (qy n))
noncomputable def yq:Nat->FC
 | 0=>λ_=>UA
 | n+1=>qj 4 (A2 (qy n))
noncomputable def ya:Nat->FC
 | 0=>λ_=>UA
 | n+1=>qj 7 (md (jf n) (yq n))
noncomputable def j9:Nat->FR
 | 0=>λ_ _=>UA
 | n+1=>qo 9 (e7)
noncomputable def vo:Nat->FR
 | 0=>λ_ _=>UA
 | n+1=>qo 5 (ez (j9 n) (vo n))
noncomputable def ql:Nat->FC
 | 0=>λ_=>UA
 | n+1=>qj 2 (gz (ql n))
mutual
noncomputable def jk:Nat->FR
 | 0=>λ_ _=>UA
 | n+1=>qo 6 (va (m_both_of_trees n))
noncomputable def m_both_of_trees:Nat->FR
 | 0=>λ_ _=>UA
 | n+1=>qo 4 (ju (j9 n) (jk n))
end
noncomputable def qm:Nat->FR
 | 0=>λ_ _=>UA
 | n+1=>qo 5 (wg (j9 n) (qm n))
mutual
noncomputable def ke:Nat->FR
 | 0=>λ_ _=>UA
 | n+1=>qo 3 (kc (ql n) (m_tree_of n))
noncomputable def vk:Nat->FR
 | 0=>λ_ _=>UA
 | n+1=>qo 9 (xk (m_both_of_trees n) (m_tree_of n) (qm n))
noncomputable def m_tree_of:Nat->FR
 | 0=>λ_ _=>UA
 | n+1=>qo 6 (j4 (m_tree_of n) (ql n) (ke n) (vk n))
end
noncomputable def ji:Nat->FC
 | 0=>λ_=>UA
 | n+1=>qj 3 (f6 (vo n) (m_tree_of n))
noncomputable def jr:Nat->FC
 | 0=>λ_=>UA
 | n+1=>qj 6 (xi (jr n) (ql n))
noncomputable def wm:Nat->FC
 | 0=>λ_=>UA
 | n+1=>qj 1 (AM (jr n))
noncomputable def vm:Nat->FC
 | 0=>λ_=>UA
 | n+1=>qj 4 (GV (ya n) (ji n) (wm n))
noncomputable def y9:Nat->FC
 | 0=>λ_=>UA
 | n+1=>qj 7 (ou)
noncomputable def w8:Nat->FC
 | 0=>λ_=>UA
 | n+1=>qj 7 (m7 (jq n) (w6 n) (z8 n) (vc n) (vm n) (y9 n))
noncomputable def uj:Nat->FC
 | 0=>λ_=>UA
 | n+1=>qj 4 (Dc)
noncomputable def z7:Nat->FC
 | 0=>λ_=>UA
 | n+1=>qj 2 (rq (uj n))
noncomputable def v8:Nat->FC
 | 0=>λ_=>UA
 | n+1=>qj 4 (Ip)
noncomputable def vp:Nat->FC
 | 0=>λ_=>UA
 | n+1=>qj 3 (LC (v8 n))
noncomputable def xf:Nat->FC
 | 0=>λ_=>UA
 | n+1=>qj 4 (CO)
noncomputable def jj:Nat->FC
 | 0=>λ_=>UA
 | n+1=>qj 6 (uo (jj n) (xf n))
noncomputable def j6:Nat->FC
 | 0=>λ_=>UA
 | n+1=>qj 3 (vx (j6 n) (xf n))
noncomputable def j0:Nat->FC
 | 0=>λ_=>UA
 | n+1=>qj 3 (rn)
noncomputable def qt:Nat->FC
 | 0=>λ_=>UA
 | n+1=>qj 4 (m6 (j0 n))
noncomputable def wd:Nat->FC
 | 0=>λ_=>UA
 | n+1=>qj 4 (fz (j3 n) (jm n) (j0 n) (qt n))
noncomputable def qp:Nat->FC
 | 0=>λ_=>UA
 | n+1=>qj 4 (gr (jm n) (j0 n) (qt n))
noncomputable def w4:Nat->FC
 | 0=>λ_=>UA
 | n+1=>qj 7 (oq (qt n) (wd n) (z7 n) (qp n))
noncomputable def Er:Nat->FC
 | 0=>λ_=>UA
 | n+1=>qj 4 (Kx (w8 n) (z7 n) (vp n) (jj n) (j6 n) (w4 n))
end KT
namespace KT
open PySem PySem.Spec PyProof.Rows L2
set_option maxHeartbeats 0
seal L2.PS L2.PSs L2.PE L2.PT L2.PW L2.PA L2.PI L2.PO
noncomputable def top(i:Nat):VW:=PySem.Challenge.pw_kindturn_k12_whole_judged.main.body.getD i (.Pass ⟨0,0,0,0⟩)
section
variable{P:Vn}{w:Vz}{K:UF}{mg:Vk->Option UB}{base:V1}{cv:Nat->UB}{n:Nat}{f:UL}{fd:Yn}
abbrev b7:VW:=top 26
theorem E7:FnScope ["kind","sizes"] ["kind","sizes"] (zx b7):=⟨rfl,rfl,rfl,by decide +kernel,rfl,by decide +kernel,by decide +kernel⟩
theorem Eu(M:MF mg)(F:Fun K "_law_count" "_law_count" b7 f fd)(F_law_count:FnF (CX1 P w) P w K mg base cv n "_law_count" 2 (jq n)):FnOk P w K mg base (CX1 P w) (n+1) f fd ["kind","sizes"] (spD cv 2 (jq (n+1))):=
 jo M F E7 λcdv A outer s H E B=>
  (by (refine zf (j8 (yw B.C (xq B.C (zc 0)) zg) (zr (qf (MM B.C (Nt B.C (qw (zc 0) zg) qd)))) qu) ?_);(refine zf (j8 (yw B.C (xq B.C (zc 0)) zg) (zr (qf (qw (zc 1) (qw (zc 0) zg)))) qu) ?_);(refine zf (j8 (yw B.C (qw (zc 0) zg) qd) (zr (qf (j7 (zy F_law_count B.hr B.L (zb (qw (zc 0) zg) (zb (zc 1) zh))) (zy F_law_count B.hr B.L (zb (qw (zc 0) zg) (zb (zc 1) zh)))))) qu) ?_);exact zr (qf (fu (zy F_law_count B.hr B.L (zb (qw (zc 0) zg) (zb (zc 1) zh))) (zy F_law_count B.hr B.L (zb (qw (zc 0) zg) (zb (zc 1) zh))))))
abbrev bq:VW:=top 23
theorem F8:FnScope ["found"] ["found"] (zx bq):=⟨rfl,rfl,rfl,by decide +kernel,rfl,by decide +kernel,by decide +kernel⟩
theorem FA(M:MF mg)(F:Fun K "_law_whole" "_law_whole" bq f fd):FnOk P w K mg base (CX1 P w) (n+1) f fd ["found"] (spD cv 1 (w6 (n+1))):=
 jo M F F8 λcdv A outer s H E B=>
  (zr (qf (JD (Pq B.C (zc 0)) (GE (To (Me B.C (zc 0)))))))
abbrev fk:VW:=top 33
theorem Cy:FnScope ["kind","left","right","found","one","other"] ["kind"] (zx fk):=⟨rfl,rfl,rfl,by decide +kernel,rfl,by decide +kernel,by decide +kernel⟩
theorem CK(M:MF mg)(F:Fun K "_law_bundles" "_law_bundles" fk f fd)(F_law_bundles:FnF (CX1 P w) P w K mg base cv n "_law_bundles" 1 (z8 n))(N_sorted:mg "sorted" =UA):FnOk P w K mg base (CX1 P w) (n+1) f fd ["kind"] (spD cv 1 (z8 (n+1))):=
 jo M F Cy λcdv A outer s H E B=>
  (by (refine zf (j8 (yw B.C (xq B.C (zc 0)) zg) (zr (qf (fu (ym (zb (qa zh) zh)) (MM B.C (Nt B.C (qw (zc 0) zg) qd))))) qu) ?_);(refine zf (j8 (yw B.C (xq B.C (zc 0)) zg) (zr (qf (ym (zb (qa (zb (qw (zc 0) zg) zh)) zh)))) qu) ?_);(refine zf (qk 1 B.nd (zy F_law_bundles B.hr B.L (zb (qw (zc 0) zg) zh))) ?_);(refine zf (qk 2 B.nd (zy F_law_bundles B.hr B.L (zb (qw (zc 0) zg) zh))) ?_);(refine zf (j8 (yw B.C (qw (zc 0) zg) qd) (zr (qf (nh B.C N_sorted (j7 (zc 1) (zc 2))))) qu) ?_);(refine zf (qk 3 B.nd (ym zh)) ?_);(refine zf (n0 1 B.pw B.hc (kg 4 B.nd) (zr (n0 2 B.pw B.hc (kg 5 B.nd) (zr (om 3 (B7 B.C (nh B.C N_sorted (j7 (zc 4) (zc 5))))))))) ?_);exact zr (qf (nh B.C N_sorted (zc 3))))
abbrev i9:VW:=top 30
theorem IH:FnScope ["kind","path","piece","inner"] ["kind","path","piece"] (zx i9):=⟨rfl,rfl,rfl,by decide +kernel,rfl,by decide +kernel,by decide +kernel⟩
theorem ID(M:MF mg)(F:Fun K "_law_put" "_law_put" i9 f fd)(F_law_put:FnF (CX1 P w) P w K mg base cv n "_law_put" 3 (j3 n)):FnOk P w K mg base (CX1 P w) (n+1) f fd ["kind","path","piece"] (spD cv 3 (j3 (n+1))):=
 jo M F IH λcdv A outer s H E B=>
  (by (refine zf (j8 (yw B.C (zc 1) (qa zh)) (zr (qf (zc 2))) qu) ?_);(refine zf (qk 3 B.nd (zy F_law_put B.hr B.L (zb (qw (zc 0) (j7 zg (qw (zc 1) zg))) (zb (Um (zc 1) (Sa zg) Ru) (zb (zc 2) zh))))) ?_);(refine zf (j8 (yw B.C (qw (zc 1) zg) zg) (zr (qf (qa (zb (qw (zc 0) zg) (zb (zc 3) (zb (qw (zc 0) zg) zh)))))) qu) ?_);exact zr (qf (qa (zb (qw (zc 0) zg) (zb (qw (zc 0) zg) (zb (zc 3) zh))))))
abbrev dg:VW:=top 29
theorem HB:FnScope ["kind","word","k","m"] ["kind","word"] (zx dg):=⟨rfl,rfl,rfl,by decide +kernel,rfl,by decide +kernel,by decide +kernel⟩
theorem GQ(M:MF mg)(F:Fun K "_law_here" "_law_here" dg f fd):FnOk P w K mg base (CX1 P w) (n+1) f fd ["kind","word"] (spD cv 2 (jm (n+1))):=
 jo M F HB λcdv A outer s H E B=>
  (by (refine zf (j8 (FX B.C (xq B.C (zc 0)) zg) (zr (qf n5)) qu) ?_);(refine zf (qk 2 B.nd (qw (zc 0) zg)) ?_);(refine zf (qk 3 B.nd (qw (zc 0) zg)) ?_);(refine zf (j8 (yw B.C (zc 1) qd) (zr (qf (qa (zb (qw (zc 0) zg) (zb (zc 3) (zb (zc 2) zh)))))) qu) ?_);(refine zf (j8 (L2.PW.pt (Cc (yw B.C (zc 1) qd) (ny (yw B.C (qw (zc 2) zg) (qw (zc 0) zg))))) (zr (qf (qa (zb (qw (zc 0) zg) (zb (qw (zc 2) zg) (zb (qa (zb (qw (zc 0) zg) (zb (qw (zc 2) zg) (zb (zc 3) zh)))) zh)))))) qu) ?_);(refine zf (j8 (L2.PW.pt (Cc (yw B.C (zc 1) qd) (Cc (yw B.C (qw (zc 0) zg) qd) (ny (yw B.C (qw (zc 3) zg) qd))))) (zr (qf (qa (zb qd (zb (qa (zb qd (zb (zc 2) (zb (qw (zc 3) zg) zh)))) (zb (qa (zb qd (zb (zc 2) (zb (qw (zc 3) zg) zh)))) zh)))))) qu) ?_);(refine zf (j8 (L2.PW.pt (Cc (yw B.C (zc 1) qd) (Cc (yw B.C (qw (zc 0) zg) qd) (ny (yw B.C (qw (zc 2) zg) qd))))) (zr (qf (qa (zb qd zh)))) qu) ?_);(refine zf (j8 (L2.PW.pt (Cc (yw B.C (zc 1) qd) (ny (Uo B.C (qa (zb (qw (zc 0) zg) (zb (qw (zc 2) zg) zh))) (qa (zb (qa (zb qd (zb qd zh))) (zb (qa (zb qd (zb qd zh))) zh))))))) (zr (qf (zc 3))) qu) ?_);exact zr (qf n5))
abbrev cm:VW:=top 36
theorem FY:FnScope ["kind","row","turning","piece","side","made"] ["kind","row"] (zx cm):=⟨rfl,rfl,rfl,by decide +kernel,rfl,by decide +kernel,by decide +kernel⟩
theorem Hr(M:MF mg)(F:Fun K "_law_gone" "_law_gone" cm f fd)(F_law_put:FnF (CX1 P w) P w K mg base cv n "_law_put" 3 (j3 n))(F_law_here:FnF (CX1 P w) P w K mg base cv n "_law_here" 2 (jm n)):FnOk P w K mg base (CX1 P w) (n+1) f fd ["kind","row"] (spD cv 2 (vc (n+1))):=
 jo M F FY λcdv A outer s H E B=>
  (by (refine zf (j8 (Ct (mh (CJ B.C (zc 1)))) (zr (qf n5)) qu) ?_);(refine zf (n0 1 B.pw B.hc (kg 2 B.nd) (by (refine zf (j8 (L2.PW.pt (Dd (Ct (mh (ij B.C (zc 2)))) (Dd (Az B.C (xq B.C (zc 2)) zg) (df (Ct (mh (ij B.C (qw (zc 2) zg)))))))) (zr (qf n5)) qu) ?_);(refine zf (qk 3 B.nd (zc 0)) ?_);(refine zf (mi B.pw B.hc (CG (qw (zc 2) zg)) (kg 4 B.nd) (by (refine zf (j8 (L2.PW.pt (Dd (J3 B.C (zc 4) (qa (zb zg (zb zg zh)))) (df (FX B.C (xq B.C (zc 3)) zg)))) (zr (qf n5)) qu) ?_);exact zr (qk 3 B.nd (qw (zc 3) (j7 zg (zc 4)))))) ?_);(refine zf (qk 5 B.nd (zy F_law_here B.hr B.L (zb (zc 3) (zb (qw (zc 2) zg) zh)))) ?_);(refine zf (j8 (Q4 B.C (zc 5) n5) (zr (qf n5)) qu) ?_);exact zr (qk 0 B.nd (zy F_law_put B.hr B.L (zb (zc 0) (zb (qw (zc 2) zg) (zb (zc 5) zh))))))) ?_);exact zr (qf (zc 0)))
abbrev vy:VW:=top 19
theorem sf:FnScope ["terms"] ["terms"] (zx vy):=⟨rfl,rfl,rfl,by decide +kernel,rfl,by decide +kernel,by decide +kernel⟩
theorem su(M:MF mg)(F:Fun K "without_noughts" "without_noughts" vy f fd)(N_dict:mg "dict" =UA):FnOk P w K mg base (CX1 P w) (n+1) f fd ["terms"] (spD cv 1 (qy (n+1))):=
 jo M F sf λcdv A outer s H E B=>
  (zr (qf (Rm B.C B.hc N_dict (Fe (ys:=["bundle","times"]) (fr:=[]) (ids:=[]) B.C B.hr B.hc (Os (zc 0)) (Pz B.hc) (λcl Ca s2 H2 fp B=>JM (Az B.C (zc 1) zg)) (λcl Ca s2 H2 fp B=>(qa (zb (zc 0) (zb (zc 1) zh))))))))
abbrev bj:VW:=top 18
theorem Fh:FnScope ["terms","name","size","made","bundle","times","rest","value","number"] ["terms","name","size"] (zx bj):=⟨rfl,rfl,rfl,by decide +kernel,rfl,by decide +kernel,by decide +kernel⟩
theorem Fs(M:MF mg)(F:Fun K "with_size" "with_size" bj f fd)(F_without_noughts:FnF (CX1 P w) P w K mg base cv n "without_noughts" 1 (qy n)):FnOk P w K mg base (CX1 P w) (n+1) f fd ["terms","name","size"] (spD cv 3 (jf (n+1))):=
 jo M F Fh λcdv A outer s H E B=>
  (by (refine zf (NW 3 B.nd) ?_);(refine zf (R5 0 B.pw B.hc (Df 4 5 B.hc B.nd) (by (refine zf (qk 6 B.nd (B7 B.C (Fe (ys:=["other"]) (fr:=["name"]) (ids:=[1]) B.C B.hr B.hc (CG (zc 4)) J5 (λcl Ca s2 H2 fp B=>JM (Az B.C (zc 0) (zc 1))) (λcl Ca s2 H2 fp B=>(zc 0))))) ?_);(refine zf (qk 7 B.nd (zc 5)) ?_);(refine zf (mi B.pw B.hc (QD B.C (OM B.C (zc 4) (zc 1))) (kg 8 B.nd) (zr (qk 7 B.nd (fu (zc 7) (zc 2))))) ?_);exact zr (Jh false 3 6 B.C rfl (zc 7)))) ?_);exact zr (qf (zy F_without_noughts B.hr B.L (zb (zc 3) zh))))
abbrev uu:VW:=top 17
theorem Dw:FnScope ["ones","others","terms","bundle"] ["ones","others"] (zx uu):=⟨rfl,rfl,rfl,by decide +kernel,rfl,by decide +kernel,by decide +kernel⟩
theorem Ds(M:MF mg)(F:Fun K "difference" "difference" uu f fd)(F_without_noughts:FnF (CX1 P w) P w K mg base cv n "without_noughts" 1 (qy n)):FnOk P w K mg base (CX1 P w) (n+1) f fd ["ones","others"] (spD cv 2 (yq (n+1))):=
 jo M F Dw λcdv A outer s H E B=>
  (by (refine zf (NW 2 B.nd) ?_);(refine zf (n0 0 B.pw B.hc (kg 3 B.nd) (zr (Jh false 2 3 B.C rfl zg))) ?_);(refine zf (n0 1 B.pw B.hc (kg 3 B.nd) (zr (Jh true 2 3 B.C rfl zg))) ?_);exact zr (qf (zy F_without_noughts B.hr B.L (zb (zc 2) zh))))
abbrev xm:VW:=top 16
theorem AO:FnScope ["ones","others","terms","sizes","name","size","left"] ["ones","others"] (zx xm):=⟨rfl,rfl,rfl,by decide +kernel,rfl,by decide +kernel,by decide +kernel⟩
theorem A6(M:MF mg)(F:Fun K "parting_sizes" "parting_sizes" xm f fd)(F_with_size:FnF (CX1 P w) P w K mg base cv n "with_size" 3 (jf n))(F_difference:FnF (CX1 P w) P w K mg base cv n "difference" 2 (yq n))(KT_NAMES:KTup K mg "NAMES" (.tuple [.int 0,.int 1,.int 2,.int 3])):FnOk P w K mg base (CX1 P w) (n+1) f fd ["ones","others"] (spD cv 2 (ya (n+1))):=
 jo M F AO λcdv A outer s H E B=>
  (by (refine zf (qk 2 B.nd (zy F_difference B.hr B.L (zb (zc 0) (zb (zc 1) zh)))) ?_);(refine zf (qk 3 B.nd (ym zh)) ?_);(refine zf (mi B.pw B.hc (RU KT_NAMES) (kg 4 B.nd) (by (refine zf (qk 5 B.nd zg) ?_);(refine zf (qk 6 B.nd (zy F_with_size B.hr B.L (zb (zc 2) (zb (zc 4) (zb (zc 5) zh))))) ?_);(refine zf (Fx B.pw (yw B.C (QO B.C (zc 6)) zg) (by (refine zf (qk 5 B.nd (j7 (zc 5) zg)) ?_);exact zr (qk 6 B.nd (zy F_with_size B.hr B.L (zb (zc 2) (zb (zc 4) (zb (zc 5) zh))))))) ?_);(refine zf (RZ 2 6 B.nd) ?_);exact zr (om 3 (zc 5)))) ?_);exact zr (qf (B7 B.C (zc 3))))
abbrev pd:VW:=top 12
theorem L0:FnScope ["first","second","path","row","done","lefts","rights","here","others"] ["first","second","path","row"] (zx pd):=⟨rfl,rfl,rfl,by decide +kernel,rfl,by decide +kernel,by decide +kernel⟩
theorem Lj(M:MF mg)(F:Fun K "merged" "merged" pd f fd):FnOk P w K mg base (CX1 P w) (n+1) f fd ["first","second","path","row"] (spR cv 4 (j9 (n+1))):=
 az M F L0 λlend cdv A outer s H E B=>
  (by (refine zf (j8 (yw B.C (xq B.C (zc 0)) zg) (by (refine zf (yf 3 (qa (zb qd (zb (zc 2) zh)))) ?_);exact zr (dk 3 (Et B.C (zc 1)))) qu) ?_);(refine zf (j8 (yw B.C (xq B.C (zc 1)) zg) (by (refine zf (yf 3 (qa (zb qd (zb (zc 2) zh)))) ?_);(refine zf (yf 3 (qa (zb qd (zb (zc 2) zh)))) ?_);exact zr (dk 3 (Et B.C (zc 0)))) qu) ?_);(refine zf (qk 4 B.nd (ym zh)) ?_);(refine zf (qk 5 B.nd (Et B.C (zc 0))) ?_);(refine zf (qk 6 B.nd (Et B.C (zc 1))) ?_);(refine zf (qk 7 B.nd (zc 2)) ?_);(refine zf (Fx B.pw (L2.PW.pt (Dd (SC B.C (xq B.C (zc 5)) zg) (df (Qt B.C (qw (zc 6) zg) (qw (zc 5) zg))))) (zr (j8 (Qt B.C (qw (zc 6) zg) (qw (zc 5) zg)) (by (refine zf (yf 3 (qa (zb qd (zb (zc 7) zh)))) ?_);(refine zf (IX 8 5 B.nd) ?_);(refine zf (IX 5 6 B.nd) ?_);exact zr (IX 6 8 B.nd)) (by (refine zf (yf 3 (qa (zb qd (zb (zc 7) zh)))) ?_);(refine zf (NP 4 5) ?_);exact zr (qk 7 B.nd (j7 (zc 7) (qa (zb zg zh)))))))) ?_);exact zr (dk 3 (j7 (j7 (zc 4) (zc 5)) (zc 6))))
abbrev lz:VW:=top 11
theorem Je:FnScope ["tree","path","row","lefts","rights"] ["tree","path","row"] (zx lz):=⟨rfl,rfl,rfl,by decide +kernel,rfl,by decide +kernel,by decide +kernel⟩
theorem Iz(M:MF mg)(F:Fun K "in_line" "in_line" lz f fd)(F_merged:FnR (CX1 P w) P w K mg base cv n "merged" 4 (j9 n))(F_in_line:FnR (CX1 P w) P w K mg base cv n "in_line" 3 (vo n)):FnOk P w K mg base (CX1 P w) (n+1) f fd ["tree","path","row"] (spR cv 3 (vo (n+1))):=
 az M F Je λlend cdv A outer s H E B=>
  (by (refine zf (j8 (mh (ij B.C (zc 0))) (zr (dk 2 (ym (zb (zc 0) zh)))) qu) ?_);(refine zf (j8 (yw B.C (zc 0) (ym zh)) (zr (dk 2 (ym zh))) qu) ?_);(refine zf (uk 3 B.nd (qr F_in_line B.hr B.L (Qa 0 0 (aq (j7 (zc 1) (qa (zb zg zh))) (yh 2))))) ?_);(refine zf (uk 4 B.nd (qr F_in_line B.hr B.L (Qa 0 1 (aq (j7 (zc 1) (qa (zb zg zh))) (yh 2))))) ?_);exact zr (E5 (qr F_merged B.hr B.L (ua 3 (ua 4 (ua 1 (yh 2)))))))
abbrev br:VW:=top 3
theorem Fy:FnScope ["kind","word"] ["kind"] (zx br):=⟨rfl,rfl,rfl,by decide +kernel,rfl,by decide +kernel,by decide +kernel⟩
theorem EA(M:MF mg)(F:Fun K "is_barren" "is_barren" br f fd)(F_is_barren:FnF (CX1 P w) P w K mg base cv n "is_barren" 1 (ql n)):FnOk P w K mg base (CX1 P w) (n+1) f fd ["kind"] (spD cv 1 (ql (n+1))):=
 jo M F Fy λcdv A outer s H E B=>
  (by (refine zf (qk 1 B.nd (qw (zc 0) zg)) ?_);(refine zf (j8 (yw B.C (zc 1) qd) (zr (qf (JD (zy F_is_barren B.hr B.L (zb (qw (zc 0) zg) zh)) (GE (zy F_is_barren B.hr B.L (zb (qw (zc 0) zg) zh)))))) qu) ?_);(refine zf (j8 (yw B.C (zc 1) qd) (zr (qf (Uy (zy F_is_barren B.hr B.L (zb (qw (zc 0) zg) zh)) (GE (zy F_is_barren B.hr B.L (zb (qw (zc 0) zg) zh)))))) qu) ?_);exact zr (qf (Nt B.C (zc 1) qd)))
abbrev f7:VW:=top 6
theorem CI:FnScope ["kind","path","row"] ["kind","path","row"] (zx f7):=⟨rfl,rfl,rfl,by decide +kernel,rfl,by decide +kernel,by decide +kernel⟩
theorem C1(M:MF mg)(F:Fun K "barren_tree" "barren_tree" f7 f fd)(F_is_barren:FnF (CX1 P w) P w K mg base cv n "is_barren" 1 (ql n))(F_tree_of:FnR (CX1 P w) P w K mg base cv n "tree_of" 3 (m_tree_of n)):FnOk P w K mg base (CX1 P w) (n+1) f fd ["kind","path","row"] (spR cv 3 (ke (n+1))):=
 az M F CI λlend cdv A outer s H E B=>
  (by (refine zf (j8 (mh (zy F_is_barren B.hr B.L (zb (qw (zc 0) zg) zh))) (zr (FB (qr F_tree_of B.hr B.L (aq (qw (zc 0) zg) (aq (j7 (zc 1) (qa (zb zg zh))) (yh 2)))))) (by (refine zf (FB (qr F_tree_of B.hr B.L (aq (qw (zc 0) zg) (aq (j7 (zc 1) (qa (zb zg zh))) (yh 2))))) ?_);exact zr (yf 2 (qa (zb qd (zb (zc 1) zh)))))) ?_);(refine zf (yf 2 (qa (zb qd (zb (zc 1) zh)))) ?_);exact zr (dk 2 (ym zh)))
abbrev fj:VW:=top 10
theorem Cb:FnScope ["first","second","path","row","left","right"] ["first","second","path","row"] (zx fj):=⟨rfl,rfl,rfl,by decide +kernel,rfl,by decide +kernel,by decide +kernel⟩
theorem BU(M:MF mg)(F:Fun K "spread_tree" "spread_tree" fj f fd)(F_both_of_trees:FnR (CX1 P w) P w K mg base cv n "both_of_trees" 4 (m_both_of_trees n)):FnOk P w K mg base (CX1 P w) (n+1) f fd ["first","second","path","row"] (spR cv 4 (jk (n+1))):=
 az M F Cb λlend cdv A outer s H E B=>
  (by (refine zf (j8 (yw B.C (zc 0) (qa zh)) (by (refine zf (yf 3 (qa (zb qd (zb (zc 2) zh)))) ?_);exact zr (Ez 3 1)) qu) ?_);(refine zf (yf 3 (qa (zb qd (zb (zc 2) zh)))) ?_);(refine zf (uk 4 B.nd (qr F_both_of_trees B.hr B.L (ua 0 (Qa 1 0 (aq (j7 (zc 2) (qa (zb zg zh))) (yh 3)))))) ?_);(refine zf (uk 5 B.nd (qr F_both_of_trees B.hr B.L (ua 0 (Qa 1 1 (aq (j7 (zc 2) (qa (zb zg zh))) (yh 3)))))) ?_);exact zr (LR 3 4 5))
abbrev xn:VW:=top 9
theorem AE:FnScope ["first","second","path","row"] ["first","second","path","row"] (zx xn):=⟨rfl,rfl,rfl,by decide +kernel,rfl,by decide +kernel,by decide +kernel⟩
theorem AX(M:MF mg)(F:Fun K "both_of_trees" "both_of_trees" xn f fd)(F_merged:FnR (CX1 P w) P w K mg base cv n "merged" 4 (j9 n))(F_spread_tree:FnR (CX1 P w) P w K mg base cv n "spread_tree" 4 (jk n)):FnOk P w K mg base (CX1 P w) (n+1) f fd ["first","second","path","row"] (spR cv 4 (m_both_of_trees (n+1))):=
 az M F AE λlend cdv A outer s H E B=>
  (by (refine zf (j8 (mh (CJ B.C (zc 0))) (by (refine zf (yf 3 (qa (zb qd (zb (zc 2) zh)))) ?_);exact zr (E5 (qr F_spread_tree B.hr B.L (ua 1 (ua 0 (ua 2 (yh 3))))))) qu) ?_);(refine zf (j8 (mh (CJ B.C (zc 1))) (zr (E5 (qr F_spread_tree B.hr B.L (ua 0 (ua 1 (ua 2 (yh 3))))))) qu) ?_);exact zr (Ph B.C (qr F_merged B.hr B.L (ua 0 (ua 1 (ua 2 (yh 3)))))))
abbrev vt:VW:=top 8
theorem sj:FnScope ["kind","path","row","firsts","seconds"] ["kind","path","row"] (zx vt):=⟨rfl,rfl,rfl,by decide +kernel,rfl,by decide +kernel,by decide +kernel⟩
theorem sq(M:MF mg)(F:Fun K "factors_in_line" "factors_in_line" vt f fd)(F_merged:FnR (CX1 P w) P w K mg base cv n "merged" 4 (j9 n))(F_factors_in_line:FnR (CX1 P w) P w K mg base cv n "factors_in_line" 3 (qm n)):FnOk P w K mg base (CX1 P w) (n+1) f fd ["kind","path","row"] (spR cv 3 (qm (n+1))):=
 az M F sj λlend cdv A outer s H E B=>
  (by (refine zf (j8 (Az B.C (qw (zc 0) zg) qd) (zr (dk 2 (ym (zb (zc 0) zh)))) qu) ?_);(refine zf (uk 3 B.nd (qr F_factors_in_line B.hr B.L (aq (qw (zc 0) zg) (aq (j7 (zc 1) (qa (zb zg zh))) (yh 2))))) ?_);(refine zf (uk 4 B.nd (qr F_factors_in_line B.hr B.L (aq (qw (zc 0) zg) (aq (j7 (zc 1) (qa (zb zg zh))) (yh 2))))) ?_);exact zr (E5 (qr F_merged B.hr B.L (ua 3 (ua 4 (ua 1 (yh 2)))))))
abbrev gq:VW:=top 7
theorem B1:FnScope ["kind","path","row","factors","last","tree","place","here","first"] ["kind","path","row"] (zx gq):=⟨rfl,rfl,rfl,by decide +kernel,rfl,by decide +kernel,by decide +kernel⟩
theorem Bs(M:MF mg)(F:Fun K "product_tree" "product_tree" gq f fd)(F_both_of_trees:FnR (CX1 P w) P w K mg base cv n "both_of_trees" 4 (m_both_of_trees n))(F_tree_of:FnR (CX1 P w) P w K mg base cv n "tree_of" 3 (m_tree_of n))(F_factors_in_line:FnR (CX1 P w) P w K mg base cv n "factors_in_line" 3 (qm n)):FnOk P w K mg base (CX1 P w) (n+1) f fd ["kind","path","row"] (spR cv 3 (vk (n+1))):=
 az M F B1 λlend cdv A outer s H E B=>
  (by (refine zf (uk 3 B.nd (qr F_factors_in_line B.hr B.L (ua 0 (ua 1 (yh 2))))) ?_);(refine zf (qk 4 B.nd (G5 (xq B.C (zc 3)) zg)) ?_);(refine zf (uk 5 B.nd (qr F_tree_of B.hr B.L (aq (qw (zc 3) (zc 4)) (aq (j7 (zc 1) (Nq (qa (zb zg zh)) (zc 4))) (yh 2))))) ?_);(refine zf (mi B.pw B.hc (QC B.C (G5 (zc 4) zg)) (kg 6 B.nd) (by (refine zf (qk 7 B.nd (j7 (zc 1) (Nq (qa (zb zg zh)) (zc 6)))) ?_);(refine zf (uk 8 B.nd (qr F_tree_of B.hr B.L (aq (qw (zc 3) (zc 6)) (aq (j7 (zc 7) (qa (zb zg zh))) (yh 2))))) ?_);exact zr (uk 5 B.nd (qr F_both_of_trees B.hr B.L (ua 8 (ua 5 (ua 7 (yh 2)))))))) ?_);exact zr (Ez 2 5))
abbrev i5:VW:=top 5
theorem Iq:FnScope ["kind","path","row","word","first","second"] ["kind","path","row"] (zx i5):=⟨rfl,rfl,rfl,by decide +kernel,rfl,by decide +kernel,by decide +kernel⟩
theorem Im(M:MF mg)(F:Fun K "tree_of" "tree_of" i5 f fd)(F_tree_of:FnR (CX1 P w) P w K mg base cv n "tree_of" 3 (m_tree_of n))(F_is_barren:FnF (CX1 P w) P w K mg base cv n "is_barren" 1 (ql n))(F_barren_tree:FnR (CX1 P w) P w K mg base cv n "barren_tree" 3 (ke n))(F_product_tree:FnR (CX1 P w) P w K mg base cv n "product_tree" 3 (vk n)):FnOk P w K mg base (CX1 P w) (n+1) f fd ["kind","path","row"] (spR cv 3 (m_tree_of (n+1))):=
 az M F Iq λlend cdv A outer s H E B=>
  (by (refine zf (qk 3 B.nd (qw (zc 0) zg)) ?_);(refine zf (j8 (yw B.C (zc 3) qd) (zr (dk 2 (ym zh))) qu) ?_);(refine zf (j8 (yw B.C (zc 3) qd) (zr (dk 2 (qa zh))) qu) ?_);(refine zf (j8 (yw B.C (zc 3) qd) (zr (dk 2 (qa (zb (qw (zc 0) zg) zh)))) qu) ?_);(refine zf (j8 (yw B.C (zc 3) qd) (zr (M0 (mh (zy F_is_barren B.hr B.L (zb (zc 0) zh))) (qr F_barren_tree B.hr B.L (ua 0 (ua 1 (yh 2)))) (qr F_product_tree B.hr B.L (ua 0 (ua 1 (yh 2)))))) qu) ?_);(refine zf (uk 4 B.nd (qr F_tree_of B.hr B.L (aq (qw (zc 0) zg) (aq (j7 (zc 1) (qa (zb zg zh))) (yh 2))))) ?_);(refine zf (uk 5 B.nd (qr F_tree_of B.hr B.L (aq (qw (zc 0) zg) (aq (j7 (zc 1) (qa (zb zg zh))) (yh 2))))) ?_);(refine zf (j8 (yw B.C (zc 4) (ym zh)) (by (refine zf (yf 2 (qa (zb qd (zb (zc 1) zh)))) ?_);exact zr (Ez 2 5)) qu) ?_);(refine zf (j8 (yw B.C (zc 5) (ym zh)) (by (refine zf (yf 2 (qa (zb qd (zb (zc 1) zh)))) ?_);(refine zf (yf 2 (qa (zb qd (zb (zc 1) zh)))) ?_);exact zr (Ez 2 4)) qu) ?_);exact zr (LR 2 4 5))
abbrev gn:VW:=top 4
theorem Br:FnScope ["kind","row","tree"] ["kind"] (zx gn):=⟨rfl,rfl,rfl,by decide +kernel,rfl,by decide +kernel,by decide +kernel⟩
theorem Bv(M:MF mg)(F:Fun K "row_to_plain" "row_to_plain" gn f fd)(F_in_line:FnR (CX1 P w) P w K mg base cv n "in_line" 3 (vo n))(F_tree_of:FnR (CX1 P w) P w K mg base cv n "tree_of" 3 (m_tree_of n)):FnOk P w K mg base (CX1 P w) (n+1) f fd ["kind"] (spD cv 1 (ji (n+1))):=
 jo M F Br λcdv A outer s H E B=>
  (by (refine zf (qk 1 B.nd (ym zh)) ?_);(refine zf (uk 2 B.nd (qr F_tree_of B.hr B.L (ua 0 (aq (qa zh) (yh 1))))) ?_);(refine zf (FB (qr F_in_line B.hr B.L (ua 2 (aq (qa zh) (yh 1))))) ?_);exact zr (qf (zc 1)))
abbrev cw:VW:=top 2
theorem Gx:FnScope ["kind","word","firsts","seconds","found","first"] ["kind"] (zx cw):=⟨rfl,rfl,rfl,by decide +kernel,rfl,by decide +kernel,by decide +kernel⟩
theorem HS(M:MF mg)(F:Fun K "gathered" "gathered" cw f fd)(F_gathered:FnF (CX1 P w) P w K mg base cv n "gathered" 1 (jr n))(F_is_barren:FnF (CX1 P w) P w K mg base cv n "is_barren" 1 (ql n))(N_sorted:mg "sorted" =UA):FnOk P w K mg base (CX1 P w) (n+1) f fd ["kind"] (spD cv 1 (jr (n+1))):=
 jo M F Gx λcdv A outer s H E B=>
  (by (refine zf (qk 1 B.nd (qw (zc 0) zg)) ?_);(refine zf (j8 (yw B.C (zc 1) qd) (zr (qf (ym zh))) qu) ?_);(refine zf (j8 (yw B.C (zc 1) qd) (zr (qf (ym (zb (qa zh) zh)))) qu) ?_);(refine zf (j8 (yw B.C (zc 1) qd) (zr (qf (ym (zb (qa (zb (qw (zc 0) zg) zh)) zh)))) qu) ?_);(refine zf (j8 (yw B.C (zc 1) qd) (zr (qf (j7 (zy F_gathered B.hr B.L (zb (qw (zc 0) zg) zh)) (zy F_gathered B.hr B.L (zb (qw (zc 0) zg) zh))))) qu) ?_);(refine zf (j8 (mh (zy F_is_barren B.hr B.L (zb (zc 0) zh))) (zr (qf (ym zh))) qu) ?_);(refine zf (qk 2 B.nd (zy F_gathered B.hr B.L (zb (qw (zc 0) zg) zh))) ?_);(refine zf (qk 3 B.nd (zy F_gathered B.hr B.L (zb (qw (zc 0) zg) zh))) ?_);(refine zf (qk 4 B.nd (ym zh)) ?_);(refine zf (n0 2 B.pw B.hc (kg 5 B.nd) (zr (GZ 4 (QE (fr:=["first"]) B.C B.hr B.hc (CG (zc 3)) (λcl Ca s2 H2 fp B=>(B7 B.C (nh B.C N_sorted (j7 (zc 1) (zc 0))))))))) ?_);exact zr (qf (zc 4)))
abbrev ir:VW:=top 1
theorem I9:FnScope ["kind"] ["kind"] (zx ir):=⟨rfl,rfl,rfl,by decide +kernel,rfl,by decide +kernel,by decide +kernel⟩
theorem IB(M:MF mg)(F:Fun K "bundles" "bundles" ir f fd)(F_gathered:FnF (CX1 P w) P w K mg base cv n "gathered" 1 (jr n))(N_sorted:mg "sorted" =UA):FnOk P w K mg base (CX1 P w) (n+1) f fd ["kind"] (spD cv 1 (wm (n+1))):=
 jo M F I9 λcdv A outer s H E B=>
  (zr (qf (nh B.C N_sorted (zy F_gathered B.hr B.L (zb (zc 0) zh)))))
abbrev o6:VW:=top 15
theorem Lm:FnScope ["one","other","ones","others"] ["one","other"] (zx o6):=⟨rfl,rfl,rfl,by decide +kernel,rfl,by decide +kernel,by decide +kernel⟩
theorem L6(M:MF mg)(F:Fun K "judged" "judged" o6 f fd)(F_parting_sizes:FnF (CX1 P w) P w K mg base cv n "parting_sizes" 2 (ya n))(F_row_to_plain:FnF (CX1 P w) P w K mg base cv n "row_to_plain" 1 (ji n))(F_bundles:FnF (CX1 P w) P w K mg base cv n "bundles" 1 (wm n)):FnOk P w K mg base (CX1 P w) (n+1) f fd ["one","other"] (spD cv 2 (vm (n+1))):=
 jo M F Lm λcdv A outer s H E B=>
  (by (refine zf (qk 2 B.nd (zy F_bundles B.hr B.L (zb (zc 0) zh))) ?_);(refine zf (qk 3 B.nd (zy F_bundles B.hr B.L (zb (zc 1) zh))) ?_);(refine zf (j8 (yw B.C (zc 2) (zc 3)) (zr (qf (TC qd (zy F_row_to_plain B.hr B.L (zb (zc 0) zh)) (zy F_row_to_plain B.hr B.L (zb (zc 1) zh))))) qu) ?_);exact zr (qf (qa (zb qd (zb (zy F_parting_sizes B.hr B.L (zb (zc 2) (zb (zc 3) zh))) zh)))))
abbrev bw:VW:=top 37
theorem EE:FnScope ["rows","kinds","names","kind","at","name","found"] ["rows"] (zx bw):=⟨rfl,rfl,rfl,by decide +kernel,rfl,by decide +kernel,by decide +kernel⟩
theorem Fn(M:MF mg)(F:Fun K "_law_plain" "_law_plain" bw f fd):FnOk P w K mg base (CX1 P w) (n+1) f fd ["rows"] (spD cv 1 (y9 (n+1))):=
 jo M F EE λcdv A outer s H E B=>
  (by (refine zf (qk 1 B.nd (ym zh)) ?_);(refine zf (n0 0 B.pw B.hc (kg 2 B.nd) (by (refine zf (qk 3 B.nd (qa (zb qd zh))) ?_);(refine zf (mi B.pw B.hc (NF B.C.menum (CP B.C B.hc (zc 2))) (Df 4 5 B.hc B.nd) (zr (qk 3 B.nd (Qi (yw B.C (zc 4) zg) (qa (zb qd (zb (zc 5) zh))) (qa (zb qd (zb (qa (zb qd (zb (zc 5) zh))) (zb (zc 3) zh)))))))) ?_);exact zr (om 1 (zc 3)))) ?_);(refine zf (qk 6 B.nd (qa (zb qd zh))) ?_);(refine zf (mi B.pw B.hc (NF B.C.menum (CP B.C B.hc (zc 1))) (Df 4 3 B.hc B.nd) (zr (qk 6 B.nd (Qi (yw B.C (zc 4) zg) (zc 3) (qa (zb qd (zb (zc 3) (zb (zc 6) zh)))))))) ?_);exact zr (qf (zc 6)))
abbrev bh:VW:=top 40
theorem F3:FnScope ["one","other","found","end","many","again","size"] ["one","other"] (zx bh):=⟨rfl,rfl,rfl,by decide +kernel,rfl,by decide +kernel,by decide +kernel⟩
theorem ER(M:MF mg)(F:Fun K "_law_right" "_law_right" bh f fd)(F_law_count:FnF (CX1 P w) P w K mg base cv n "_law_count" 2 (jq n))(F_law_whole:FnF (CX1 P w) P w K mg base cv n "_law_whole" 1 (w6 n))(F_law_bundles:FnF (CX1 P w) P w K mg base cv n "_law_bundles" 1 (z8 n))(F_law_gone:FnF (CX1 P w) P w K mg base cv n "_law_gone" 2 (vc n))(F_judged:FnF (CX1 P w) P w K mg base cv n "judged" 2 (vm n))(F_law_plain:FnF (CX1 P w) P w K mg base cv n "_law_plain" 1 (y9 n)):FnOk P w K mg base (CX1 P w) (n+1) f fd ["one","other"] (spD cv 2 (w8 (n+1))):=
 jo M F F3 λcdv A outer s H E B=>
  (by (refine zf (N3 2 B.nd (zy F_judged B.hr B.L (zb (zc 0) (zb (zc 1) zh)))) ?_);(refine zf (j8 (L2.PW.pt (Dd (Ct (mh (ij B.C (zc 2)))) (df (FX B.C (xq B.C (zc 2)) zg)))) (zr (qf KQ)) qu) ?_);(refine zf (j8 (yw B.C (zy F_law_bundles B.hr B.L (zb (zc 0) zh)) (zy F_law_bundles B.hr B.L (zb (zc 1) zh))) (by (refine zf (j8 (L2.PW.pt (Dd (Az B.C (qw (zc 2) zg) qd) (df (Az B.C (xq B.C (zc 2)) zg)))) (zr (qf KQ)) qu) ?_);(refine zf (qk 3 B.nd (zy F_law_plain B.hr B.L (zb (zy F_law_bundles B.hr B.L (zb (zc 0) zh)) zh))) ?_);(refine zf (j8 (L2.PW.pt (Dd (Az B.C (zy F_law_gone B.hr B.L (zb (zc 0) (zb (qw (zc 2) zg) zh))) (zc 3)) (df (Az B.C (zy F_law_gone B.hr B.L (zb (zc 1) (zb (qw (zc 2) zg) zh))) (zc 3))))) (zr (qf KQ)) qu) ?_);(refine zf (qk 4 B.nd (xq B.C (qw (zc 2) zg))) ?_);(refine zf (GY true 2 rfl (qa (zb qd (zb (qa zh) zh)))) ?_);(refine zf (j8 (Az B.C (xq B.C (qw (zc 2) zg)) (zc 4)) (zr (qf KQ)) qu) ?_);(refine zf (GY false 2 rfl (qa (zb qd (zb (qa zh) zh)))) ?_);(refine zf (N3 5 B.nd (zy F_judged B.hr B.L (zb (zc 0) (zb (zc 1) zh)))) ?_);exact zr (qf (JD (Nt B.C (zy F_law_gone B.hr B.L (zb (zc 0) (zb (qw (zc 5) zg) zh))) (zc 3)) (GE (Nt B.C (zy F_law_gone B.hr B.L (zb (zc 1) (zb (qw (zc 5) zg) zh))) (zc 3)))))) qu) ?_);(refine zf (j8 (L2.PW.pt (Dd (Az B.C (qw (zc 2) zg) qd) (Dd (Az B.C (xq B.C (zc 2)) zg) (Dd (Ct (mh (ij B.C (qw (zc 2) zg)))) (df (Az B.C (xq B.C (qw (zc 2) zg)) zg)))))) (zr (qf KQ)) qu) ?_);(refine zf (mi B.pw B.hc (CG (qw (zc 2) zg)) (kg 6 B.nd) (zr (j8 (L2.PW.pt (Dd (Ct (mh (zy F_law_whole B.hr B.L (zb (zc 6) zh)))) (df (Ct (P7 Tt Tt zg (zc 6) zg))))) (zr (qf KQ)) qu))) ?_);exact zr (qf (TM B.C (zy F_law_count B.hr B.L (zb (zc 0) (zb (qw (zc 2) zg) zh))) (zy F_law_count B.hr B.L (zb (zc 1) (zb (qw (zc 2) zg) zh))))))
abbrev cj:VW:=top 21
theorem FW:FnScope ["cell","found","factor","mixed"] ["cell"] (zx cj):=⟨rfl,rfl,rfl,by decide +kernel,rfl,by decide +kernel,by decide +kernel⟩
theorem HF(M:MF mg)(F:Fun K "_law_stir" "_law_stir" cj f fd):FnOk P w K mg base (CX1 P w) (n+1) f fd ["cell"] (spD cv 1 (uj (n+1))):=
 jo M F FW λcdv A outer s H E B=>
  (by (refine zf (qk 1 B.nd zg) ?_);(refine zf (mi B.pw B.hc (CG (ym (zb zg (zb zg (zb zg (zb zg zh)))))) (kg 2 B.nd) (by (refine zf (qk 3 B.nd (uc (j7 (fu (zc 0) (zc 2)) zg) zg)) ?_);(refine zf (qk 3 B.nd (uc (fu (uc (fu (zc 3) (zc 3)) zg) zg) zg)) ?_);exact zr (qk 1 B.nd (j7 (fu (zc 1) (SF zg zg)) (J6 (zc 3) zg))))) ?_);exact zr (qf (zc 1)))
abbrev de:VW:=top 22
theorem G2:FnScope ["script","k"] ["script","k"] (zx de):=⟨rfl,rfl,rfl,by decide +kernel,rfl,by decide +kernel,by decide +kernel⟩
theorem HK(M:MF mg)(F:Fun K "_law_cell" "_law_cell" de f fd)(F_law_stir:FnF (CX1 P w) P w K mg base cv n "_law_stir" 1 (uj n)):FnOk P w K mg base (CX1 P w) (n+1) f fd ["script","k"] (spD cv 2 (z7 (n+1))):=
 jo M F G2 λcdv A outer s H E B=>
  (by (refine zf (j8 (FX B.C (zc 1) (xq B.C (zc 0))) (zr (qf (zy F_law_stir B.hr B.L (zb (qw (zc 0) (zc 1)) zh)))) qu) ?_);exact zr (qf (zy F_law_stir B.hr B.L (zb zg zh))))
abbrev cz:VW:=top 38
theorem Gc:FnScope ["kind","many","found","k"] ["kind","many"] (zx cz):=⟨rfl,rfl,rfl,by decide +kernel,rfl,by decide +kernel,by decide +kernel⟩
theorem GJ(M:MF mg)(F:Fun K "_law_some" "_law_some" cz f fd):FnOk P w K mg base (CX1 P w) (n+1) f fd ["kind","many"] (spD cv 2 (v8 (n+1))):=
 jo M F Gc λcdv A outer s H E B=>
  (by (refine zf (qk 2 B.nd (zc 0)) ?_);(refine zf (mi B.pw B.hc (QD B.C (G5 (zc 1) zg)) (kg 3 B.nd) (zr (qk 2 B.nd (qa (zb qd (zb (zc 0) (zb (zc 2) zh))))))) ?_);exact zr (qf (zc 2)))
abbrev i3:VW:=top 39
theorem Jb:FnScope ["name","square","one"] ["name"] (zx i3):=⟨rfl,rfl,rfl,by decide +kernel,rfl,by decide +kernel,by decide +kernel⟩
theorem Jp(M:MF mg)(F:Fun K "_law_far" "_law_far" i3 f fd)(F_law_some:FnF (CX1 P w) P w K mg base cv n "_law_some" 2 (v8 n)):FnOk P w K mg base (CX1 P w) (n+1) f fd ["name"] (spD cv 1 (vp (n+1))):=
 jo M F Jb λcdv A outer s H E B=>
  (by (refine zf (qk 1 B.nd (qa (zb qd (zb (zc 0) (zb (zc 0) zh))))) ?_);(refine zf (qk 2 B.nd (qa (zb qd (zb (zc 1) (zb (qa (zb qd (zb (zc 1) (zb (zy F_law_some B.hr B.L (zb (qa (zb qd zh)) (zb zg zh))) zh)))) zh))))) ?_);exact zr (qf (qa (zb (zc 2) (zb (qa (zb qd (zb (zy F_law_some B.hr B.L (zb (zc 0) (zb zg zh))) (zb (qa (zb qd (zb (zc 1) (zb (qa (zb qd zh)) zh)))) zh)))) zh)))))
abbrev ax:VW:=top 24
theorem Gf:FnScope ["cell","k","bound","stir"] ["cell","k","bound"] (zx ax):=⟨rfl,rfl,rfl,by decide +kernel,rfl,by decide +kernel,by decide +kernel⟩
theorem Hb(M:MF mg)(F:Fun K "_law_draw" "_law_draw" ax f fd):FnOk P w K mg base (CX1 P w) (n+1) f fd ["cell","k","bound"] (spD cv 3 (xf (n+1))):=
 jo M F Gf λcdv A outer s H E B=>
  (by (refine zf (qk 3 B.nd (uc (j7 (j7 (uc (zc 0) zg) zg) (fu (zc 1) zg)) zg)) ?_);(refine zf (qk 3 B.nd (uc (fu (uc (fu (zc 3) (zc 3)) zg) zg) zg)) ?_);(refine zf (qk 3 B.nd (uc (fu (uc (fu (zc 3) (zc 3)) zg) zg) zg)) ?_);exact zr (qf (uc (J6 (zc 3) zg) (zc 2))))
abbrev aw:VW:=top 25
theorem HM:FnScope ["cell","leaves","k","which","left","word"] ["cell","leaves","k"] (zx aw):=⟨rfl,rfl,rfl,by decide +kernel,rfl,by decide +kernel,by decide +kernel⟩
theorem HP(M:MF mg)(F:Fun K "_law_kind" "_law_kind" aw f fd)(F_law_kind:FnF (CX1 P w) P w K mg base cv n "_law_kind" 3 (jj n))(F_law_draw:FnF (CX1 P w) P w K mg base cv n "_law_draw" 3 (xf n)):FnOk P w K mg base (CX1 P w) (n+1) f fd ["cell","leaves","k"] (spD cv 3 (jj (n+1))):=
 jo M F HM λcdv A outer s H E B=>
  (by (refine zf (j8 (FX B.C (zc 1) zg) (by (refine zf (qk 3 B.nd (zy F_law_draw B.hr B.L (zb (zc 0) (zb (fu zg (zc 2)) (zb zg zh))))) ?_);(refine zf (j8 (yw B.C (zc 3) zg) (zr (qf (qa (zb qd zh)))) qu) ?_);(refine zf (j8 (FX B.C (zc 3) zg) (zr (qf (qa (zb qd zh)))) qu) ?_);exact zr (qf (qa (zb qd (zb (uc (zc 3) zg) zh))))) qu) ?_);(refine zf (qk 4 B.nd (j7 zg (zy F_law_draw B.hr B.L (zb (zc 0) (zb (j7 (fu zg (zc 2)) zg) (zb (G5 (zc 1) zg) zh)))))) ?_);(refine zf (qk 5 B.nd (qw (ym (zb qd (zb qd zh))) (zy F_law_draw B.hr B.L (zb (zc 0) (zb (j7 (fu zg (zc 2)) zg) (zb zg zh)))))) ?_);exact zr (qf (qa (zb (zc 5) (zb (zy F_law_kind B.hr B.L (zb (zc 0) (zb (zc 4) (zb (fu zg (zc 2)) zh)))) (zb (zy F_law_kind B.hr B.L (zb (zc 0) (zb (G5 (zc 1) (zc 4)) (zb (j7 (fu zg (zc 2)) zg) zh)))) zh))))))
abbrev uz:VW:=top 35
theorem Dt:FnScope ["kind","cell","k"] ["kind","cell","k"] (zx uz):=⟨rfl,rfl,rfl,by decide +kernel,rfl,by decide +kernel,by decide +kernel⟩
theorem Dk(M:MF mg)(F:Fun K "_law_leafed" "_law_leafed" uz f fd)(F_law_leafed:FnF (CX1 P w) P w K mg base cv n "_law_leafed" 3 (j6 n))(F_law_draw:FnF (CX1 P w) P w K mg base cv n "_law_draw" 3 (xf n)):FnOk P w K mg base (CX1 P w) (n+1) f fd ["kind","cell","k"] (spD cv 3 (j6 (n+1))):=
 jo M F Dt λcdv A outer s H E B=>
  (by (refine zf (j8 (FX B.C (xq B.C (zc 0)) zg) (by (refine zf (j8 (yw B.C (zy F_law_draw B.hr B.L (zb (zc 1) (zb (zc 2) (zb zg zh)))) zg) (zr (qf (qw (ym (zb (qa (zb qd zh)) (zb (qa (zb qd (zb (zy F_law_draw B.hr B.L (zb (zc 1) (zb (j7 (zc 2) zg) (zb zg zh)))) zh))) zh))) (zy F_law_draw B.hr B.L (zb (zc 1) (zb (j7 (zc 2) zg) (zb zg zh))))))) qu) ?_);exact zr (qf (zc 0))) qu) ?_);exact zr (qf (qa (zb (qw (zc 0) zg) (zb (zy F_law_leafed B.hr B.L (zb (qw (zc 0) zg) (zb (zc 1) (zb (fu zg (zc 2)) zh)))) (zb (zy F_law_leafed B.hr B.L (zb (qw (zc 0) zg) (zb (zc 1) (zb (j7 (fu zg (zc 2)) zg) zh)))) zh))))))
abbrev cg:VW:=top 28
theorem Hy:FnScope ["kind","path","side"] ["kind","path"] (zx cg):=⟨rfl,rfl,rfl,by decide +kernel,rfl,by decide +kernel,by decide +kernel⟩
theorem Hq(M:MF mg)(F:Fun K "_law_part" "_law_part" cg f fd):FnOk P w K mg base (CX1 P w) (n+1) f fd ["kind","path"] (spD cv 2 (j0 (n+1))):=
 jo M F Hy λcdv A outer s H E B=>
  (by (refine zf (n0 1 B.pw B.hc (kg 2 B.nd) (zr (qk 0 B.nd (qw (zc 0) (j7 zg (zc 2)))))) ?_);exact zr (qf (zc 0)))
abbrev bu:VW:=top 27
theorem F0:FnScope ["kind","found","waiting","path"] ["kind"] (zx bu):=⟨rfl,rfl,rfl,by decide +kernel,rfl,by decide +kernel,by decide +kernel⟩
theorem E3(M:MF mg)(F:Fun K "_law_paths" "_law_paths" bu f fd)(F_law_part:FnF (CX1 P w) P w K mg base cv n "_law_part" 2 (j0 n)):FnOk P w K mg base (CX1 P w) (n+1) f fd ["kind"] (spD cv 1 (qt (n+1))):=
 jo M F F0 λcdv A outer s H E B=>
  (by (refine zf (qk 1 B.nd (ym zh)) ?_);(refine zf (qk 2 B.nd (ym (zb (qa zh) zh))) ?_);(refine zf (Fx B.pw (Az B.C (zc 2) (ym zh)) (by (refine zf (S7 3 2 B.nd) ?_);(refine zf (om 1 (zc 3)) ?_);exact zr (j8 (yw B.C (xq B.C (zy F_law_part B.hr B.L (zb (zc 0) (zb (zc 3) zh)))) zg) (zr (GZ 2 (ym (zb (j7 (zc 3) (qa (zb zg zh))) (zb (j7 (zc 3) (qa (zb zg zh))) zh))))) qu))) ?_);exact zr (qf (zc 1)))
abbrev uy:VW:=top 31
theorem Dm:FnScope ["kind","word","path","piece"] ["kind","word","path"] (zx uy):=⟨rfl,rfl,rfl,by decide +kernel,rfl,by decide +kernel,by decide +kernel⟩
theorem Dj(M:MF mg)(F:Fun K "_law_turned" "_law_turned" uy f fd)(F_law_put:FnF (CX1 P w) P w K mg base cv n "_law_put" 3 (j3 n))(F_law_here:FnF (CX1 P w) P w K mg base cv n "_law_here" 2 (jm n))(F_law_part:FnF (CX1 P w) P w K mg base cv n "_law_part" 2 (j0 n))(F_law_paths:FnF (CX1 P w) P w K mg base cv n "_law_paths" 1 (qt n)):FnOk P w K mg base (CX1 P w) (n+1) f fd ["kind","word","path"] (spD cv 3 (wd (n+1))):=
 jo M F Dm λcdv A outer s H E B=>
  (by (refine zf (j8 (J3 B.C (zc 2) (zy F_law_paths B.hr B.L (zb (zc 0) zh))) (zr (qf n5)) qu) ?_);(refine zf (qk 3 B.nd (zy F_law_here B.hr B.L (zb (zy F_law_part B.hr B.L (zb (zc 0) (zb (zc 2) zh))) (zb (zc 1) zh)))) ?_);(refine zf (j8 (Q4 B.C (zc 3) n5) (zr (qf n5)) qu) ?_);exact zr (qf (zy F_law_put B.hr B.L (zb (zc 0) (zb (zc 2) (zb (zc 3) zh))))))
abbrev ve:VW:=top 32
theorem p8:FnScope ["kind","found","path","word"] ["kind"] (zx ve):=⟨rfl,rfl,rfl,by decide +kernel,rfl,by decide +kernel,by decide +kernel⟩
theorem p6(M:MF mg)(F:Fun K "_law_all_turnings" "_law_all_turnings" ve f fd)(F_law_here:FnF (CX1 P w) P w K mg base cv n "_law_here" 2 (jm n))(F_law_part:FnF (CX1 P w) P w K mg base cv n "_law_part" 2 (j0 n))(F_law_paths:FnF (CX1 P w) P w K mg base cv n "_law_paths" 1 (qt n)):FnOk P w K mg base (CX1 P w) (n+1) f fd ["kind"] (spD cv 1 (qp (n+1))):=
 jo M F p8 λcdv A outer s H E B=>
  (by (refine zf (qk 1 B.nd (ym zh)) ?_);(refine zf (mi B.pw B.hc (CG (zy F_law_paths B.hr B.L (zb (zc 0) zh))) (kg 2 B.nd) (zr (mi B.pw B.hc (CG (ym (zb qd (zb qd (zb qd (zb qd zh)))))) (kg 3 B.nd) (zr (j8 (QA B.C (zy F_law_here B.hr B.L (zb (zy F_law_part B.hr B.L (zb (zc 0) (zb (zc 2) zh))) (zb (zc 3) zh))) n5) (zr (om 1 (qa (zb (zc 3) (zb (zc 2) zh))))) qu))))) ?_);exact zr (qf (zc 1)))
abbrev bt:VW:=top 34
theorem FG:FnScope ["script","first","kind","k","some","word","path"] ["script","first","kind"] (zx bt):=⟨rfl,rfl,rfl,by decide +kernel,rfl,by decide +kernel,by decide +kernel⟩
theorem EK(M:MF mg)(F:Fun K "_law_other" "_law_other" bt f fd)(F_law_paths:FnF (CX1 P w) P w K mg base cv n "_law_paths" 1 (qt n))(F_law_turned:FnF (CX1 P w) P w K mg base cv n "_law_turned" 3 (wd n))(F_law_cell:FnF (CX1 P w) P w K mg base cv n "_law_cell" 2 (z7 n))(F_law_all_turnings:FnF (CX1 P w) P w K mg base cv n "_law_all_turnings" 1 (qp n)):FnOk P w K mg base (CX1 P w) (n+1) f fd ["script","first","kind"] (spD cv 3 (w4 (n+1))):=
 jo M F FG λcdv A outer s H E B=>
  (by (refine zf (mi B.pw B.hc (QD B.C (uc (zy F_law_cell B.hr B.L (zb (zc 0) (zb (zc 1) zh))) zg)) (kg 3 B.nd) (by (refine zf (qk 4 B.nd (zy F_law_all_turnings B.hr B.L (zb (zc 2) zh))) ?_);exact zr (j8 (L2.PW.pt (Cc (Az B.C (zc 4) (ym zh)) (ny (FX B.C (xq B.C (zy F_law_paths B.hr B.L (zb (zc 2) zh))) zg)))) (by (refine zf (GH (Df 5 6 B.hc B.nd) (qw (zc 4) (uc (zy F_law_cell B.hr B.L (zb (zc 0) (zb (j7 (j7 (zc 1) zg) (zc 3)) zh))) (xq B.C (zc 4))))) ?_);exact zr (qk 2 B.nd (zy F_law_turned B.hr B.L (zb (zc 2) (zb (zc 5) (zb (zc 6) zh)))))) qu))) ?_);exact zr (qf (zc 2)))
abbrev mq:VW:=top 41
theorem Ro:FnScope ["script","one","other","mode"] ["script"] (zx mq):=⟨rfl,rfl,rfl,by decide +kernel,rfl,by decide +kernel,by decide +kernel⟩
theorem Nb(M:MF mg)(F:Fun K "law" "law" mq f fd)(F_law_right:FnF (CX1 P w) P w K mg base cv n "_law_right" 2 (w8 n))(F_law_cell:FnF (CX1 P w) P w K mg base cv n "_law_cell" 2 (z7 n))(F_law_far:FnF (CX1 P w) P w K mg base cv n "_law_far" 1 (vp n))(F_law_kind:FnF (CX1 P w) P w K mg base cv n "_law_kind" 3 (jj n))(F_law_leafed:FnF (CX1 P w) P w K mg base cv n "_law_leafed" 3 (j6 n))(F_law_other:FnF (CX1 P w) P w K mg base cv n "_law_other" 3 (w4 n)):FnOk P w K mg base (CX1 P w) (n+1) f fd ["script"] (spD cv 1 (Er (n+1))):=
 jo M F Ro λcdv A outer s H E B=>
  (by (refine zf (qk 1 B.nd (zy F_law_kind B.hr B.L (zb (zy F_law_cell B.hr B.L (zb (zc 0) (zb zg zh))) (zb (j7 zg (uc (zy F_law_cell B.hr B.L (zb (zc 0) (zb zg zh))) zg)) (zb zg zh))))) ?_);(refine zf (qk 2 B.nd (zy F_law_other B.hr B.L (zb (zc 0) (zb zg (zb (zc 1) zh))))) ?_);(refine zf (qk 3 B.nd (uc (J6 (zy F_law_cell B.hr B.L (zb (zc 0) (zb zg zh))) zg) zg)) ?_);(refine zf (j8 (SC B.C (zc 3) zg) (zr (qk 2 B.nd (zy F_law_leafed B.hr B.L (zb (zc 2) (zb (zy F_law_cell B.hr B.L (zb (zc 0) (zb zg zh))) (zb zg zh)))))) qu) ?_);(refine zf (j8 (yw B.C (zc 3) zg) (zr (qk 2 B.nd (zy F_law_kind B.hr B.L (zb (zy F_law_cell B.hr B.L (zb (zc 0) (zb zg zh))) (zb (j7 zg (uc (zy F_law_cell B.hr B.L (zb (zc 0) (zb zg zh))) zg)) (zb zg zh)))))) qu) ?_);(refine zf (j8 (yw B.C (uc (zy F_law_cell B.hr B.L (zb (zc 0) (zb zg zh))) zg) zg) (zr (GH (Df 1 2 B.hc B.nd) (zy F_law_far B.hr B.L (zb (qa (zb qd (zb (uc (J6 (zy F_law_cell B.hr B.L (zb (zc 0) (zb zg zh))) zg) zg) zh))) zh)))) qu) ?_);exact zr (qf (JD (zy F_law_right B.hr B.L (zb (zc 1) (zb (zc 2) zh))) (GE (zy F_law_right B.hr B.L (zb (zc 2) (zb (zc 1) zh)))))))
end
end KT
namespace KT
open PySem
section
variable{ρ ρ':Rho}{l m:Nat}{d x y:U8}{c:Nat}{f g:FE}{a b:FS}
theorem Mw{i j:Int}(h:CMulD i j):p9 (.int i) (.int j)=U7 (.int (i * j)):=if_pos h
theorem MZ{i j:Int}(h:0 < j)(h2:j.natAbs < lim):IA (.int i) (.int j)=U7 (.int (i / j)):=if_pos ⟨h,h2⟩
theorem sx{i j:Int}(h:0 < j):AL (.int i) (.int j)=U7 (.int (i % j)):=if_pos h
theorem Dz{i j:Int}(h:j.natAbs < 2 ^ 64):CMulD i j:=.inr (.inl h)
theorem OY{i j:Int}(h:i.natAbs < 2 ^ 64):CMulD i j:=.inl h
theorem JW(l:Nat)(i:Int):asg l (.int i)=U7 (.loc (.int i)):=rfl
theorem OR(l:Nat)(i:Vk):asg l (.str i)=U7 (.loc (.str i)):=rfl
theorem dy{l:Nat}{d:U8}(h:lf d=true):asg l d=U7 (.loc d):=if_pos h
theorem ur{ds:List U8}(h:lfs ds=true):asg 2 (.list ds)=U7 (.own ds):=by simp [asg,lf,h]
end
theorem nr(i j:Int):dEq (.int i) (.int j)=U7 (.bool (i == j)):=rfl
theorem EY(i j:Vk):dEq (.str i) (.str j)=U7 (.bool (i == j)):=rfl
theorem QL(i j:Int):dNe (.int i) (.int j)=U7 (.bool (!(i == j))):=rfl
theorem Rv(i j:Vk):dNe (.str i) (.str j)=U7 (.bool (!(i == j))):=rfl
theorem t6(i j:Int):bz (.int i) (.int j)=U7 (.int (i+j)):=rfl
theorem Q3(i j:Int):IP (.int i) (.int j)=U7 (.int (i - j)):=rfl
theorem zv{a b:FS}{ρ ρ':Rho}(h:a ρ=U7 (.next ρ')):ze a b ρ=b ρ':=by unfold ze;rw [h]
theorem J1{a b:FS}{ρ:Rho}{d:U8}(h:a ρ=U7 (.ret d)):ze a b ρ=U7 (.ret d):=by unfold ze;rw [h]
theorem ky{n:Nat}{b:FS}{ds:List U8}{d:U8}(h:b (ds.map (λd=>U7 (.par d))++UW (n - ds.length) UA)=U7 (.ret d)):qj n b ds=U7 (.ok d):=by unfold qj;rw [h]
noncomputable def pev:List Int->Int->Int
 | [],_=>0
 | c::cs,x=>c+x * pev cs x
noncomputable def pdv(r:Int):List Int->List Int
 | []=>[]
 | [_]=>[]
 | _::c::cs=>pev (c::cs) r::pdv r (c::cs)
theorem Ke(r:Int):∀ (c:Int) (cs:List Int),(pdv r (c::cs)).length=cs.length
 | _,[]=>rfl
 | _,c::cs=>by simp [pdv,Ke r c cs]
theorem MA(r x:Int):∀ cs:List Int,pev cs x=pev cs r+(x - r) * pev (pdv r cs) x
 | []=>by simp [pev,pdv]
 | [c]=>by simp [pev,pdv]
 | c::d::cs=>by
  have ih:=MA r x (d::cs)
  show c+x * pev (d::cs) x=c+r * pev (d::cs) r+(x - r) * (pev (d::cs) r+x * pev (pdv r (d::cs)) x)
  rw [ih]
  generalize pev (d::cs) r=u
  generalize pev (pdv r (d::cs)) x=v
  have e1:x * (u+(x - r) * v)=x * u+x * ((x - r) * v):=YV _ _ _
  have e2:(x - r) * (u+x * v)=(x - r) * u+(x - r) * (x * v):=YV _ _ _
  have e3:(x - r) * u=x * u - r * u:=Int.sub_mul _ _ _
  have e4:x * ((x - r) * v)=(x - r) * (x * v):=Int.mul_left_comm _ _ _
  rw [e1,e2,e3,e4]
  omega
theorem GM(r:Int):∀ cs:List Int,(∀ c∈pdv r cs,c=0)->pev cs r=0->∀ c∈cs,c=0
 | [],_,_=>λc h=>by cases h
 | [c],_,h=>λd hd=>by
  simp only [V7] at hd
  subst hd
  simpa [pev] using h
 | c::d::cs,hz,h=>by
  have h0:pev (d::cs) r=0:=hz _ (by simp [pdv])
  have ih:=GM r (d::cs) (λe he=>hz e (by simp only [pdv,Vl];exact .inr he)) h0
  have h1:c+r * pev (d::cs) r=0:=h
  rw [h0,Int.mul_zero,Int.add_zero] at h1
  intro e he
  rcases Vl.mp he with rfl | he
  ·exact h1
  ·exact ih e he
theorem Qj:∀ (rs cs:List Int),rs.Nodup->cs.length<=rs.length->(∀ r∈rs,pev cs r=0)->∀ c∈cs,c=0
 | [],cs,_,hl,_=>by
  have:cs=[]:=VU.mp (Nat.le_zero.mp hl)
  subst this
  intro c h;cases h
 | r::rs,[],_,_,_=>λc h=>by cases h
 | r::rs,c::cs,hn,hl,hr=>by
  have h0:=hr r (by simp)
  refine GM r (c::cs) (Qj rs (pdv r (c::cs)) (W1.mp hn).2 (by rw [Ke];simpa using hl) λx hx=>?_) h0
  have e:=MA r x (c::cs)
  rw [hr x (UQ _ hx),h0,Int.zero_add] at e
  rcases Int.mul_eq_zero.mp e.symm with z | z
  ·exact absurd (show r∈rs by rw [show r=x by omega];exact hx) (W1.mp hn).1
  ·exact z
theorem Kr(g h:Nat->Int)(x:Int):∀ ls:List Nat,pev (ls.map λd=>g d+h d) x=pev (ls.map g) x+pev (ls.map h) x
 | []=>rfl
 | l::ls=>by
  simp only [UR,pev,Kr g h x ls,YV]
  omega
theorem A1(x:Int):∀ ls:List Nat,pev (ls.map λ_=>(0:Int)) x=0
 | []=>rfl
 | l::ls=>by simp only [UR,pev,A1 x ls,Int.mul_zero,Int.add_zero]
theorem FH(t x:Int):∀ (n a k:Nat),k < n->pev ((WV a n).map λd=>if d=a+k then t else 0) x=t * x ^ k
 | 0,_,_,h=>by omega
 | n+1,a,0,_=>by
  have z:(WV (a+1) n).map (λd=>if d=a+0 then t else 0)=(WV (a+1) n).map λ_=>(0:Int):=by
   apply VL
   intro d hd
   have:=(List.mem_range'_1.mp hd).1
   rw [if_neg (by omega)]
  simp only [List.range'_succ,UR,pev,z,A1]
  simp
 | n+1,a,k+1,h=>by
  have z:(WV (a+1) n).map (λd=>if d=a+(k+1) then t else 0)=(WV (a+1) n).map λd=>if d=a+1+k then t else 0:=by
   apply VL
   intro d hd
   rw [show a+(k+1)=a+1+k by omega]
  have ih:=FH t x n (a+1) k (by omega)
  simp only [List.range'_succ,UR,pev,z,ih]
  rw [if_neg (by omega),Int.zero_add,Int.pow_succ]
  rw [Int.mul_left_comm,Ze x]
theorem BM(k:List Int):xa [] k=UA:=rfl
theorem kf(x:Ent)(ts:List Ent)(k:List Int):xa (x::ts) k=if x.1=k then U7 x.2 else xa ts k:=by
 unfold xa
 rw [W2]
 by_cases h:x.1=k
 ·simp [h]
 ·simp [h]
theorem LQ(ts us:List Ent)(k:List Int):xa (ts++us) k=(xa ts k).or (xa us k):=by
 induction ts with
 | nil=>rfl
 | cons x ts ih=>
  rw [WD,kf,kf,ih]
  split<;>rfl
theorem DC{ts:List Ent}{k:List Int}(h:(ts.any λx=>decide (x.1=k))=false):xa ts k=UA:=by
 induction ts with
 | nil=>rfl
 | cons x ts ih=>
  simp only [List.any_cons,Ya,decide_eq_false_iff_not] at h
  rw [kf,if_neg h.1,ih h.2]
theorem Gk(ts:List Ent)(k r:List Int)(n:Int):xa (u3 ts k n) r=if k=r then U7 n else xa ts r:=by
 unfold u3
 by_cases h:(ts.any λx=>decide (x.1=k))=true
 ·rw [if_pos h]
  induction ts with
  | nil=>cases h
  | cons x ts ih=>
   rw [UR,kf,kf]
   by_cases e:x.1=k
   ·rw [if_pos e]
    dsimp only
    by_cases e2:k=r
    ·rw [if_pos (e.trans e2),if_pos e2]
    ·rw [if_neg (λz=>e2 (e.symm.trans z)),if_neg e2,if_neg (λz=>e2 (e.symm.trans z))]
     have:∀ ts:List Ent,xa (ts.map λx=>if x.1=k then (x.1,n) else x) r=xa ts r:=by
      intro ts
      induction ts with
      | nil=>rfl
      | cons y ts ih=>
       rw [UR,kf,kf,ih]
       by_cases e:y.1=k
       ·rw [if_pos e]
        dsimp only
        rw [if_neg (λz=>e2 (e.symm.trans z)),if_neg (λz=>e2 (e.symm.trans z))]
       ·rw [if_neg e]
     exact this ts
   ·rw [if_neg e]
    have h':(ts.any λx=>decide (x.1=k))=true:=by simpa [e] using h
    rw [ih h']
    by_cases e2:x.1=r
    ·rw [if_pos e2,if_pos e2,if_neg (λz=>e (e2.trans z.symm))]
    ·rw [if_neg e2,if_neg e2]
 ·rw [if_neg h]
  have h:(ts.any λx=>decide (x.1=k))=false:=Bool.eq_false_iff.mpr h
  rw [LQ,kf,BM]
  by_cases e:k=r
  ·subst e
   rw [DC h,if_pos rfl];rfl
  ·rw [if_neg e,if_neg e];cases xa ts r<;>rfl
noncomputable def wo(ts:List Ent):List (List Int):=ts.map (·.1)
theorem C3(ts:List Ent)(k:List Int)(n:Int):wo (u3 ts k n)=if k∈wo ts then wo ts else wo ts++[k]:=by
 have hm:(ts.any λx=>decide (x.1=k))=true↔k∈wo ts:=by
  simp only [wo,List.any_eq_true,WG,decide_eq_true_eq]
 unfold u3
 by_cases h:(ts.any λx=>decide (x.1=k))=true
 ·rw [if_pos h,if_pos (hm.mp h)]
  simp only [wo,XD]
  apply VL
  intro x _
  show (if x.1=k then (x.1,n) else x).1=x.1
  split<;>rfl
 ·rw [if_neg h,if_neg (λz=>h (hm.mpr z))]
  simp [wo]
theorem o7{ts:List Ent}{k:List Int}{n:Int}(h:(wo ts).Nodup):(wo (u3 ts k n)).Nodup:=by
 rw [C3]
 split
 ·exact h
 ·rename_i hk
  rw [List.nodup_append]
  exact ⟨h,by simp,λa ha b hb z=>by
   have:b=k:=by simpa using hb
   subst this;subst z;exact hk ha⟩
theorem Nr{ts:List Ent}{k:List Int}{n:Int}(h:xa ts k=U7 n):(k,n)∈ts:=by
 induction ts with
 | nil=>cases h
 | cons y ts ih=>
  rw [kf] at h
  split at h
  ·rename_i e
   cases h
   subst e
   exact UN
  ·exact UQ _ (ih h)
theorem J7:∀ (ts acc:List Ent),(wo (acc++ts)).Nodup->ts.foldl (λacc x=>u3 acc x.1 x.2) acc=acc++ts
 | [],acc,_=>by simp
 | x::ts,acc,h=>by
  have hk:x.1∉wo acc:=by
   simp only [wo,XJ,UR,List.nodup_append] at h
   intro z
   exact h.2.2 x.1 z x.1 (by simp) rfl
  have hp:u3 acc x.1 x.2=acc++[x]:=by
   unfold u3
   rw [if_neg]
   intro z
   apply hk
   simpa [wo] using z
  rw [Ws,hp,J7 ts (acc++[x]) (by simpa using h)]
  simp
theorem Lh{ts:List Ent}(h:(wo ts).Nodup):dictOf ts=ts:=by
 have:=J7 ts [] (by simpa using h)
 simpa [dictOf] using this
noncomputable def nz(ts:List Ent):List Ent:=ts.filter λx=>!(x.2 == 0)
theorem BK{ts:List Ent}(h:(wo ts).Nodup):(wo (nz ts)).Nodup:=List.Nodup.sublist (List.Sublist.map _ List.filter_sublist) h
theorem Qq{ts:List Ent}:∀ x∈nz ts,x.2≠0:=λx hx=>by
 have:=(W0.mp hx).2
 simpa using this
theorem Oe{ts:List Ent}(h:nz ts=[])(k:List Int):(xa ts k).getD 0=0:=by
 cases e:xa ts k with
 | none=>rfl
 | some n=>
  have hm:=Nr e
  show n=0
  by_cases hn:n=0
  ·exact hn
  ·have:(k,n)∈nz ts:=W0.mpr ⟨hm,by simpa using hn⟩
   rw [h] at this
   cases this
noncomputable def Rs(r:List Int):Prop:=r.Pairwise (·<=·)
noncomputable def ct(i:Int)(k:List Int):Nat:=k.countP λn=>decide (n=i)
noncomputable def rst(i:Int)(k:List Int):List Int:=k.filter λn=>!(n == i)
theorem Gz(i:Int)(k:List Int):ct i k=k.count i:=by
 unfold ct List.count
 congr 1
theorem N9(i:Int)(k:List Int):ct i k<=k.length:=List.countP_le_length
theorem PQ(i:Int)(k:List Int):(rst i k).length<=k.length:=XU _ _
theorem Ry{i:Int}{k:List Int}(h:Rs k):Rs (rst i k):=h.filter _
theorem LW{i:Int}{k m:List Int}(hk:Rs k)(hm:Rs m)(h1:rst i k=rst i m)(h2:ct i k=ct i m):k=m:=by
 refine List.Perm.eq_of_pairwise (le:=λa b:Int=>a<=b) (λa b _ _ x y=>Int.le_antisymm x y) hk hm (List.perm_iff_count.mpr λa=>?_)
 by_cases e:a=i
 ·subst e
  rw [<- Gz,<- Gz,h2]
 ·have p:(λn:Int=>!(n == i)) a=true:=by simpa using e
  have e1:=List.count_filter (p:=λn:Int=>!(n == i)) (a:=a) (l:=k) p
  have e2:=List.count_filter (p:=λn:Int=>!(n == i)) (a:=a) (l:=m) p
  rw [<- e1,<- e2]
  exact congrArg (List.count a) h1
noncomputable def av(i s:Int)(acc:List Ent)(x:Ent):List Ent:=u3 acc (rst i x.1) ((xa acc (rst i x.1)).getD 0+x.2 * s ^ ct i x.1)
noncomputable def wv(i s:Int)(r:List Int):List Ent->Int
 | []=>0
 | x::ts=>(if rst i x.1=r then x.2 * s ^ ct i x.1 else 0)+wv i s r ts
theorem JP(i s:Int)(r:List Int):∀ (ts acc:List Ent),(xa (ts.foldl (av i s) acc) r).getD 0=(xa acc r).getD 0+wv i s r ts
 | [],acc=>by simp [wv]
 | x::ts,acc=>by
  rw [Ws,JP i s r ts,wv]
  unfold av
  rw [Gk]
  by_cases e:rst i x.1=r
  ·rw [if_pos e,if_pos e,e]
   simp only [YN]
   omega
  ·rw [if_neg e,if_neg e]
   omega
noncomputable def cf(i:Int)(r:List Int):List Ent->Nat->Int
 | [],_=>0
 | x::ts,d=>(if rst i x.1=r/\ct i x.1=d then x.2 else 0)+cf i r ts d
theorem M1(i s:Int)(r:List Int)(n:Nat):∀ ts:List Ent,(∀ x∈ts,ct i x.1 < n)->pev ((WV 0 n).map (cf i r ts)) s=wv i s r ts
 | [],_=>A1 s _
 | x::ts,h=>by
  have e:(WV 0 n).map (cf i r (x::ts))=(WV 0 n).map λd=>(if rst i x.1=r/\ct i x.1=d then x.2 else 0)+cf i r ts d:=rfl
  rw [e,Kr,M1 i s r n ts (λy hy=>h y (UQ _ hy)),wv]
  congr 1
  by_cases q:rst i x.1=r
  ·rw [if_pos q]
   have hu:=FH x.2 s n 0 (ct i x.1) (h x UN)
   rw [<- hu]
   congr 1
   apply VL
   intro d _
   rw [Nat.zero_add]
   by_cases z:d=ct i x.1
   ·rw [if_pos z,if_pos ⟨q,z.symm⟩]
   ·rw [if_neg z,if_neg (λw=>z w.2.symm)]
  ·rw [if_neg q]
   have z:(WV 0 n).map (λd=>if rst i x.1=r/\ct i x.1=d then x.2 else 0)=(WV 0 n).map λ_=>(0:Int):=by
    apply VL
    intro d _
    rw [if_neg (λw=>q w.1)]
   rw [z,A1]
structure Good(ts:List Ent):Prop where
 nd:(wo ts).Nodup
 ne:∀ x∈ts,x.2≠0
 ris:∀ x∈ts,Rs x.1
 len:∀ x∈ts,x.1.length<=20
theorem MT{i:Int}{r:List Int}{d:Nat}:∀ {ts:List Ent},(∀ x∈ts,¬ (rst i x.1=r/\ct i x.1=d))->cf i r ts d=0
 | [],_=>rfl
 | x::ts,h=>by
  rw [cf,if_neg (h x UN),MT λy hy=>h y (UQ _ hy)]
  rfl
noncomputable def wz(i s:Int)(ts:List Ent):List Ent:=nz (ts.foldl (av i s) [])
theorem Hi{ts:List Ent}(i:Int)(g:Good ts)(hne:ts≠[]):∃ s:Nat,s<=20/\wz i (s:Int) ts≠[]:=by
 refine Classical.byContradiction λhno=>?_
 have hall:∀ s:Nat,s<=20->wz i (s:Int) ts=[]:=λs hs=>Classical.byContradiction λhw=>hno ⟨s,hs,hw⟩
 match ts,hne,g,hall with
 | x::ts,_,g,hall=>
  have hz:∀ s:Nat,s<=20->wv i (s:Int) (rst i x.1) (x::ts)=0:=λs hs=>by
   have h1:=Oe (hall s hs) (rst i x.1)
   rw [JP] at h1
   simpa [BM] using h1
  have hc:∀ y∈x::ts,ct i y.1 < 21:=λy hy=>Nat.lt_succ_of_le (UU (N9 i y.1) (g.len y hy))
  have key:=Qj ((VM 21).map λ(n:Nat)=>(n:Int)) ((WV 0 21).map (cf i (rst i x.1) (x::ts))) (by decide) (by simp) (λr hr=>by
   obtain ⟨n,hn,rfl⟩:=WG.mp hr
   rw [M1 i _ _ 21 _ hc]
   exact hz n (by have:=List.mem_range.mp hn;omega))
  have h0:=key (cf i (rst i x.1) (x::ts) (ct i x.1)) (WG.mpr ⟨ct i x.1,List.mem_range'_1.mpr ⟨VJ _,by have:=hc x UN;omega⟩,rfl⟩)
  rw [cf,if_pos ⟨rfl,rfl⟩,MT,Int.add_zero] at h0
  ·exact g.ne x UN h0
  ·intro y hy ⟨e1,e2⟩
   have:y.1=x.1:=LW (g.ris y (UQ _ hy)) (g.ris x UN) e1 e2
   have nd:=g.nd
   simp only [wo,UR,W1] at nd
   exact nd.1 (WG.mpr ⟨y,hy,this⟩)
theorem A3(i s:Int):∀ (ts acc:List Ent),(wo acc).Nodup->(wo (ts.foldl (av i s) acc)).Nodup/\∀ k∈wo (ts.foldl (av i s) acc),k∈wo acc∨∃ x∈ts,k=rst i x.1
 | [],acc,h=>⟨h,λk hk=>.inl hk⟩
 | x::ts,acc,h=>by
  obtain ⟨h1,h2⟩:=A3 i s ts (av i s acc x) (o7 h)
  refine ⟨h1,λk hk=>?_⟩
  rcases h2 k hk with z | ⟨y,hy,e⟩
  ·unfold av at z
   rw [C3] at z
   split at z
   ·exact .inl z
   ·rcases VT.mp z with z | z
    ·exact .inl z
    ·exact .inr ⟨x,UN,by simpa using z⟩
  ·exact .inr ⟨y,UQ _ hy,e⟩
theorem JQ{ts:List Ent}(i s:Int)(g:Good ts):Good (wz i s ts):=by
 obtain ⟨h1,h2⟩:=A3 i s ts [] Wx
 have key:∀ x∈wz i s ts,∃ y∈ts,x.1=rst i y.1:=λx hx=>by
  rcases h2 x.1 (WG.mpr ⟨x,(W0.mp hx).1,rfl⟩) with z | z
  ·cases z
  ·exact z
 refine ⟨BK h1,Qq,λx hx=>?_,λx hx=>?_⟩
 ·obtain ⟨y,hy,e⟩:=key x hx
  rw [e];exact Ry (g.ris y hy)
 ·obtain ⟨y,hy,e⟩:=key x hx
  rw [e];exact UU (PQ i y.1) (g.len y hy)
theorem B5(ts:List Ent)(k:List Int)(n:Int):(u3 ts k n).length<=ts.length+1:=by
 unfold u3
 split<;>simp
theorem EC(i s:Int):∀ (ts acc:List Ent),(ts.foldl (av i s) acc).length<=acc.length+ts.length
 | [],acc=>by simp
 | x::ts,acc=>by
  have h1:=EC i s ts (av i s acc x)
  have h2:(av i s acc x).length<=acc.length+1:=B5 _ _ _
  simp only [Ws,UM]
  omega
theorem Rb(i s:Int)(ts:List Ent):(wz i s ts).length<=ts.length:=by
 have:=EC i s ts []
 have h2:(wz i s ts).length<=(ts.foldl (av i s) []).length:=XU _ _
 simp only [Vm] at this
 omega
noncomputable def xr(n:Int)(acc:List Ent)(k:List Int):List Ent:=u3 acc k ((xa acc k).getD 0+n)
theorem Cp(n:Int)(r:List Int):∀ (ks:List (List Int)) (acc:List Ent),(xa (ks.foldl (xr n) acc) r).getD 0=(xa acc r).getD 0+n * (ks.count r:Nat)
 | [],acc=>by simp
 | k::ks,acc=>by
  rw [Ws,Cp n r ks,List.count_cons]
  unfold xr
  rw [Gk]
  by_cases e:k=r
  ·subst e
   rw [if_pos rfl,if_pos (beq_self_eq_true k)]
   simp only [YN]
   push_cast
   rw [YV]
   omega
  ·rw [if_neg e,if_neg (by simpa using e)]
   rfl
theorem gy(n:Int):∀ (ks:List (List Int)) (acc:List Ent),(wo acc).Nodup->(wo (ks.foldl (xr n) acc)).Nodup/\∀ k∈wo (ks.foldl (xr n) acc),k∈wo acc∨k∈ks
 | [],acc,h=>⟨h,λk hk=>.inl hk⟩
 | x::ks,acc,h=>by
  obtain ⟨h1,h2⟩:=gy n ks (xr n acc x) (o7 h)
  refine ⟨h1,λk hk=>?_⟩
  rcases h2 k hk with z | z
  ·unfold xr at z
   rw [C3] at z
   split at z
   ·exact .inl z
   ·rcases VT.mp z with z | z
    ·exact .inl z
    ·exact .inr (by have:k=x:=by simpa using z
                    subst this;exact UN)
  ·exact .inr (UQ _ z)
theorem m8(n:Int):∀ (ks:List (List Int)) (acc:List Ent),(ks.foldl (xr n) acc).length<=acc.length+ks.length
 | [],acc=>by simp
 | x::ks,acc=>by
  have h1:=m8 n ks (xr n acc x)
  have h2:(xr n acc x).length<=acc.length+1:=B5 _ _ _
  simp only [Ws,UM]
  omega
noncomputable def dfr(xs ys:List (List Int)):List Ent:=nz (ys.foldl (xr (-1)) (xs.foldl (xr 1) []))
theorem Hg{xs ys:List (List Int)}(hx:∀ x∈xs,Rs x/\x.length<=20)(hy:∀ x∈ys,Rs x/\x.length<=20):Good (dfr xs ys):=by
 obtain ⟨h1,h2⟩:=gy 1 xs [] Wx
 obtain ⟨h3,h4⟩:=gy (-1) ys (xs.foldl (xr 1) []) h1
 have key:∀ x∈dfr xs ys,Rs x.1/\x.1.length<=20:=λx hx'=>by
  rcases h4 x.1 (WG.mpr ⟨x,(W0.mp hx').1,rfl⟩) with z | z
  ·rcases h2 x.1 z with z | z
   ·cases z
   ·exact hx _ z
  ·exact hy _ z
 exact ⟨BK h3,Qq,λx h=>(key x h).1,λx h=>(key x h).2⟩
theorem OG{xs ys:List (List Int)}(h:dfr xs ys=[]):xs.Perm ys:=by
 refine List.perm_iff_count.mpr λa=>?_
 have h1:=Oe h a
 rw [Cp,Cp] at h1
 simp only [BM,Option.getD_none] at h1
 omega
theorem OB(xs ys:List (List Int)):(dfr xs ys).length<=xs.length+ys.length:=by
 have h1:=m8 1 xs []
 have h2:=m8 (-1) ys (xs.foldl (xr 1) [])
 have h3:(dfr xs ys).length<=(ys.foldl (xr (-1)) (xs.foldl (xr 1) [])).length:=XU _ _
 simp only [Vm] at h1
 omega
theorem Sj(k:List Int):lf (.tuple (k.map .int))=true:=by simp [lf,AG]
theorem Eh{tf:U8->Option Rho}{tst elt:FE}{env ρ1:Rho}{d x:U8}{ds:List U8}{l l':Nat}(h1:tf d=U7 ρ1)(h2:tst (ρ1++env)=U7 (.ok l (.bool true)))(h3:elt (ρ1++env)=U7 (.ok l' x))(hl:lf x=true):
  yt tf tst elt env (d::ds)=(yt tf tst elt env ds).map (x::·):=by
 rw [yt,h1]
 dsimp only
 rw [h2]
 dsimp only
 rw [h3]
 dsimp only
 rw [if_pos hl]
theorem Ed{tf:U8->Option Rho}{tst elt:FE}{env ρ1:Rho}{d:U8}{ds:List U8}{l:Nat}(h1:tf d=U7 ρ1)(h2:tst (ρ1++env)=U7 (.ok l (.bool false))):
  yt tf tst elt env (d::ds)=yt tf tst elt env ds:=by
 rw [yt,h1]
 dsimp only
 rw [h2]
theorem KA:∀ ts:List Ent,yt tc2 (eNe (za 1) (eC (.int 0))) (zm [(za 0),(za 1)]) [] (ts.map v9)=U7 ((nz ts).map v9)
 | []=>rfl
 | (k,n)::ts=>by
  have ih:=KA ts
  have h1:lf (v9 (k,n))=true:=by simp [v9,lf,lfs,AG]
  have ht:tc2 (v9 (k,n))=U7 [U7 (.par (.tuple (k.map .int))),U7 (.par (.int n))]:=rfl
  have hc:eNe (za 1) (eC (.int 0)) ([U7 (.par (.tuple (k.map .int))),U7 (.par (.int n))]++[])=U7 (.ok 2 (.bool (!(n == 0)))):=rfl
  have he:zm [(za 0),(za 1)] ([U7 (.par (.tuple (k.map .int))),U7 (.par (.int n))]++[])=U7 (.ok 0 (v9 (k,n))):=rfl
  rw [UR]
  cases q:(n == 0) with
  | true=>
   rw [q] at hc
   rw [Ed ht hc,ih]
   simp [nz,q]
  | false=>
   rw [q] at hc
   rw [Eh ht hc he h1,ih]
   simp [nz,q]
theorem Cr(n:Nat){ts:List Ent}(hn:(wo ts).Nodup)(hl:ts.length<=big):qy (n+1) [jz ts]=U7 (.ok (jz (nz ts))):=by
 show qj 1 cy [jz ts]=_
 refine ky ?_
 show zq (JZ (ue (ti (za 0)) [] tc2 (eNe (za 1) (eC (.int 0))) (zm [(za 0),(za 1)]))) [U7 (.par (jz ts))]=_
 have h1:ti (za 0) [U7 (.par (jz ts))]=U7 (.ok 0 (ts.map v9)):=by
  simp [ti,za,s8]
 have h2:ue (ti (za 0)) [] tc2 (eNe (za 1) (eC (.int 0))) (zm [(za 0),(za 1)]) [U7 (.par (jz ts))]=U7 (.ok 2 (.list ((nz ts).map v9))):=by
  unfold ue
  rw [h1]
  dsimp only
  rw [if_pos (by simpa using hl)]
  simp only [Y9,KA,Va]
 have hz:(nz ts).length<=big:=UU (XU _ _) hl
 have h3:JF (.list ((nz ts).map v9))=U7 (jz (nz ts)):=by
  unfold JF
  dsimp only
  rw [if_pos (by simpa using hz),Es,Va,Lh (BK hn)]
 simp [zq,JZ,e1,h2,zk,zi,h3]
theorem Hn(i:Int):∀ k:List Int,yt tc1 (eNe (za 0) (za 1)) (za 0) [U7 (.par (.int i))] (k.map .int)=U7 ((rst i k).map .int)
 | []=>rfl
 | n::k=>by
  have ih:=Hn i k
  have hc:eNe (za 0) (za 1) ([U7 (.par (.int n))]++[U7 (.par (.int i))])=U7 (.ok 2 (.bool (!(n == i)))):=rfl
  have he:za 0 ([U7 (.par (.int n))]++[U7 (.par (.int i))])=U7 (.ok 0 (.int n)):=rfl
  rw [UR]
  cases q:(n == i) with
  | true=>
   rw [q] at hc
   rw [Ed (tf:=tc1) rfl hc,ih]
   simp [rst,q]
  | false=>
   rw [q] at hc
   rw [Eh (tf:=tc1) rfl hc he rfl,ih]
   simp [rst,q]
theorem HR(s:Int)(hs:s.natAbs < 2 ^ 64)(r0 r1 r3 r4 r5 r6:Option Slot):∀ (ds:List U8) (v:Int) (r8:Option Slot),
  ∃ r8',qg (zw 8) (zl 7 (vj (za 7) (za 2))) ds [r0,r1,U7 (.par (.int s)),r3,r4,r5,r6,U7 (.loc (.int v)),r8]=U7 (.next [r0,r1,U7 (.par (.int s)),r3,r4,r5,r6,U7 (.loc (.int (v * s ^ ds.length))),r8'])
 | [],v,r8=>⟨r8,by simp [qg]⟩
 | d::ds,v,r8=>by
  obtain ⟨r8',h⟩:=HR s hs r0 r1 r3 r4 r5 r6 ds (v * s) (U7 (.loc d))
  refine ⟨r8',?_⟩
  have hm:p9 (.int v) (.int s)=U7 (.int (v * s)):=Mw (Dz hs)
  have hb:zl 7 (vj (za 7) (za 2)) [r0,r1,U7 (.par (.int s)),r3,r4,r5,r6,U7 (.loc (.int v)),U7 (.loc d)]=U7 (.next [r0,r1,U7 (.par (.int s)),r3,r4,r5,r6,U7 (.loc (.int (v * s))),U7 (.loc d)]):=by
   simp [zl,vj,e2,za,zk,zi,hm,JW]
  simp only [qg,zw,VA,VB,hb,h,UM]
  congr 6
  rw [Int.pow_succ,Ze (s ^ ds.length) s,<- XN]
noncomputable def Ew:FS:=(ze (zl 6 (fx (ue (xu (za 4)) [1] tc1 (eNe (za 0) (za 1)) (za 0)))) (ze (zl 7 (za 5)) (ze (ye (iR1 (ro (za 4) (za 1))) (zw 8) (zl 7 (vj (za 7) (za 2)))) (u9 false 3 6 (za 7)))))
theorem OL(i s:Int)(hs:s.natAbs < 2 ^ 64)(r0 r6 r7 r8:Option Slot)(acc:List Ent)(ha:acc.length < big)(k:List Int)(n:Int)(hk:k.length<=20):
  ∃ r6' r7' r8',Ew [r0,U7 (.par (.int i)),U7 (.par (.int s)),U7 (.dct acc),U7 (.loc (.tuple (k.map .int))),U7 (.loc (.int n)),r6,r7,r8]=U7 (.next [r0,U7 (.par (.int i)),U7 (.par (.int s)),U7 (.dct (av i s acc (k,n))),U7 (.loc (.tuple (k.map .int))),U7 (.loc (.int n)),r6',r7',r8']):=by
 have hb:big=100000:=rfl
 have h1:zl 6 (fx (ue (xu (za 4)) [1] tc1 (eNe (za 0) (za 1)) (za 0))) [r0,U7 (.par (.int i)),U7 (.par (.int s)),U7 (.dct acc),U7 (.loc (.tuple (k.map .int))),U7 (.loc (.int n)),r6,r7,r8]=U7 (.next [r0,U7 (.par (.int i)),U7 (.par (.int s)),U7 (.dct acc),U7 (.loc (.tuple (k.map .int))),U7 (.loc (.int n)),U7 (.loc (.tuple ((rst i k).map .int))),r7,r8]):=by
  have e1:xu (za 4) [r0,U7 (.par (.int i)),U7 (.par (.int s)),U7 (.dct acc),U7 (.loc (.tuple (k.map .int))),U7 (.loc (.int n)),r6,r7,r8]=U7 (.ok 2 (k.map .int)):=by
   simp [xu,za,AG]
  have e2:ue (xu (za 4)) [1] tc1 (eNe (za 0) (za 1)) (za 0) [r0,U7 (.par (.int i)),U7 (.par (.int s)),U7 (.dct acc),U7 (.loc (.tuple (k.map .int))),U7 (.loc (.int n)),r6,r7,r8]=U7 (.ok 2 (.list ((rst i k).map .int))):=by
   unfold ue
   rw [e1]
   dsimp only
   rw [if_pos (by simp only [V8];omega)]
   have e3:([1].map λj=>du ([r0,U7 (Slot.par (.int i)),U7 (.par (.int s)),U7 (.dct acc),U7 (.loc (.tuple (k.map .int))),U7 (.loc (.int n)),r6,r7,r8]:Rho)[j]?)=[U7 (.par (.int i))]:=rfl
   rw [e3,Hn]
   rfl
  have e4:mz (.list ((rst i k).map .int))=U7 (.tuple ((rst i k).map .int)):=by simp [mz,AG]
  simp [zl,fx,KT.e1,e2,zk,zi,e4,dy (Sj (rst i k))]
 have h2:zl 7 (za 5) [r0,U7 (.par (.int i)),U7 (.par (.int s)),U7 (.dct acc),U7 (.loc (.tuple (k.map .int))),U7 (.loc (.int n)),U7 (.loc (.tuple ((rst i k).map .int))),r7,r8]=U7 (.next [r0,U7 (.par (.int i)),U7 (.par (.int s)),U7 (.dct acc),U7 (.loc (.tuple (k.map .int))),U7 (.loc (.int n)),U7 (.loc (.tuple ((rst i k).map .int))),U7 (.loc (.int n)),r8]):=by
  simp [zl,za,zi,JW]
 have h3:iR1 (ro (za 4) (za 1)) [r0,U7 (.par (.int i)),U7 (.par (.int s)),U7 (.dct acc),U7 (.loc (.tuple (k.map .int))),U7 (.loc (.int n)),U7 (.loc (.tuple ((rst i k).map .int))),U7 (.loc (.int n)),r8]=U7 (.ok 2 (fy (ct i k))):=by
  have e1:ro (za 4) (za 1) [r0,U7 (.par (.int i)),U7 (.par (.int s)),U7 (.dct acc),U7 (.loc (.tuple (k.map .int))),U7 (.loc (.int n)),U7 (.loc (.tuple ((rst i k).map .int))),U7 (.loc (.int n)),r8]=U7 (.ok 2 (.int (ct i k:Nat))):=by
   simp [ro,za,zk,vv,ct]
  have hc:=N9 i k
  simp only [iR1,e1]
  rw [if_pos (by omega)]
  rfl
 obtain ⟨r8',h4⟩:=HR s hs r0 (U7 (.par (.int i))) (U7 (.dct acc)) (U7 (.loc (.tuple (k.map .int)))) (U7 (.loc (.int n))) (U7 (.loc (.tuple ((rst i k).map .int)))) (fy (ct i k)) n r8
 have hl:(fy (ct i k)).length=ct i k:=by simp [fy]
 rw [hl] at h4
 refine ⟨U7 (.loc (.tuple ((rst i k).map .int))),U7 (.loc (.int (n * s ^ ct i k))),r8',?_⟩
 unfold Ew
 rw [zv h1,zv h2]
 have h5:ye (iR1 (ro (za 4) (za 1))) (zw 8) (zl 7 (vj (za 7) (za 2))) [r0,U7 (.par (.int i)),U7 (.par (.int s)),U7 (.dct acc),U7 (.loc (.tuple (k.map .int))),U7 (.loc (.int n)),U7 (.loc (.tuple ((rst i k).map .int))),U7 (.loc (.int n)),r8]=U7 (.next [r0,U7 (.par (.int i)),U7 (.par (.int s)),U7 (.dct acc),U7 (.loc (.tuple (k.map .int))),U7 (.loc (.int n)),U7 (.loc (.tuple ((rst i k).map .int))),U7 (.loc (.int (n * s ^ ct i k))),r8']):=by
  simp only [ye,h3]
  exact h4
 rw [zv h5]
 simp [u9,za,vv,zi,ha,av]
theorem Q2(i s:Int)(hs:s.natAbs < 2 ^ 64)(r0:Option Slot):∀ (ts acc:List Ent) (r4 r5 r6 r7 r8:Option Slot),(∀ x∈ts,x.1.length<=20)->acc.length+ts.length < big->
  ∃ r4' r5' r6' r7' r8',qg (wc 4 5) Ew (ts.map v9) [r0,U7 (.par (.int i)),U7 (.par (.int s)),U7 (.dct acc),r4,r5,r6,r7,r8]=U7 (.next [r0,U7 (.par (.int i)),U7 (.par (.int s)),U7 (.dct (ts.foldl (av i s) acc)),r4',r5',r6',r7',r8'])
 | [],acc,r4,r5,r6,r7,r8,_,_=>⟨r4,r5,r6,r7,r8,rfl⟩
 | (k,n)::ts,acc,r4,r5,r6,r7,r8,hk,hl=>by
  simp only [UM] at hl
  obtain ⟨r6',r7',r8',h1⟩:=OL i s hs r0 r6 r7 r8 acc (by omega) k n (hk _ UN)
  have h2:(av i s acc (k,n)).length<=acc.length+1:=B5 _ _ _
  obtain ⟨a,b,c,d,e,h3⟩:=Q2 i s hs r0 ts (av i s acc (k,n)) _ _ r6' r7' r8' (λx hx=>hk x (UQ _ hx)) (by omega)
  refine ⟨a,b,c,d,e,?_⟩
  rw [UR,qg]
  show (match Ew [r0,U7 (.par (.int i)),U7 (.par (.int s)),U7 (.dct acc),U7 (.loc (.tuple (k.map .int))),U7 (.loc (.int n)),r6,r7,r8] with
   | some (.next ρ2)=>qg (wc 4 5) Ew (ts.map v9) ρ2
   | some (.cont ρ2)=>qg (wc 4 5) Ew (ts.map v9) ρ2
   | some (.brk ρ2)=>U7 (.next ρ2)
   | r=>r)=_
  rw [h1]
  exact h3
theorem O9(n:Nat)(i s:Int)(hs:s.natAbs < 2 ^ 64){ts:List Ent}(g:∀ x∈ts,x.1.length<=20)(hl:ts.length < big):jf (n+2) [jz ts,.int i,.int s]=U7 (.ok (jz (wz i s ts))):=by
 show qj 9 (Be (qy (n+1))) [jz ts,.int i,.int s]=_
 refine ky ?_
 obtain ⟨a,b,c,d,e,h⟩:=Q2 i s hs (U7 (.par (jz ts))) ts [] UA UA UA UA UA g (by simpa using hl)
 have h0:BW 3 [U7 (.par (jz ts)),U7 (.par (.int i)),U7 (.par (.int s)),UA,UA,UA,UA,UA,UA]=U7 (.next [U7 (.par (jz ts)),U7 (.par (.int i)),U7 (.par (.int s)),U7 (.dct []),UA,UA,UA,UA,UA]):=rfl
 have h1:HW 0 (wc 4 5) Ew [U7 (.par (jz ts)),U7 (.par (.int i)),U7 (.par (.int s)),U7 (.dct []),UA,UA,UA,UA,UA]=U7 (.next [U7 (.par (jz ts)),U7 (.par (.int i)),U7 (.par (.int s)),U7 (.dct (ts.foldl (av i s) [])),a,b,c,d,e]):=by
  show ((Bf (jz ts)).bind λts'=>qg (wc 4 5) Ew (ts'.map v9) _)=_
  rw [s8]
  exact h
 have hn:=(A3 i s ts [] Wx).1
 have hle:=EC i s ts []
 have h2:=Cr n hn (by simp only [Vm] at hle;omega)
 show (ze (BW 3) (ze (HW 0 (wc 4 5) Ew) (zq (zd (qy (n+1)) [(za 3)])))) [U7 (.par (jz ts)),U7 (.par (.int i)),U7 (.par (.int s)),UA,UA,UA,UA,UA,UA]=_
 rw [zv h0,zv h1]
 have e3:za 3 [U7 (.par (jz ts)),U7 (.par (.int i)),U7 (.par (.int s)),U7 (.dct (ts.foldl (av i s) [])),a,b,c,d,e]=U7 (.ok 1 (jz (ts.foldl (av i s) []))):=rfl
 simp [zq,zd,zo,e3,zu,h2,jt,zi,wz]
theorem M3(neg:Bool)(r0 r1:Option Slot):∀ (ks:List (List Int)) (acc:List Ent) (r3:Option Slot),acc.length+ks.length < big->
  ∃ r3',qg (zw 3) (u9 neg 2 3 (eC (.int 1))) (ks.map zt) [r0,r1,U7 (.dct acc),r3]=U7 (.next [r0,r1,U7 (.dct (ks.foldl (xr (if neg then -1 else 1)) acc)),r3'])
 | [],acc,r3,_=>⟨r3,rfl⟩
 | k::ks,acc,r3,hl=>by
  simp only [UM] at hl
  have h2:(xr (if neg then -1 else 1) acc k).length<=acc.length+1:=B5 _ _ _
  obtain ⟨a,h3⟩:=M3 neg r0 r1 ks (xr (if neg then -1 else 1) acc k) (U7 (.loc (zt k))) (by omega)
  refine ⟨a,?_⟩
  have h1:u9 neg 2 3 (eC (.int 1)) [r0,r1,U7 (.dct acc),U7 (.loc (zt k))]=U7 (.next [r0,r1,U7 (.dct (xr (if neg then -1 else 1) acc k)),U7 (.loc (zt k))]):=by
   simp only [u9,za,zt,UD,UE,vv,eC,zi]
   rw [if_pos (by omega)]
   rfl
  rw [UR,qg]
  show (match u9 neg 2 3 (eC (.int 1)) [r0,r1,U7 (.dct acc),U7 (.loc (zt k))] with
   | some (.next ρ2)=>qg (zw 3) (u9 neg 2 3 (eC (.int 1))) (ks.map zt) ρ2
   | some (.cont ρ2)=>qg (zw 3) (u9 neg 2 3 (eC (.int 1))) (ks.map zt) ρ2
   | some (.brk ρ2)=>U7 (.next ρ2)
   | r=>r)=_
  rw [h1]
  exact h3
theorem Pi(n:Nat)(xs ys:List (List Int))(hl:xs.length+ys.length < big):yq (n+2) [.list (xs.map zt),.list (ys.map zt)]=U7 (.ok (jz (dfr xs ys))):=by
 show qj 4 (A2 (qy (n+1))) [.list (xs.map zt),.list (ys.map zt)]=_
 refine ky ?_
 obtain ⟨a,h1⟩:=M3 false (U7 (.par (.list (xs.map zt)))) (U7 (.par (.list (ys.map zt)))) xs [] UA (by simp only [Vm];omega)
 have hle:=m8 1 xs []
 simp only [Vm] at hle
 obtain ⟨b,h2⟩:=M3 true (U7 (.par (.list (xs.map zt)))) (U7 (.par (.list (ys.map zt)))) ys (xs.foldl (xr 1) []) a (by omega)
 have hk:=gy 1 xs [] Wx
 have hk2:=gy (-1) ys _ hk.1
 have hle2:=m8 (-1) ys (xs.foldl (xr 1) [])
 have h3:=Cr n hk2.1 (by omega)
 have h0:BW 2 [U7 (.par (.list (xs.map zt))),U7 (.par (.list (ys.map zt))),UA,UA]=U7 (.next [U7 (.par (.list (xs.map zt))),U7 (.par (.list (ys.map zt))),U7 (.dct []),UA]):=rfl
 have f1:yb 0 (zw 3) (u9 false 2 3 (eC (.int 1))) [U7 (.par (.list (xs.map zt))),U7 (.par (.list (ys.map zt))),U7 (.dct []),UA]=U7 (.next [U7 (.par (.list (xs.map zt))),U7 (.par (.list (ys.map zt))),U7 (.dct (xs.foldl (xr 1) [])),a]):=by
  show (if lfs (xs.map zt)=true then _ else _)=_
  rw [if_pos (t5 xs)]
  exact h1
 have f2:yb 1 (zw 3) (u9 true 2 3 (eC (.int 1))) [U7 (.par (.list (xs.map zt))),U7 (.par (.list (ys.map zt))),U7 (.dct (xs.foldl (xr 1) [])),a]=U7 (.next [U7 (.par (.list (xs.map zt))),U7 (.par (.list (ys.map zt))),U7 (.dct (ys.foldl (xr (-1)) (xs.foldl (xr 1) []))),b]):=by
  show (if lfs (ys.map zt)=true then _ else _)=_
  rw [if_pos (t5 ys)]
  exact h2
 show (ze (BW 2) (ze (yb 0 (zw 3) (u9 false 2 3 (eC (.int 1)))) (ze (yb 1 (zw 3) (u9 true 2 3 (eC (.int 1)))) (zq (zd (qy (n+1)) [(za 2)]))))) [U7 (.par (.list (xs.map zt))),U7 (.par (.list (ys.map zt))),UA,UA]=_
 rw [zv h0,zv f1,zv f2]
 have e3:za 2 [U7 (.par (.list (xs.map zt))),U7 (.par (.list (ys.map zt))),U7 (.dct (ys.foldl (xr (-1)) (xs.foldl (xr 1) []))),b]=U7 (.ok 1 (jz (ys.foldl (xr (-1)) (xs.foldl (xr 1) [])))):=rfl
 simp [zq,zd,zo,e3,zu,h3,jt,zi,dfr]
noncomputable def MN:FE:=(eEq (Ko (za 6)) (eC (.int 0)))
noncomputable def MD(g:FC):FS:=(ze (zl 5 (qh (za 5) (eC (.int 1)))) (zl 6 (zd g [(za 2),(za 4),(za 5)])))
theorem Fv(ts:List Ent):asg 2 (jz ts)=U7 (.loc (jz ts)):=rfl
theorem OC(r0 r1 r2 r3 r4 r5:Option Slot)(ts:List Ent):MN [r0,r1,r2,r3,r4,r5,U7 (.loc (jz ts))]=U7 (.ok 2 (.bool (decide (ts=[])))):=by
 have h:Kw (jz ts)=U7 (.int ts.length):=by
  unfold Kw
  rw [s8];rfl
 have h0:((ts.length:Int) == 0)=decide (ts=[]):=by
  cases ts with
  | nil=>rfl
  | cons x ts=>
   have:((((x::ts).length:Nat):Int) == 0)=false:=by simp only [UM,beq_eq_false_iff_ne];omega
   rw [this];simp
 simp only [MN,eEq,e2,Ko,e1,za,eC,zk,UD,UE,h,Va,nr,h0]
 rfl
theorem HH(g:FC)(i:Int){ts:List Ent}(hg:∀ s:Nat,s<=20->g [jz ts,.int i,.int (s:Int)]=U7 (.ok (jz (wz i s ts))))(S:Nat)(hS:S<=20)(hw:wz i (S:Int) ts≠[])(r0 r1 r3:Option Slot):
  ∀ (d s n:Nat),s+d=S->d < n->∃ s':Nat,s'<=20/\wz i (s':Int) ts≠[]/\yx MN (MD g) n [r0,r1,U7 (.loc (jz ts)),r3,U7 (.loc (.int i)),U7 (.loc (.int (s:Int))),U7 (.loc (jz (wz i (s:Int) ts)))]=
   U7 (.next [r0,r1,U7 (.loc (jz ts)),r3,U7 (.loc (.int i)),U7 (.loc (.int (s':Int))),U7 (.loc (jz (wz i (s':Int) ts)))])
 | d,s,0,_,h=>by omega
 | d,s,n+1,hd,h=>by
  rw [yx,OC]
  by_cases e:wz i (s:Int) ts=[]
  ·have hd0:d≠0:=λz=>by
     have:s=S:=by omega
     rw [this] at e;exact hw e
   obtain ⟨d',rfl⟩:∃ d',d=d'+1:=⟨d - 1,by omega⟩
   obtain ⟨s',h1,h2,h3⟩:=HH g i hg S hS hw r0 r1 r3 d' (s+1) n (by omega) (by omega)
   refine ⟨s',h1,h2,?_⟩
   have hb:MD g [r0,r1,U7 (.loc (jz ts)),r3,U7 (.loc (.int i)),U7 (.loc (.int (s:Int))),U7 (.loc (jz (wz i (s:Int) ts)))]=U7 (.next [r0,r1,U7 (.loc (jz ts)),r3,U7 (.loc (.int i)),U7 (.loc (.int ((s+1:Nat):Int))),U7 (.loc (jz (wz i ((s+1:Nat):Int) ts)))]):=by
    have hc:=hg (s+1) (by omega)
    have c1:zl 5 (qh (za 5) (eC (.int 1))) [r0,r1,U7 (.loc (jz ts)),r3,U7 (.loc (.int i)),U7 (.loc (.int (s:Int))),U7 (.loc (jz (wz i (s:Int) ts)))]=U7 (.next [r0,r1,U7 (.loc (jz ts)),r3,U7 (.loc (.int i)),U7 (.loc (.int ((s+1:Nat):Int))),U7 (.loc (jz (wz i (s:Int) ts)))]):=rfl
    unfold MD
    rw [zv c1]
    simp only [zl,zd,zo,za,UD,UE,zu,hc,jt,zi]
    show (asg 2 (jz (wz i ((s+1:Nat):Int) ts))).map _=_
    rw [Fv];rfl
   simp only [e,decide_true,zi]
   rw [e] at hb
   rw [hb]
   exact h3
  ·refine ⟨s,by omega,e,?_⟩
   simp only [e,decide_false,zi]
noncomputable def EW(g:FC):FS:=(ze (zl 5 (eC (.int 0))) (ze (zl 6 (zd g [(za 2),(za 4),(za 5)])) (ze (dz MN (MD g)) (ze (Hw 2 6) (yz 3 (za 5))))))
noncomputable def wzs(ts:List Ent):List (Int×Nat)->List Ent
 | []=>ts
 | p::ps=>wzs (wz p.1 (p.2:Int) ts) ps
theorem Pw(n:Nat)(i:Int){ts:List Ent}(gd:Good ts)(hne:ts≠[])(hl:ts.length < big)(r0 r1 r5 r6:Option Slot)(acc:List U8)(ha:acc.length < big):
  ∃ s:Nat,s<=20/\wz i (s:Int) ts≠[]/\∃ r5' r6',EW (jf (n+2)) [r0,r1,U7 (.loc (jz ts)),U7 (.own acc),U7 (.loc (.int i)),r5,r6]=U7 (.next [r0,r1,U7 (.loc (jz (wz i (s:Int) ts))),U7 (.own (acc++[.int (s:Int)])),U7 (.loc (.int i)),r5',r6']):=by
 obtain ⟨S,hS,hw⟩:=Hi i gd hne
 have hg:∀ s:Nat,s<=20->jf (n+2) [jz ts,.int i,.int (s:Int)]=U7 (.ok (jz (wz i s ts))):=λs hs=>O9 n i s (by omega) gd.len hl
 obtain ⟨s,h1,h2,h3⟩:=HH (jf (n+2)) i hg S hS hw r0 r1 (U7 (.own acc)) S 0 wFuel (by omega) (by have:wFuel=100000:=rfl;omega)
 refine ⟨s,h1,h2,U7 (.loc (.int (s:Int))),U7 (.loc (jz (wz i (s:Int) ts))),?_⟩
 have c1:zl 5 (eC (.int 0)) [r0,r1,U7 (.loc (jz ts)),U7 (.own acc),U7 (.loc (.int i)),r5,r6]=U7 (.next [r0,r1,U7 (.loc (jz ts)),U7 (.own acc),U7 (.loc (.int i)),U7 (.loc (.int ((0:Nat):Int))),r6]):=rfl
 have c2:zl 6 (zd (jf (n+2)) [(za 2),(za 4),(za 5)]) [r0,r1,U7 (.loc (jz ts)),U7 (.own acc),U7 (.loc (.int i)),U7 (.loc (.int ((0:Nat):Int))),r6]=U7 (.next [r0,r1,U7 (.loc (jz ts)),U7 (.own acc),U7 (.loc (.int i)),U7 (.loc (.int ((0:Nat):Int))),U7 (.loc (jz (wz i ((0:Nat):Int) ts)))]):=by
  have hc:=hg 0 (by omega)
  simp only [zl,zd,zo,za,UD,UE,zu,hc,jt,zi]
  show (asg 2 (jz (wz i ((0:Nat):Int) ts))).map _=_
  rw [Fv];rfl
 have c3:dz MN (MD (jf (n+2))) [r0,r1,U7 (.loc (jz ts)),U7 (.own acc),U7 (.loc (.int i)),U7 (.loc (.int ((0:Nat):Int))),U7 (.loc (jz (wz i ((0:Nat):Int) ts)))]=_:=h3
 unfold EW
 rw [zv c1,zv c2,zv c3]
 have c4:Hw 2 6 [r0,r1,U7 (.loc (jz ts)),U7 (.own acc),U7 (.loc (.int i)),U7 (.loc (.int (s:Int))),U7 (.loc (jz (wz i (s:Int) ts)))]=U7 (.next [r0,r1,U7 (.loc (jz (wz i (s:Int) ts))),U7 (.own acc),U7 (.loc (.int i)),U7 (.loc (.int (s:Int))),U7 (.loc (jz (wz i (s:Int) ts)))]):=rfl
 rw [zv c4]
 show (if (lf (.int (s:Int)) && decide (acc.length < big))=true then _ else UA)=_
 rw [if_pos (by simp [lf,ha])]
 rfl
theorem Q6(n:Nat)(r0 r1:Option Slot):∀ (is:List Int) (ts:List Ent) (acc:List U8) (r4 r5 r6:Option Slot),Good ts->ts≠[]->ts.length < big->acc.length+is.length < big->
  ∃ ss:List Nat,ss.length=is.length/\(∀ s∈ss,s<=20)/\wzs ts (is.zip ss)≠[]/\∃ r4' r5' r6',qg (zw 4) (EW (jf (n+2))) (is.map .int) [r0,r1,U7 (.loc (jz ts)),U7 (.own acc),r4,r5,r6]=
   U7 (.next [r0,r1,U7 (.loc (jz (wzs ts (is.zip ss)))),U7 (.own (acc++ss.map λ(s:Nat)=>.int (s:Int))),r4',r5',r6'])
 | [],ts,acc,r4,r5,r6,_,hne,_,_=>⟨[],rfl,(λs h=>by cases h),hne,r4,r5,r6,by simp [qg,wzs]⟩
 | i::is,ts,acc,r4,r5,r6,gd,hne,hl,ha=>by
  simp only [UM] at ha
  obtain ⟨s,h1,h2,a,b,h3⟩:=Pw n i gd hne hl r0 r1 r5 r6 acc (by omega)
  have hl2:=Rb i (s:Int) ts
  obtain ⟨ss,k1,k2,k3,c,d,e,k4⟩:=Q6 n r0 r1 is (wz i (s:Int) ts) (acc++[.int (s:Int)]) (U7 (.loc (.int i))) a b (JQ i s gd) h2 (by omega) (by simp only [UC,UX];omega)
  refine ⟨s::ss,by simp [k1],λx hx=>?_,k3,c,d,e,?_⟩
  ·rcases Vl.mp hx with rfl | hx
   ·exact h1
   ·exact k2 x hx
  ·rw [UR,qg]
   show (match EW (jf (n+2)) [r0,r1,U7 (.loc (jz ts)),U7 (.own acc),U7 (.loc (.int i)),r5,r6] with
    | some (.next ρ2)=>qg (zw 4) (EW (jf (n+2))) (is.map .int) ρ2
    | some (.cont ρ2)=>qg (zw 4) (EW (jf (n+2))) (is.map .int) ρ2
    | some (.brk ρ2)=>U7 (.next ρ2)
    | r=>r)=_
   rw [h3]
   show qg (zw 4) (EW (jf (n+2))) (is.map .int) _=_
   rw [k4]
   simp [wzs]
theorem Iy(n:Nat)(xs ys:List (List Int))(hl:xs.length+ys.length < 1000)(hx:∀ x∈xs,Rs x/\x.length<=20)(hy:∀ x∈ys,Rs x/\x.length<=20)(hp:¬ xs.Perm ys):
  ∃ ss:List Nat,ss.length=4/\(∀ s∈ss,s<=20)/\wzs (dfr xs ys) ([0,1,2,3].zip ss)≠[]/\ya (n+3) [.list (xs.map zt),.list (ys.map zt)]=U7 (.ok (.tuple (ss.map λ(s:Nat)=>.int (s:Int)))):=by
 have hb:big=100000:=rfl
 have gd:=Hg hx hy
 have hne:dfr xs ys≠[]:=λz=>hp (OG z)
 have hdl:=OB xs ys
 have hd:=Pi n xs ys (by omega)
 obtain ⟨ss,h1,h2,h3,a,b,c,h4⟩:=Q6 n (U7 (.par (.list (xs.map zt)))) (U7 (.par (.list (ys.map zt)))) [0,1,2,3] (dfr xs ys) [] UA UA UA gd hne (by omega) (by simp only [Vm,UM];omega)
 refine ⟨ss,h1,h2,h3,?_⟩
 show qj 7 (md (jf (n+2)) (yq (n+2))) [.list (xs.map zt),.list (ys.map zt)]=_
 refine ky ?_
 have c1:zl 2 (zd (yq (n+2)) [(za 0),(za 1)]) [U7 (.par (.list (xs.map zt))),U7 (.par (.list (ys.map zt))),UA,UA,UA,UA,UA]=U7 (.next [U7 (.par (.list (xs.map zt))),U7 (.par (.list (ys.map zt))),U7 (.loc (jz (dfr xs ys))),UA,UA,UA,UA]):=by
  simp only [zl,zd,zo,za,UD,UE,zu,hd,jt,zi]
  show (asg 2 (jz (dfr xs ys))).map _=_
  rw [Fv];rfl
 have c2:zl 3 (q9 []) [U7 (.par (.list (xs.map zt))),U7 (.par (.list (ys.map zt))),U7 (.loc (jz (dfr xs ys))),UA,UA,UA,UA]=U7 (.next [U7 (.par (.list (xs.map zt))),U7 (.par (.list (ys.map zt))),U7 (.loc (jz (dfr xs ys))),U7 (.own []),UA,UA,UA]):=rfl
 have c3:ye (iC [.int 0,.int 1,.int 2,.int 3]) (zw 4) (EW (jf (n+2))) [U7 (.par (.list (xs.map zt))),U7 (.par (.list (ys.map zt))),U7 (.loc (jz (dfr xs ys))),U7 (.own []),UA,UA,UA]=U7 (.next [U7 (.par (.list (xs.map zt))),U7 (.par (.list (ys.map zt))),U7 (.loc (jz (wzs (dfr xs ys) ([0,1,2,3].zip ss)))),U7 (.own (ss.map λ(s:Nat)=>.int (s:Int))),a,b,c]):=by
  simp only [ye,iC]
  exact h4
 show (ze (zl 2 (zd (yq (n+2)) [(za 0),(za 1)])) (ze (zl 3 (q9 [])) (ze (ye (iC [.int 0,.int 1,.int 2,.int 3]) (zw 4) (EW (jf (n+2)))) (zq (fx (za 3)))))) [U7 (.par (.list (xs.map zt))),U7 (.par (.list (ys.map zt))),UA,UA,UA,UA,UA]=_
 rw [zv c1,zv c2,zv c3]
 have hlf:lfs (ss.map λ(s:Nat)=>Wm (s:Int))=true:=by
  have:=AG (ss.map λ(s:Nat)=>(s:Int))
  rwa [XD] at this
 have e3:za 3 [U7 (.par (.list (xs.map zt))),U7 (.par (.list (ys.map zt))),U7 (.loc (jz (wzs (dfr xs ys) ([0,1,2,3].zip ss)))),U7 (.own (ss.map λ(s:Nat)=>.int (s:Int))),a,b,c]=U7 (.ok 1 (.list (ss.map λ(s:Nat)=>.int (s:Int)))):=rfl
 have e4:mz (.list (ss.map λ(s:Nat)=>Wm (s:Int)))=U7 (.tuple (ss.map λ(s:Nat)=>Wm (s:Int))):=by
  unfold mz
  dsimp only
  rw [if_pos hlf]
 have e5:lf (.tuple (ss.map λ(s:Nat)=>Wm (s:Int)))=true:=by simpa [lf] using hlf
 simp only [zq,fx,e1,e3,zk,e4,Va,zi,e5,Bool.true_or,if_true]
noncomputable def pr(f:Int->Int):List Int->Int
 | []=>1
 | x::xs=>f x * pr f xs
noncomputable def te(f:Int->Int):List Ent->Int
 | []=>0
 | x::ts=>x.2 * pr f x.1+te f ts
noncomputable def tt(f:Int->Int):List (List Int)->Int
 | []=>0
 | k::ks=>pr f k+tt f ks
theorem Nx(f:Int->Int):∀ x y:List Int,pr f (x++y)=pr f x * pr f y
 | [],y=>by simp [pr]
 | a::x,y=>by simp only [WD,pr,Nx f x y,XN]
theorem Pa(f:Int->Int){x y:List Int}(h:x.Perm y):pr f x=pr f y:=by
 induction h with
 | nil=>rfl
 | cons a _ ih=>simp only [pr,ih]
 | swap a b l=>simp only [pr,<- XN,Ze (f a)]
 | trans _ _ h1 h2=>exact h1.trans h2
theorem Jr(f:Int->Int):∀ x y:List (List Int),tt f (x++y)=tt f x+tt f y
 | [],y=>by simp [tt]
 | a::x,y=>by simp only [WD,tt,Jr f x y,Int.add_assoc]
theorem K8(f:Int->Int){x y:List (List Int)}(h:x.Perm y):tt f x=tt f y:=by
 induction h with
 | nil=>rfl
 | cons a _ ih=>simp only [tt,ih]
 | swap a b l=>simp only [tt];omega
 | trans _ _ h1 h2=>exact h1.trans h2
theorem Nj(f:Int->Int):∀ x y:List Ent,te f (x++y)=te f x+te f y
 | [],y=>by simp [te]
 | a::x,y=>by simp only [WD,te,Nj f x y,Int.add_assoc]
theorem Nz(f:Int->Int)(i:Int):∀ k:List Int,f i ^ ct i k * pr f (rst i k)=pr f k
 | []=>by simp [ct,rst,pr]
 | x::k=>by
  have ih:=Nz f i k
  by_cases h:x=i
  ·subst h
   have e1:ct x (x::k)=ct x k+1:=by simp [ct]
   have e2:rst x (x::k)=rst x k:=by simp [rst]
   rw [e1,e2,pr,<- ih,Int.pow_succ,Ze (f x ^ ct x k) (f x),XN]
  ·have e1:ct i (x::k)=ct i k:=by simp [ct,h]
   have e2:rst i (x::k)=x::rst i k:=by simp [rst,h]
   rw [e1,e2,pr,pr,<- ih,<- XN,Ze (f i ^ ct i k) (f x),XN]
theorem NI(f:Int->Int):∀ ts:List Ent,te f (nz ts)=te f ts
 | []=>rfl
 | x::ts=>by
  have ih:=NI f ts
  unfold nz at ih ⊢
  by_cases h:x.2=0
  ·rw [List.filter_cons_of_neg (by simp [h]),ih,te,h];simp
  ·rw [List.filter_cons_of_pos (by simp [h]),te,te,ih]
theorem Mn{k:List Int}{n:Int}:∀ {ts:List Ent},k∉wo ts->ts.map (λx=>if x.1=k then (x.1,n) else x)=ts
 | [],_=>rfl
 | x::ts,h=>by
  simp only [wo,UR,Vl,not_or] at h
  rw [UR,if_neg (λz=>h.1 z.symm),Mn (ts:=ts) h.2]
theorem NC(f:Int->Int)(k:List Int)(n:Int):∀ ts:List Ent,(wo ts).Nodup->k∈wo ts->te f (ts.map (λx=>if x.1=k then (x.1,n) else x))=te f ts+(n - (xa ts k).getD 0) * pr f k
 | [],_,h=>by cases h
 | x::ts,nd,h=>by
  simp only [wo,UR,W1] at nd
  rw [kf,UR]
  by_cases e:x.1=k
  ·subst e
   rw [if_pos rfl,if_pos rfl,Mn nd.1,te,te,YN,Int.sub_mul]
   generalize n * pr f x.1=a
   generalize x.2 * pr f x.1=b
   omega
  ·rw [if_neg e,if_neg e,te,te,NC f k n ts nd.2 (by
     simp only [wo,UR,Vl] at h
     exact h.resolve_left λz=>e z.symm)]
   omega
theorem MG(f:Int->Int)(ts:List Ent)(k:List Int)(n:Int)(nd:(wo ts).Nodup):te f (u3 ts k n)=te f ts+(n - (xa ts k).getD 0) * pr f k:=by
 unfold u3
 split
 ·rename_i h
  refine NC f k n ts nd ?_
  obtain ⟨x,hx,e⟩:=List.any_eq_true.mp h
  exact WG.mpr ⟨x,hx,of_decide_eq_true e⟩
 ·rename_i h
  rw [DC (Bool.eq_false_iff.mpr h),Nj]
  simp [te]
theorem Km(f:Int->Int)(i:Int):∀ (ts acc:List Ent),(wo acc).Nodup->te f (ts.foldl (av i (f i)) acc)=te f acc+te f ts
 | [],acc,_=>by simp [te]
 | x::ts,acc,nd=>by
  rw [Ws,Km f i ts (av i (f i) acc x) (o7 nd)]
  unfold av
  rw [MG f acc _ _ nd,te,<- Nz f i x.1,Int.add_comm ((xa acc (rst i x.1)).getD 0),Int.add_sub_cancel,XN]
  omega
theorem S8(f:Int->Int)(i s:Int)(h:f i=s)(ts:List Ent):te f (wz i s ts)=te f ts:=by
 subst h
 unfold wz
 rw [NI,Km f i ts [] Wx]
 simp [te]
theorem NQ(f:Int->Int):∀ (ps:List (Int×Nat)) (ts:List Ent),(∀ p∈ps,f p.1=(p.2:Int))->te f (wzs ts ps)=te f ts
 | [],ts,_=>rfl
 | p::ps,ts,h=>by
  rw [wzs,NQ f ps _ (λq hq=>h q (UQ _ hq)),S8 f _ _ (h p UN)]
theorem Fc(f:Int->Int)(n:Int):∀ (ks:List (List Int)) (acc:List Ent),(wo acc).Nodup->te f (ks.foldl (xr n) acc)=te f acc+n * tt f ks
 | [],acc,_=>by simp [tt]
 | k::ks,acc,nd=>by
  rw [Ws,Fc f n ks (xr n acc k) (o7 nd)]
  unfold xr
  rw [MG f acc _ _ nd,tt,Int.add_comm ((xa acc k).getD 0),Int.add_sub_cancel,YV]
  omega
theorem Ra(f:Int->Int)(xs ys:List (List Int)):te f (dfr xs ys)=tt f xs - tt f ys:=by
 unfold dfr
 rw [NI,Fc f (-1) ys _ (gy 1 xs [] Wx).1,Fc f 1 xs [] Wx]
 simp only [te]
 omega
theorem EB(i s:Int){ts:List Ent}:∀ x∈wz i s ts,∃ y∈ts,x.1=rst i y.1:=λx hx=>by
 rcases (A3 i s ts [] Wx).2 x.1 (WG.mpr ⟨x,(W0.mp hx).1,rfl⟩) with z | z
 ·cases z
 ·exact z
theorem OS{xs ys:List (List Int)}:∀ x∈dfr xs ys,x.1∈xs∨x.1∈ys:=λx hx=>by
 obtain ⟨h1,h2⟩:=gy 1 xs [] Wx
 obtain ⟨h3,h4⟩:=gy (-1) ys (xs.foldl (xr 1) []) h1
 rcases h4 x.1 (WG.mpr ⟨x,(W0.mp hx).1,rfl⟩) with z | z
 ·rcases h2 x.1 z with z | z
  ·cases z
  ·exact .inl z
 ·exact .inr z
noncomputable def Hj{ts:List Ent}(g:Good ts):∀ ps:List (Int×Nat),Good (wzs ts ps)
 | []=>g
 | p::ps=>Hj (JQ p.1 p.2 g) ps
theorem OA(f:Int->Int){ts:List Ent}(g:Good ts)(hne:ts≠[])(hk:∀ x∈ts,x.1=[]):te f ts≠0:=by
 match ts,hne,g,hk with
 | [x],_,g,hk=>
  have h1:=hk x UN
  have h2:=g.ne x UN
  simp only [te,h1,pr]
  omega
 | x::y::ts,_,g,hk=>
  have nd:=g.nd
  simp only [wo,UR,W1,Vl,not_or] at nd
  exact absurd ((hk x UN).trans (hk y (UQ _ UN)).symm) nd.1.1
theorem MY{k:List Int}(h:∀ x∈k,x=0∨x=1∨x=2∨x=3):rst 3 (rst 2 (rst 1 (rst 0 k)))=[]:=by
 refine List.eq_nil_iff_forall_not_mem.mpr λx hx=>?_
 unfold rst at hx
 simp only [W0,Bool.not_eq_true',beq_eq_false_iff_ne] at hx
 obtain ⟨⟨⟨⟨h0,h1⟩,h2⟩,h3⟩,h4⟩:=hx
 rcases h x h0 with rfl | rfl | rfl | rfl
 ·exact h1 rfl
 ·exact h2 rfl
 ·exact h3 rfl
 ·exact h4 rfl
theorem Nv{xs ys:List (List Int)}{s0 s1 s2 s3:Nat}(f:Int->Int)(f0:f 0=s0)(f1:f 1=s1)(f2:f 2=s2)(f3:f 3=s3)(hx:∀ x∈xs,Rs x/\x.length<=20)(hy:∀ x∈ys,Rs x/\x.length<=20)
  (ix:∀ r∈xs,∀ x∈r,x=0∨x=1∨x=2∨x=3) (iy:∀ r∈ys,∀ x∈r,x=0∨x=1∨x=2∨x=3) (hne:wzs (dfr xs ys) ([0,1,2,3].zip [s0,s1,s2,s3])≠[]):tt f xs≠tt f ys:=by
 intro e
 have g:=Hj (Hg hx hy) ([0,1,2,3].zip [s0,s1,s2,s3])
 refine OA f g hne (λx hx=>?_) ?_
 ·simp only [Wk,wzs,Y6] at hx
  obtain ⟨a,ha,e1⟩:=EB _ _ x hx
  obtain ⟨b,hb,e2⟩:=EB _ _ a ha
  obtain ⟨c,hc,e3⟩:=EB _ _ b hb
  obtain ⟨d,hd,e4⟩:=EB _ _ c hc
  rw [e1,e2,e3,e4]
  exact MY ((OS d hd).elim (ix _) (iy _))
 ·rw [NQ f _ _ (λp hp=>by
   simp only [Wk,Y6,Vl,List.not_mem_nil,or_false] at hp
   rcases hp with rfl | rfl | rfl | rfl
   ·exact f0
   ·exact f1
   ·exact f2
   ·exact f3),Ra,e,Int.sub_self]
inductive Kd where
 | none
 | one
 | name (i:Int)
 | either (a b:Kd)
 | both (a b:Kd)
noncomputable def enc:Kd->U8
 | .none=>.tuple [.str "none"]
 | .one=>.tuple [.str "one"]
 | .name i=>.tuple [.str "name",.int i]
 | .either a b=>.tuple [.str "either",enc a,enc b]
 | .both a b=>.tuple [.str "both",enc a,enc b]
noncomputable def Kd.leaves:Kd->Nat
 | .either a b=>a.leaves+b.leaves
 | .both a b=>a.leaves+b.leaves
 | _=>1
noncomputable def Kd.Ok:Kd->Prop
 | .name i=>0<=i/\i<=3
 | .either a b=>a.Ok/\b.Ok
 | .both a b=>a.Ok/\b.Ok
 | _=>True
theorem Kd.pos:∀ k:Kd,1<=k.leaves
 | .none=>UI _
 | .one=>UI _
 | .name _=>UI _
 | .either a b=>by have:=a.pos;simp only [leaves];omega
 | .both a b=>by have:=a.pos;simp only [leaves];omega
theorem qb:∀ k:Kd,lf (enc k)=true
 | .none=>rfl
 | .one=>rfl
 | .name _=>rfl
 | .either a b=>by simp [enc,lf,lfs,qb a,qb b]
 | .both a b=>by simp [enc,lf,lfs,qb a,qb b]
theorem Fo:WT "none" =true:=by decide +kernel
theorem Ir:WT "one" =true:=by decide +kernel
theorem Kj:WT "name" =true:=by decide +kernel
theorem AH:WT "either" =true:=by decide +kernel
theorem Ex:WT "both" =true:=by decide +kernel
theorem pf:∀ k:Kd,(enc k).canLay0=true
 | .none=>by simp [enc,Vi,UP,Fo]
 | .one=>by simp [enc,Vi,UP,Ir]
 | .name _=>by simp [enc,Vi,UP,Kj]
 | .either a b=>by simp [enc,Vi,UP,AH,pf a,pf b]
 | .both a b=>by simp [enc,Vi,UP,Ex,pf a,pf b]
theorem aa:∀ k:Kd,(enc k).depth<=k.leaves
 | .none=>by simp [enc,V5,Vg,Kd.leaves]
 | .one=>by simp [enc,V5,Vg,Kd.leaves]
 | .name _=>by simp [enc,V5,Vg,Kd.leaves]
 | .either a b=>by
  have:=aa a;have:=aa b;have:=a.pos;have:=b.pos
  simp [enc,V5,Vg,Kd.leaves];omega
 | .both a b=>by
  have:=aa a;have:=aa b;have:=a.pos;have:=b.pos
  simp [enc,V5,Vg,Kd.leaves];omega
theorem w01:(("either":Vk) == "none")=false:=by decide +kernel
theorem w02:(("either":Vk) == "one")=false:=by decide +kernel
theorem w03:(("either":Vk) == "name")=false:=by decide +kernel
theorem w04:(("both":Vk) == "none")=false:=by decide +kernel
theorem w05:(("both":Vk) == "one")=false:=by decide +kernel
theorem w06:(("both":Vk) == "name")=false:=by decide +kernel
theorem w07:(("both":Vk) == "either")=false:=by decide +kernel
theorem w08:(("one":Vk) == "none")=false:=by decide +kernel
theorem w09:(("name":Vk) == "none")=false:=by decide +kernel
theorem w10:(("name":Vk) == "one")=false:=by decide +kernel
theorem w11:(("none":Vk) == "one")=false:=by decide +kernel
theorem w12:(("either":Vk) == "both")=false:=by decide +kernel
theorem w13:(("none":Vk) == "either")=false:=by decide +kernel
theorem w14:(("none":Vk) == "both")=false:=by decide +kernel
theorem w15:(("one":Vk) == "either")=false:=by decide +kernel
theorem w16:(("one":Vk) == "both")=false:=by decide +kernel
theorem w17:(("name":Vk) == "either")=false:=by decide +kernel
theorem w18:(("name":Vk) == "both")=false:=by decide +kernel
theorem jh(l:List (List Int)):(q0 g9 l).Perm l:=by
 rw [show (g9:List Int->List Int->Bool)=HT.lexLt from funext λa=>funext λb=>i0 a b]
 exact uf (O:=rowOrd) l
theorem fw{l m:List (List Int)}(h:l.Perm m):q0 g9 l=q0 g9 m:=by
 rw [show (g9:List Int->List Int->Bool)=HT.lexLt from funext λa=>funext λb=>i0 a b]
 exact ao (O:=rowOrd) ((uf (O:=rowOrd) l).trans h) (af (O:=rowOrd) l)
theorem Cw(l:List (List Int)):q0 g9 (q0 g9 l)=q0 g9 l:=fw (jh l)
theorem ui(l:List Int):(q0 ltI l).Perm l:=uf (O:=intOrd) l
theorem C5{l m:List Int}(h:l.Perm m):q0 ltI l=q0 ltI m:=ao (O:=intOrd) ((uf (O:=intOrd) l).trans h) (af (O:=intOrd) l)
theorem Ld(l:List Int):(q0 ltI l).length=l.length:=(ui l).length_eq
theorem vg(l:List (List Int)):(q0 g9 l).length=l.length:=(jh l).length_eq
noncomputable def vh(x:List Int)(ys:List (List Int)):List (List Int):=ys.map λy=>q0 ltI (x++y)
noncomputable def jw(xs ys:List (List Int)):List (List Int):=xs.flatMap λx=>vh x ys
theorem DG(xs:List (List Int)):jw xs []=[]:=by
 induction xs with
 | nil=>rfl
 | cons x xs ih=>simpa [jw,vh] using ih
theorem wk(x:List Int)(xs ys:List (List Int)):jw (x::xs) ys=vh x ys++jw xs ys:=rfl
theorem il(xs ys:List (List Int)):(jw xs ys).length=xs.length * ys.length:=by
 induction xs with
 | nil=>simp [jw]
 | cons x xs ih=>rw [wk,UC,ih,UM,Nat.succ_mul,Nat.add_comm];simp [vh]
theorem lg{xs xs' ys ys':List (List Int)}(hx:xs.Perm xs')(hy:ys.Perm ys'):(jw xs ys).Perm (jw xs' ys'):=by
 refine (hx.flatMap_right _).trans ?_
 show (jw xs' ys).Perm _
 clear hx
 induction xs' with
 | nil=>exact .refl _
 | cons x xs ih=>rw [wk,wk];exact (hy.map _).append ih
noncomputable def lb:Kd->List (List Int)
 | .none=>[]
 | .one=>[[]]
 | .name i=>[[i]]
 | .either a b=>q0 g9 (lb a++lb b)
 | .both a b=>q0 g9 (jw (lb a) (lb b))
noncomputable def brn:Kd->Bool
 | .none=>true
 | .one=>false
 | .name _=>false
 | .either a b=>brn a && brn b
 | .both a b=>brn a || brn b
noncomputable def ga:Kd->List (List Int)
 | .none=>[]
 | .one=>[[]]
 | .name i=>[[i]]
 | .either a b=>ga a++ga b
 | .both a b=>if (brn a || brn b)=true then [] else jw (ga a) (ga b)
theorem tm:∀ k:Kd,brn k=true->lb k=[]
 | .none,_=>rfl
 | .one,h=>by cases h
 | .name _,h=>by cases h
 | .either a b,h=>by
  simp only [brn,Ve] at h
  simp [lb,tm a h.1,tm b h.2,q0]
 | .both a b,h=>by
  simp only [brn,Bool.or_eq_true] at h
  rcases h with h | h
  ·simp [lb,tm a h,jw,q0]
  ·simp [lb,tm b h,DG,q0]
theorem lh:∀ k:Kd,(ga k).Perm (lb k)
 | .none=>.refl _
 | .one=>.refl _
 | .name _=>.refl _
 | .either a b=>((lh a).append (lh b)).trans (jh _).symm
 | .both a b=>by
  simp only [ga]
  split
  ·rename_i h
   rw [tm (.both a b) (by simpa [brn] using h)]
  ·exact (lg (lh a) (lh b)).trans (jh _).symm
theorem ie:∀ k:Kd,q0 g9 (lb k)=lb k
 | .none=>rfl
 | .one=>rfl
 | .name _=>rfl
 | .either a b=>Cw _
 | .both a b=>Cw _
theorem Pk(k:Kd):q0 g9 (ga k)=lb k:=(fw (lh k)).trans (ie k)
theorem Sw(k:Kd):(ga k).length=(lb k).length:=(lh k).length_eq
noncomputable def Fit:Kd->Prop
 | .either a b=>Fit a/\Fit b/\(lb a).length+(lb b).length<=18
 | .both a b=>Fit a/\Fit b/\(lb a).length * (lb b).length<=18
 | _=>True
theorem nk:∀ (k:Kd),Fit k->(lb k).length<=18
 | .none,_=>by simp [lb]
 | .one,_=>by simp [lb]
 | .name _,_=>by simp [lb]
 | .either a b,h=>by simp only [lb,vg,UC];exact h.2.2
 | .both a b,h=>by simp only [lb,vg,il];exact h.2.2
theorem G3(k:Kd)(h:Fit k):(ga k).length<=18:=by rw [Sw];exact nk k h
theorem AQ{xs ys:List (List Int)}{r:List Int}(h:r∈jw xs ys):∃ x∈xs,∃ y∈ys,r=q0 ltI (x++y):=by
 unfold jw vh at h
 rw [List.mem_flatMap] at h
 obtain ⟨x,hx,h⟩:=h
 rw [WG] at h
 obtain ⟨y,hy,rfl⟩:=h
 exact ⟨x,hx,y,hy,rfl⟩
theorem ed:∀ (k:Kd) (r:List Int),r∈lb k->r.length<=k.leaves
 | .none,r,h=>by cases h
 | .one,r,h=>by simp only [lb,V7] at h;subst h;simp [Kd.leaves]
 | .name _,r,h=>by simp only [lb,V7] at h;subst h;simp [Kd.leaves]
 | .either a b,r,h=>by
  have h':=(jh _).mem_iff.mp h
  simp only [Kd.leaves]
  rcases VT.mp h' with h' | h'
  ·have:=ed a r h';omega
  ·have:=ed b r h';omega
 | .both a b,r,h=>by
  obtain ⟨x,hx,y,hy,rfl⟩:=AQ ((jh _).mem_iff.mp h)
  have:=ed a x hx;have:=ed b y hy
  simp only [Kd.leaves,Ld,UC];omega
theorem Mc(k:Kd)(r:List Int)(h:r∈ga k):r.length<=k.leaves:=ed k r ((lh k).mem_iff.mp h)
noncomputable def wb(rs:List (List Int)):U8:=.list (rs.map zt)
theorem my{rs:List (List Int)}(h:rs.length < 64):dSorted (wb rs)=U7 (wb (q0 g9 rs)):=IE h
theorem H0(x y:List Int)(h:x.length+y.length<=big):bz (zt x) (zt y)=U7 (zt (x++y)):=by
 simp [bz,zt,AG,h]
theorem Co{x:List Int}(h:x.length < 64):dSorted (zt x)=U7 (.list ((q0 ltI x).map .int)):=IJ h
theorem HX(x:List Int):mz (.list (x.map .int))=U7 (zt x):=by simp [mz,AG,zt]
theorem oi:∀ (xs ys:List U8),lfs (xs++ys)=(lfs xs && lfs ys)
 | [],ys=>by simp [lfs]
 | x::xs,ys=>by simp [lfs,oi xs ys,Bool.and_assoc]
noncomputable def encP(p:List Int):U8:=.tuple (p.map .int)
theorem gk:∀ p:List Int,lfs (p.map .int)=true
 | []=>rfl
 | _::p=>by simp [lfs,lf,gk p]
theorem Ag:∀ p:List Int,UP (p.map .int)=true
 | []=>rfl
 | _::p=>by simp [UP,Vi,Ag p]
theorem xy(p:List Int):(encP p).canLay0=true:=by simp [encP,Vi,Ag]
theorem qz(p:List Int):lf (encP p)=true:=by simp [encP,lf,gk]
theorem Eo:∀ xs:List (List Int),UP (xs.map encP)=true
 | []=>rfl
 | x::xs=>by simp [UP,xy];exact Eo xs
theorem El:∀ xs:List (List Int),lfs (xs.map encP)=true
 | []=>rfl
 | x::xs=>by simp [lfs,qz];exact El xs
theorem w9(p:List Int)(i:Int)(h:p.length<=90000):bz (encP p) (.tuple [.int i])=U7 (encP (p++[i])):=by
 have hb:p.length+1<=big:=by unfold big;omega
 simp [bz,encP,gk,lfs,lf,hb]
theorem Mz(xs:List U8)(h:UP xs=true):dNe (.list xs) (.list [])=U7 (.bool (!xs.isEmpty)):=by
 have h1:dh (.list xs) (.list [])=true:=by
  simp [dh,Vi,h,UP,V5,Vg]
 cases xs<;>simp [dNe,yu,h1,Vf,VF]
noncomputable def jn:Kd->Int->Option Kd
 | .either a b,s=>if s=0 then U7 a else if s=1 then U7 b else UA
 | .both a b,s=>if s=0 then U7 a else if s=1 then U7 b else UA
 | _,_=>UA
noncomputable def qi:Kd->List Int->Option Kd
 | k,[]=>U7 k
 | k,s::p=>(jn k s).bind λc=>qi c p
theorem at0(x:U8)(xs:List U8):atP (x::xs) 0=U7 x:=by simp [atP,ixP]
theorem at1(x y:U8)(xs:List U8):atP (x::y::xs) 1=U7 y:=by
 unfold atP ixP
 rw [if_pos (by decide),if_pos (by simp only [UM];omega)];rfl
theorem at2(x y z:U8)(xs:List U8):atP (x::y::z::xs) 2=U7 z:=by
 unfold atP ixP
 rw [if_pos (by decide),if_pos (by simp only [UM];omega)];rfl
noncomputable def hd:Kd->Vk
 | .none=>"none"
 | .one=>"one"
 | .name _=>"name"
 | .either _ _=>"either"
 | .both _ _=>"both"
theorem Ic(k:Kd):dIx (enc k) (.int 0)=U7 (.str (hd k)):=by cases k<;>exact at0 _ _
theorem Qz(k:Kd):WT (hd k)=true:=by cases k<;>simp only [hd,Fo,Ir,Kj,AH,Ex]
noncomputable def inn:Kd->Bool
 | .either _ _=>true
 | .both _ _=>true
 | _=>false
theorem Qd{k:Kd}(h:inn k=true):∃ a b,enc k= .tuple [.str (hd k),enc a,enc b]/\(∀ s,jn k s=if s=0 then U7 a else if s=1 then U7 b else UA)/\k.leaves=a.leaves+b.leaves:=by
 cases k with
 | either a b=>exact ⟨a,b,rfl,λs=>rfl,rfl⟩
 | both a b=>exact ⟨a,b,rfl,λs=>rfl,rfl⟩
 | none=>cases h
 | one=>cases h
 | name _=>cases h
theorem KU{k:Kd}(h:inn k=false)(s:Int):jn k s=UA:=by cases k<;>first | rfl | cases h
theorem E9{k c:Kd}{s:Int}(h:jn k s=U7 c):dIx (enc k) (.int (1+s))=U7 (enc c)/\inn k=true/\(s=0∨s=1)/\c.leaves < k.leaves:=by
 have hi:inn k=true:=by
  cases hi:inn k with
  | true=>rfl
  | false=>rw [KU hi] at h;cases h
 obtain ⟨a,b,e,hs,hl⟩:=Qd hi
 rw [hs] at h
 rw [e]
 have pa:=a.pos
 have pb:=b.pos
 split at h
 ·rename_i h0
  cases h;subst h0
  exact ⟨at1 _ _ _,hi,.inl rfl,by omega⟩
 ·split at h
  ·rename_i h1
   cases h;subst h1
   exact ⟨at2 _ _ _ _,hi,.inr rfl,by omega⟩
  ·cases h
theorem AA:∀ (p q:List Int) (k:Kd),qi k (p++q)=(qi k p).bind λk'=>qi k' q
 | [],q,k=>by simp [qi]
 | s::p,q,k=>by
  simp only [WD,qi]
  cases jn k s with
  | none=>rfl
  | some c=>simp only [X4];exact AA p q c
theorem Eb:∀ (q:List Int) (k k':Kd),qi k q=U7 k'->q.length+k'.leaves<=k.leaves
 | [],k,k',h=>by simp only [qi] at h;cases h;simp
 | s::q,k,k',h=>by
  simp only [qi] at h
  cases hs:jn k s with
  | none=>rw [hs] at h;cases h
  | some c=>
   rw [hs] at h
   have:=Eb q c k' h
   have:=(E9 hs).2.2.2
   simp only [UM]
   omega
theorem xg{tg:FT}{body:FS}{d:U8}{ds:List U8}{ρ ρ1 ρ2:Rho}(h1:tg d ρ=U7 ρ1)(h2:body ρ1=U7 (.next ρ2)):qg tg body (d::ds) ρ=qg tg body ds ρ2:=by simp [qg,h1,h2]
noncomputable def CQ:Kd->Option Kd
 | .either a b=>U7 (.either b a)
 | .both a b=>U7 (.both b a)
 | _=>UA
noncomputable def dw:Kd->Option Kd
 | .either (.either a b) c=>U7 (.either a (.either b c))
 | .both (.both a b) c=>U7 (.both a (.both b c))
 | _=>UA
noncomputable def uv:Kd->Option Kd
 | .both a (.either b c)=>U7 (.either (.both a b) (.both a c))
 | _=>UA
noncomputable def CD:Kd->Option Kd
 | .either .none b=>U7 b
 | .both .none _=>U7 .none
 | .both .one b=>U7 b
 | _=>UA
noncomputable def yj(w:Vk)(k:Kd):Option Kd:=
 if (w == "swap")=true then CQ k else if (w == "group")=true then dw k else if (w == "spread")=true then uv k else if (w == "drop")=true then CD k else UA
noncomputable def ki:Kd->List Int->Kd->Kd
 | _,[],x=>x
 | .either a b,s::p,x=>if s=0 then .either (ki a p x) b else .either a (ki b p x)
 | .both a b,s::p,x=>if s=0 then .both (ki a p x) b else .both a (ki b p x)
 | k,_::_,_=>k
noncomputable def wu(k:Kd)(w:Vk)(p:List Int):Option Kd:=(qi k p).bind λx=>(yj w x).map (ki k p)
theorem v04:(("group":Vk) == "swap")=false:=by decide +kernel
theorem v05:(("group":Vk) == "spread")=false:=by decide +kernel
theorem v06:(("group":Vk) == "drop")=false:=by decide +kernel
theorem v07:(("spread":Vk) == "swap")=false:=by decide +kernel
theorem v08:(("spread":Vk) == "group")=false:=by decide +kernel
theorem v09:(("spread":Vk) == "drop")=false:=by decide +kernel
theorem v10:(("drop":Vk) == "swap")=false:=by decide +kernel
theorem v11:(("drop":Vk) == "group")=false:=by decide +kernel
theorem v12:(("drop":Vk) == "spread")=false:=by decide +kernel
theorem Fi{w v:Vk}(h:(w == v)=true):w=v:=by simpa using h
theorem MR(w:Vk):w= "swap"∨w= "group"∨w= "spread"∨w= "drop"∨((w == "swap")=false/\(w == "group")=false/\(w == "spread")=false/\(w == "drop")=false):=by
 cases h1:w == "swap" with
 | true=>exact .inl (Fi h1)
 | false=>
  cases h2:w == "group" with
  | true=>exact .inr (.inl (Fi h2))
  | false=>
   cases h3:w == "spread" with
   | true=>exact .inr (.inr (.inl (Fi h3)))
   | false=>
    cases h4:w == "drop" with
    | true=>exact .inr (.inr (.inr (.inl (Fi h4))))
    | false=>exact .inr (.inr (.inr (.inr ⟨rfl,rfl,rfl,rfl⟩)))
theorem oy(k:Kd):yj "swap" k=CQ k:=by simp [yj]
theorem tj(k:Kd):yj "group" k=dw k:=by simp only [yj,v04];simp
theorem m9(k:Kd):yj "spread" k=uv k:=by simp only [yj,v07,v08];simp
theorem b9(k:Kd):yj "drop" k=CD k:=by simp only [yj,v10,v11,v12];simp
theorem Fp(w:Vk)(k:Kd)(h:(w == "swap")=false/\(w == "group")=false/\(w == "spread")=false/\(w == "drop")=false):yj w k=UA:=by simp [yj,h.1,h.2.1,h.2.2.1,h.2.2.2]
theorem Lr(w:Vk)(k:Kd)(h:inn k=false):yj w k=UA:=by
 unfold yj
 cases k<;>first | (cases h;done) | (simp only [CQ,dw,uv,CD];(split<;>try rfl);(split<;>try rfl);(split<;>try rfl);(split<;>rfl))
theorem OW(A:FE)(ρ ρ':Rho):zq A ρ≠U7 (.next ρ'):=by
 unfold zq zi
 split<;>first | (simp;done) | (dsimp only;split<;>simp)
theorem ay{c A:FE}{T:FS}{ρ:Rho}{l:Nat}(h:c ρ=U7 (.ok l (.bool true))):ze (sIf c (zq A) zj) T ρ=zq A ρ:=by
 have hn:=OW A ρ
 simp only [ze,sIf,h,zi]
theorem jl{c A:FE}{T:FS}{ρ:Rho}{l:Nat}(h:c ρ=U7 (.ok l (.bool false))):ze (sIf c (zq A) zj) T ρ=T ρ:=by
 simp only [ze,sIf,h,zi,zj]
theorem Ao{a b:FE}{ρ:Rho}{l:Nat}(h:a ρ=U7 (.ok l (.bool false))):km a b ρ=U7 (.ok 2 (.bool false)):=by simp only [km,h,zk]
theorem uh{a b:FE}{ρ:Rho}{l:Nat}(h:a ρ=U7 (.ok l (.bool true))):km a b ρ=b ρ:=by simp only [km,h,zk]
theorem orT{a b:FE}{ρ:Rho}{l:Nat}(h:a ρ=U7 (.ok l (.bool true))):eOr a b ρ=U7 (.ok 2 (.bool true)):=by simp only [eOr,h,zk]
theorem orF{a b:FE}{ρ:Rho}{l:Nat}(h:a ρ=U7 (.ok l (.bool false))):eOr a b ρ=b ρ:=by simp only [eOr,h,zk]
theorem eqT{a b:FE}{ρ:Rho}{l m:Nat}{x y:Vk}(ha:a ρ=U7 (.ok l (.str x)))(hb:b ρ=U7 (.ok m (.str y))){r:Bool}(h:(x == y)=r):eEq a b ρ=U7 (.ok 2 (.bool r)):=by
 simp only [eEq,e2,ha,hb,zk,EY,h,Option.map,if_true]
theorem ixT{a:FE}{ρ:Rho}{l:Nat}{x y:U8}{i:Int}(ha:a ρ=U7 (.ok l x))(h:dIx x (.int i)=U7 y):eIx a (eC (.int i)) ρ=U7 (.ok (min l 2) y):=by
 simp only [eIx,e2,ha,eC,zk,h,Option.map,WA,if_false]
theorem LJ{a:FE}{ρ:Rho}{l:Nat}{x:U8}(ha:a ρ=U7 (.ok l x))(hl:lf x=true):zq a ρ=U7 (.ret x):=by
 simp only [zq,ha,zi,hl,Bool.true_or,if_true]
theorem Hx{a b c:FE}{ρ:Rho}{l m n:Nat}{x y z:U8}(ha:a ρ=U7 (.ok l x))(hb:b ρ=U7 (.ok m y))(hc:c ρ=U7 (.ok n z)):zm [a,b,c] ρ=U7 (.ok (min l (min m (min n 2))) (.tuple [x,y,z])):=by
 simp only [zm,zo,ha,hb,hc,zu]
noncomputable def jv(w:Vk)(p:List Int):U8:=.tuple [.str w,encP p]
theorem T6(x:U8)(xs:List U8):dIx (.tuple (x::xs)) (.int 0)=U7 x:=at0 x xs
theorem Fz(x y:U8)(xs:List U8):dIx (.tuple (x::y::xs)) (.int 1)=U7 y:=at1 x y xs
theorem F9(x y z:U8)(xs:List U8):dIx (.tuple (x::y::z::xs)) (.int 2)=U7 z:=at2 x y z xs
theorem Ci:∀ (k:Kd) (r:List Int),r∈lb k->q0 ltI r=r
 | .none,r,h=>by simp [lb] at h
 | .one,r,h=>by simp only [lb,V7] at h;subst h;rfl
 | .name i,r,h=>by simp only [lb,V7] at h;subst h;rfl
 | .either a b,r,h=>by
  rw [lb,(jh _).mem_iff,VT] at h
  rcases h with h | h
  ·exact Ci a r h
  ·exact Ci b r h
 | .both a b,r,h=>by
  rw [lb,(jh _).mem_iff] at h
  obtain ⟨x,_,y,_,rfl⟩:=AQ h
  exact C5 (ui _)
theorem KB(xs xs' ys:List (List Int)):jw (xs++xs') ys=jw xs ys++jw xs' ys:=by simp [jw]
theorem Bn(y:List Int)(ys:List (List Int)):∀ xs:List (List Int),(jw xs (y::ys)).Perm (xs.map (λx=>q0 ltI (x++y))++jw xs ys)
 | []=>.refl _
 | x::xs=>by
  rw [wk,wk,UR,WD]
  refine List.Perm.cons _ ?_
  show (vh x ys++jw xs (y::ys)).Perm _
  refine ((Bn y ys xs).append_left _).trans ?_
  rw [<- Vd,<- Vd]
  exact Xc.append_right _
theorem BL(xs ys:List (List Int)):∀ zs:List (List Int),(jw zs (xs++ys)).Perm (jw zs xs++jw zs ys)
 | []=>.refl _
 | z::zs=>by
  rw [wk,wk,wk]
  have e:vh z (xs++ys)=vh z xs++vh z ys:=by simp [vh]
  rw [e,Vd,Vd]
  refine List.Perm.append_left _ ?_
  refine ((BL xs ys zs).append_left _).trans ?_
  rw [<- Vd,<- Vd]
  exact Xc.append_right _
theorem C8:∀ xs ys:List (List Int),(jw xs ys).Perm (jw ys xs)
 | [],ys=>by rw [DG];exact .refl _
 | x::xs,ys=>by
  rw [wk]
  refine .trans ?_ (Bn x xs ys).symm
  have e:vh x ys=ys.map (λy=>q0 ltI (y++x)):=VL λy _=>C5 Xc
  rw [e]
  exact (C8 xs ys).append_left _
theorem LB(x y z:List Int):q0 ltI (q0 ltI (x++y)++z)=q0 ltI (x++q0 ltI (y++z)):=by
 refine C5 ?_
 refine ((ui (x++y)).append_right z).trans ?_
 rw [Vd]
 exact ((ui (y++z)).symm.append_left x)
theorem Bq(ys zs:List (List Int)):∀ xs:List (List Int),jw (jw xs ys) zs=jw xs (jw ys zs)
 | []=>rfl
 | x::xs=>by
  rw [wk,wk,KB,Bq ys zs xs]
  congr 1
  induction ys with
  | nil=>rfl
  | cons y ys ih=>
   show vh (q0 ltI (x++y)) zs++jw (vh x ys) zs=vh x (vh y zs++jw ys zs)
   rw [ih]
   have e:vh x (vh y zs++jw ys zs)=vh x (vh y zs)++vh x (jw ys zs):=by simp [vh]
   rw [e]
   congr 1
   simp only [vh,XD]
   exact VL λz _=>LB x y z
theorem NN(ys:List (List Int))(h:∀ r∈ys,q0 ltI r=r):vh [] ys=ys:=by
 unfold vh
 conv=>rhs;rw [<- List.map_id ys]
 exact VL λy hy=>h y hy
theorem OD{x y:Kd}(h:CQ x=U7 y):lb y=lb x:=by
 cases x<;>simp only [CQ,reduceCtorEq,V6] at h<;>subst h
 ·exact fw Xc
 ·exact fw (C8 _ _)
theorem MB{x y:Kd}(h:dw x=U7 y):lb y=lb x:=by
 unfold dw at h
 split at h<;>simp only [reduceCtorEq,V6] at h<;>subst h
 ·rename_i a b c
  refine fw ?_
  refine (((jh (lb b++lb c)).append_left (lb a)).trans ?_)
  rw [<- Vd]
  exact (jh (lb a++lb b)).symm.append_right (lb c)
 ·rename_i a b c
  refine fw ?_
  refine (lg (.refl _) (jh (jw (lb b) (lb c)))).trans ?_
  rw [<- Bq]
  exact lg (jh (jw (lb a) (lb b))).symm (.refl _)
theorem KC{x y:Kd}(h:uv x=U7 y):lb y=lb x:=by
 unfold uv at h
 split at h<;>simp only [reduceCtorEq,V6] at h
 subst h
 rename_i a b c
 refine fw ?_
 refine ((jh _).append (jh _)).trans ?_
 refine (BL (lb b) (lb c) (lb a)).symm.trans ?_
 exact lg (.refl _) (jh (lb b++lb c)).symm
theorem PR{x y:Kd}(h:CD x=U7 y):lb y=lb x:=by
 unfold CD at h
 split at h<;>simp only [reduceCtorEq,V6] at h<;>subst h
 ·exact (ie _).symm
 ·rfl
 ·rename_i b
  show lb b=q0 g9 (jw [[]] (lb b))
  have e:jw [[]] (lb b)=lb b:=by
   show vh [] (lb b)++[]=lb b
   rw [V3,NN _ (Ci b)]
  rw [e,ie]
theorem O7{w:Vk}{x y:Kd}(h:yj w x=U7 y):lb y=lb x:=by
 unfold yj at h
 split at h
 ·exact OD h
 ·split at h
  ·exact MB h
  ·split at h
   ·exact KC h
   ·split at h
    ·exact PR h
    ·cases h
theorem C4:∀ (p:List Int) (k x y:Kd),qi k p=U7 x->lb y=lb x->lb (ki k p y)=lb k
 | [],k,x,y,h,e=>by cases h;simpa [ki] using e
 | s::p,k,x,y,h,e=>by
  simp only [qi] at h
  cases hs:jn k s with
  | none=>rw [hs] at h;cases h
  | some c=>
   rw [hs] at h
   have h':qi c p=U7 x:=h
   cases k with
   | either a b=>
    simp only [ki]
    by_cases z:s=0
    ·subst z
     have:c=a:=by simpa [jn] using hs.symm
     subst this
     rw [if_pos rfl,lb,C4 p c x y h' e,lb]
    ·have:c=b:=by
       unfold jn at hs
       simp only [z,if_false] at hs
       split at hs<;>simp at hs
       exact hs.symm
     subst this
     rw [if_neg z,lb,C4 p c x y h' e,lb]
   | both a b=>
    simp only [ki]
    by_cases z:s=0
    ·subst z
     have:c=a:=by simpa [jn] using hs.symm
     subst this
     rw [if_pos rfl,lb,C4 p c x y h' e,lb]
    ·have:c=b:=by
       unfold jn at hs
       simp only [z,if_false] at hs
       split at hs<;>simp at hs
       exact hs.symm
     subst this
     rw [if_neg z,lb,C4 p c x y h' e,lb]
   | none=>simp [jn] at hs
   | one=>simp [jn] at hs
   | name i=>simp [jn] at hs
theorem O3{k k':Kd}{w:Vk}{p:List Int}(h:wu k w p=U7 k'):lb k'=lb k:=by
 unfold wu at h
 cases hp:qi k p with
 | none=>rw [hp] at h;cases h
 | some x=>
  rw [hp] at h
  cases hw:yj w x with
  | none=>simp [hw] at h
  | some y=>
   simp only [X4,hw,Va,V6] at h
   rw [<- h]
   exact C4 p k x y hp (O7 hw)
theorem CC:∀ k:Kd,brn k=false->lb k≠[]
 | .none,h=>by cases h
 | .one,_=>by simp [lb]
 | .name _,_=>by simp [lb]
 | .either a b,h=>λz=>by
  have l:=congrArg Xj z
  simp only [lb,vg,UC,Vm] at l
  simp only [brn,Bool.and_eq_false_iff] at h
  rcases h with h | h
  ·exact CC a h (VU.mp (by omega))
  ·exact CC b h (VU.mp (by omega))
 | .both a b,h=>λz=>by
  have l:=congrArg Xj z
  simp only [lb,vg,il,Vm] at l
  simp only [brn,Ya] at h
  rcases Nat.mul_eq_zero.mp l with e | e
  ·exact CC a h.1 (VU.mp e)
  ·exact CC b h.2 (VU.mp e)
noncomputable def In4(r:List Int):Prop:=∀ x∈r,x=0∨x=1∨x=2∨x=3
theorem PH{a b:Kd}(h:(lb a).Perm (lb b)):lb a=lb b:=by
 rw [<- ie a,<- ie b]
 exact fw h
theorem AB:∀ (k:Kd),k.Ok->∀ r∈lb k,In4 r
 | .none,_,r,h=>by cases h
 | .one,_,r,h=>by
  simp only [lb,V7] at h
  subst h
  intro x hx;cases hx
 | .name i,o,r,h=>by
  simp only [lb,V7] at h
  subst h
  intro x hx
  have e:x=i:=by simpa using hx
  have o:0<=i/\i<=3:=o
  subst e
  omega
 | .either a b,o,r,h=>by
  rcases VT.mp ((jh _).mem_iff.mp h) with h | h
  ·exact AB a o.1 r h
  ·exact AB b o.2 r h
 | .both a b,o,r,h=>by
  obtain ⟨x,hx,y,hy,rfl⟩:=AQ ((jh _).mem_iff.mp h)
  intro z hz
  rcases VT.mp ((ui _).mem_iff.mp hz) with hz | hz
  ·exact AB a o.1 x hx z hz
  ·exact AB b o.2 y hy z hz
structure Sz where
 a0:Int
 a1:Int
 a2:Int
 a3:Int
noncomputable def bx(z:Sz):U8:=.tuple [.int z.a0,.int z.a1,.int z.a2,.int z.a3]
noncomputable def Sz.In(z:Sz)(lo hi:Int):Prop:=(lo<=z.a0/\z.a0<=hi)/\(lo<=z.a1/\z.a1<=hi)/\(lo<=z.a2/\z.a2<=hi)/\(lo<=z.a3/\z.a3<=hi)
noncomputable def Sz.at(z:Sz)(i:Int):Int:=if i=0 then z.a0 else if i=1 then z.a1 else if i=2 then z.a2 else z.a3
theorem Sz.at_in{z:Sz}{lo hi:Int}(h:z.In lo hi)(i:Int):lo<=z.at i/\z.at i<=hi:=by
 obtain ⟨h0,h1,h2,h3⟩:=h
 unfold Sz.at
 split
 ·exact h0
 ·split
  ·exact h1
  ·split
   ·exact h2
   ·exact h3
theorem T9{z:Sz}{i:Int}(h0:0<=i)(h3:i<=3):atP [Wm z.a0,.int z.a1,.int z.a2,.int z.a3] i=U7 (.int (z.at i)):=by
 have h:i=0∨i=1∨i=2∨i=3:=by omega
 rcases h with rfl | rfl | rfl | rfl<;>rfl
noncomputable def cnt(z:Sz):Kd->Int
 | .none=>0
 | .one=>1
 | .name i=>z.at i
 | .either a b=>cnt z a+cnt z b
 | .both a b=>cnt z a * cnt z b
noncomputable def nE:Kd->Nat
 | .either a b=>nE a+nE b
 | .both a b=>nE a * nE b
 | _=>1
noncomputable def sE:Kd->Nat
 | .either a b=>sE a+sE b
 | .both a b=>sE a * nE b+sE b * nE a
 | _=>1
theorem dn:∀ k:Kd,1<=nE k
 | .none=>UI _
 | .one=>UI _
 | .name _=>UI _
 | .either a b=>by have:=dn a;simp only [nE];omega
 | .both a b=>X5 (dn a) (dn b)
theorem yo:∀ k:Kd,k.leaves<=sE k
 | .none=>UI _
 | .one=>UI _
 | .name _=>UI _
 | .either a b=>by have:=yo a;have:=yo b;simp only [sE,Kd.leaves];omega
 | .both a b=>by
  have h1:=yo a;have h2:=yo b
  have h3:sE a * 1<=sE a * nE b:=Wn _ (dn b)
  have h4:sE b * 1<=sE b * nE a:=Wn _ (dn a)
  simp only [sE,Kd.leaves]
  omega
theorem Sx(w:Vk)(x y:Kd)(h:yj w x=U7 y):nE y<=nE x/\sE y<=sE x:=by
 rcases MR w with rfl | rfl | rfl | rfl | hno
 ·rw [oy] at h
  cases x<;>simp [CQ] at h<;>subst h<;>simp only [nE,sE]
  ·omega
  ·exact ⟨Zc (Xm _ _),by omega⟩
 ·rw [tj] at h
  unfold dw at h
  split at h<;>cases h<;>simp only [nE,sE]
  ·omega
  ·simp only [W4,Yb,Nat.mul_assoc,Xm,Nat.mul_left_comm]
   omega
 ·rw [m9] at h
  unfold uv at h
  split at h<;>cases h
  simp only [nE,sE,W4,Yb,Nat.mul_assoc,Xm,Nat.mul_left_comm]
  omega
 ·rw [b9] at h
  unfold CD at h
  split at h<;>cases h<;>simp only [nE,sE]
  ·omega
  ·have:=dn (by assumption)
   omega
  ·omega
 ·rw [Fp w x hno] at h;cases h
theorem G7:∀ (p:List Int) (k x y:Kd),qi k p=U7 x->nE y<=nE x->sE y<=sE x->nE (ki k p y)<=nE k/\sE (ki k p y)<=sE k
 | [],k,x,y,h,h1,h2=>by simp only [qi] at h;cases h;simp only [ki];exact ⟨h1,h2⟩
 | s::p,k,x,y,h,h1,h2=>by
  simp only [qi] at h
  cases k with
  | either a b=>
   simp only [jn] at h
   simp only [ki]
   by_cases h0:s=0
   ·rw [if_pos h0] at h ⊢
    have:=G7 p a x y h h1 h2
    simp only [nE,sE];omega
   ·rw [if_neg h0] at h ⊢
    split at h
    ·have:=G7 p b x y h h1 h2
     simp only [nE,sE];omega
    ·cases h
  | both a b=>
   simp only [jn] at h
   simp only [ki]
   by_cases h0:s=0
   ·rw [if_pos h0] at h ⊢
    have q:=G7 p a x y h h1 h2
    simp only [nE,sE]
    exact ⟨Xq _ q.1,Nat.add_le_add (Xq _ q.2) (Wn _ q.1)⟩
   ·rw [if_neg h0] at h ⊢
    split at h
    ·have q:=G7 p b x y h h1 h2
     simp only [nE,sE]
     exact ⟨Wn _ q.1,Nat.add_le_add (Wn _ q.1) (Xq _ q.2)⟩
    ·cases h
  | none=>cases h
  | one=>cases h
  | name _=>cases h
theorem lj{k k':Kd}{w:Vk}{p:List Int}(h:wu k w p=U7 k'):∃ x y,qi k p=U7 x/\yj w x=U7 y/\k'=ki k p y:=by
 unfold wu at h
 cases e:qi k p with
 | none=>rw [e] at h;cases h
 | some x=>
  rw [e] at h
  simp only [X4] at h
  cases ey:yj w x with
  | none=>rw [ey] at h;cases h
  | some y=>rw [ey] at h;cases h;exact ⟨x,y,rfl,ey,rfl⟩
theorem Jl{k k':Kd}{w:Vk}{p:List Int}(h:wu k w p=U7 k'):nE k'<=nE k/\sE k'<=sE k:=by
 obtain ⟨x,y,h1,h2,rfl⟩:=lj h
 have:=Sx w x y h2
 exact G7 p k x y h1 this.1 this.2
noncomputable def TN:Nat->Nat
 | 1=>1 | 2=>2 | 3=>3 | 4=>4 | 5=>6 | 6=>9 | 7=>12 | _=>0
noncomputable def TS:Nat->Nat
 | 1=>1 | 2=>2 | 3=>4 | 4=>8 | 5=>14 | 6=>24 | 7=>40 | _=>0
theorem tab:∀ i:Fin 8,∀ j:Fin 8,1<=i.val->1<=j.val->i.val+j.val<=7->TN i.val+TN j.val<=TN (i.val+j.val)/\TN i.val * TN j.val<=TN (i.val+j.val)/\TS i.val+TS j.val<=TS (i.val+j.val)/\TS i.val * TN j.val+TS j.val * TN i.val<=TS (i.val+j.val):=by decide
theorem Ga:∀ k:Kd,k.leaves<=7->nE k<=TN k.leaves/\sE k<=TS k.leaves
 | .none,_=>⟨UI _,UI _⟩
 | .one,_=>⟨UI _,UI _⟩
 | .name _,_=>⟨UI _,UI _⟩
 | .either a b,h=>by
  have pa:=a.pos;have pb:=b.pos
  simp only [Kd.leaves] at h ⊢
  obtain ⟨a1,a2⟩:=Ga a (by omega)
  obtain ⟨b1,b2⟩:=Ga b (by omega)
  have t:=tab ⟨a.leaves,by omega⟩ ⟨b.leaves,by omega⟩ pa pb h
  simp only at t
  simp only [nE,sE]
  omega
 | .both a b,h=>by
  have pa:=a.pos;have pb:=b.pos
  simp only [Kd.leaves] at h ⊢
  obtain ⟨a1,a2⟩:=Ga a (by omega)
  obtain ⟨b1,b2⟩:=Ga b (by omega)
  have t:=tab ⟨a.leaves,by omega⟩ ⟨b.leaves,by omega⟩ pa pb h
  simp only at t
  simp only [nE,sE]
  have m1:=X5 a1 b1
  have m2:=X5 a2 b1
  have m3:=X5 b2 a1
  exact ⟨UU m1 t.2.1,UU (Nat.add_le_add m2 m3) t.2.2.2⟩
theorem J0(f:Int->Int)(x:List Int):∀ ys:List (List Int),tt f (vh x ys)=pr f x * tt f ys
 | []=>by simp [vh,tt]
 | y::ys=>by
  have ih:=J0 f x ys
  have e:pr f (q0 ltI (x++y))=pr f x * pr f y:=(Pa f (ui _)).trans (Nx f x y)
  simp only [vh,UR,tt,e] at ih ⊢
  rw [ih,YV]
theorem Gh(f:Int->Int)(ys:List (List Int)):∀ xs:List (List Int),tt f (jw xs ys)=tt f xs * tt f ys
 | []=>by simp [jw,tt]
 | x::xs=>by rw [wk,Jr,J0,Gh f ys xs,tt,Int.add_mul]
theorem AD(z:Sz):∀ k:Kd,cnt z k=tt z.at (lb k)
 | .none=>rfl
 | .one=>by simp [cnt,lb,tt,pr]
 | .name i=>by simp [cnt,lb,tt,pr]
 | .either a b=>by rw [cnt,AD z a,AD z b,lb,K8 _ (jh _),Jr]
 | .both a b=>by rw [cnt,AD z a,AD z b,lb,K8 _ (jh _),Gh]
theorem Bm:∀ k:Kd,(lb k).length<=nE k
 | .none=>by simp [lb,nE]
 | .one=>by simp [lb,nE]
 | .name _=>by simp [lb,nE]
 | .either a b=>by
  have:=Bm a;have:=Bm b
  simp only [lb,vg,UC,nE];omega
 | .both a b=>by
  simp only [lb,vg,il,nE]
  exact X5 (Bm a) (Bm b)
theorem Nm:∀ k:Kd,nE k<=18->Fit k
 | .none,_=>trivial
 | .one,_=>trivial
 | .name _,_=>trivial
 | .either a b,h=>by
  have h:nE a+nE b<=18:=h
  have:=Bm a;have:=Bm b
  exact ⟨Nm a (by omega),Nm b (by omega),by omega⟩
 | .both a b,h=>by
  have h:nE a * nE b<=18:=h
  have pa:=dn a;have pb:=dn b
  exact ⟨Nm a (UU (Nat.le_mul_of_pos_right _ pb) h),Nm b (UU (Nat.le_mul_of_pos_left _ pa) h),UU (X5 (Bm a) (Bm b)) h⟩
theorem AF{z:Sz}(hz:z.In 0 20):∀ k:Kd,0<=cnt z k/\cnt z k<=((2 ^ (5 * k.leaves):Nat):Int)
 | .none=>by simp only [cnt,Kd.leaves];exact ⟨by decide,by decide⟩
 | .one=>by simp only [cnt,Kd.leaves];exact ⟨by decide,by decide⟩
 | .name i=>by
  have:=Sz.at_in hz i
  simp only [cnt,Kd.leaves]
  exact ⟨this.1,Int.le_trans this.2 (by decide)⟩
 | .either a b=>by
  obtain ⟨a0,a1⟩:=AF hz a
  obtain ⟨b0,b1⟩:=AF hz b
  have e:(2:Nat) ^ (5 * (a.leaves+b.leaves))=2 ^ (5 * a.leaves) * 2 ^ (5 * b.leaves):=by rw [W4,Nat.pow_add]
  have pa:2<=2 ^ (5 * a.leaves):=UU (by decide:2<=2 ^ 5) (Yc (by decide) (by have:=a.pos;omega))
  have pb:2<=2 ^ (5 * b.leaves):=UU (by decide:2<=2 ^ 5) (Yc (by decide) (by have:=b.pos;omega))
  simp only [cnt,Kd.leaves]
  rw [e]
  generalize 2 ^ (5 * a.leaves)=u at *
  generalize 2 ^ (5 * b.leaves)=v at *
  have h1:u+v<=u * v:=by
   have hu:u=(u - 2)+2:=by omega
   have:u * v=(u - 2) * v+2 * v:=by rw [<- Yb,<- hu]
   have h3:(u - 2) * 2<=(u - 2) * v:=Wn _ pb
   omega
  exact ⟨by omega,by omega⟩
 | .both a b=>by
  obtain ⟨a0,a1⟩:=AF hz a
  obtain ⟨b0,b1⟩:=AF hz b
  have e:(2:Nat) ^ (5 * (a.leaves+b.leaves))=2 ^ (5 * a.leaves) * 2 ^ (5 * b.leaves):=by rw [W4,Nat.pow_add]
  simp only [cnt,Kd.leaves]
  rw [e]
  exact ⟨Int.mul_nonneg a0 b0,by rw [Int.natCast_mul];exact Int.mul_le_mul a1 b1 b0 (Int.natCast_nonneg _)⟩
theorem Ll{z:Sz}(hz:z.In 0 20){a b:Kd}(ha:a.leaves<=40)(hb:b.leaves<=40):CMulD (cnt z a) (cnt z b):=by
 obtain ⟨a0,a1⟩:=AF hz a
 obtain ⟨b0,b1⟩:=AF hz b
 have pa:2 ^ (5 * a.leaves)<=2 ^ 200:=Yc (by decide) (by omega)
 have pb:2 ^ (5 * b.leaves)<=2 ^ 200:=Yc (by decide) (by omega)
 have pl:2 ^ 200 < lim:=Nat.pow_lt_pow_right (by decide) (by decide)
 refine .inr (.inr ⟨?_,?_⟩)
 ·generalize 2 ^ 200=x at *;generalize 2 ^ (5 * a.leaves)=y at *;omega
 ·generalize 2 ^ 200=x at *;generalize 2 ^ (5 * b.leaves)=y at *;omega
theorem eh{z:Sz}(hz:z.In 0 20):∀ (k:Kd) (n:Nat),k.leaves<=n->k.leaves<=40->k.Ok->jq n [enc k,bx z]=U7 (.ok (.int (cnt z k)))
 | .none,n+1,_,_,_=>by
  unfold jq
  simp [qj,g7,ze,zl,eIx,e2,za,eC,zk,zi,enc,dIx,atP,ixP,asg,lf,sIf,eEq,dEq,yu,zq,cnt,jd,e1,fm,G6,KL,w11]
 | .one,n+1,_,_,_=>by
  unfold jq
  simp [qj,g7,ze,zl,eIx,e2,za,eC,zk,zi,enc,dIx,atP,ixP,asg,lf,sIf,eEq,dEq,yu,zq,cnt,jd,e1,fm,G6,KL]
 | .name i,n+1,_,_,⟨h0,h3⟩=>by
  unfold jq
  have e1':atP [Vb "name",.int i] 1=U7 (.int i):=rfl
  simp [qj,g7,ze,zl,eIx,e2,za,eC,zk,zi,enc,dIx,e1',T9 h0 h3,bx,asg,lf,sIf,eEq,dEq,yu,zq,cnt,zj,jd,e1,fm]
 | .either a b,n+1,hn,h8,⟨oa,ob⟩=>by
  have pa:=a.pos
  have pb:=b.pos
  simp only [Kd.leaves] at hn h8
  have ea:=eh hz a n (by omega) (by omega) oa
  have eb:=eh hz b n (by omega) (by omega) ob
  unfold jq
  have e0:atP [Vb "either",enc a,enc b] 0=U7 (.str "either"):=rfl
  have e1':atP [Vb "either",enc a,enc b] 1=U7 (enc a):=rfl
  have e2':atP [Vb "either",enc a,enc b] 2=U7 (enc b):=rfl
  simp [qj,g7,ze,zl,eIx,e2,za,eC,zk,zi,enc,dIx,e0,e1',e2',asg,lf,sIf,eEq,dEq,yu,zq,cnt,zj,zd,zo,zu,ea,eb,jt,qh,bz,jd,e1,fm]
 | .both a b,n+1,hn,h8,⟨oa,ob⟩=>by
  have pa:=a.pos
  have pb:=b.pos
  simp only [Kd.leaves] at hn h8
  have ea:=eh hz a n (by omega) (by omega) oa
  have eb:=eh hz b n (by omega) (by omega) ob
  have em:=Ll hz (a:=a) (b:=b) (by omega) (by omega)
  unfold jq
  have e0:atP [Vb "both",enc a,enc b] 0=U7 (.str "both"):=rfl
  have e1':atP [Vb "both",enc a,enc b] 1=U7 (enc a):=rfl
  have e2':atP [Vb "both",enc a,enc b] 2=U7 (enc b):=rfl
  simp [qj,g7,ze,zl,eIx,e2,za,eC,zk,zi,enc,dIx,e0,e1',e2',asg,lf,sIf,eEq,dEq,yu,zq,cnt,w07,zj,zd,zo,zu,ea,eb,jt,vj,p9,em,jd,e1,fm]
 | .none,0,h,_,_=>by simp [Kd.leaves] at h
 | .one,0,h,_,_=>by simp [Kd.leaves] at h
 | .name _,0,h,_,_=>by simp [Kd.leaves] at h
 | .either a b,0,h,_,_=>by have:=a.pos;simp only [Kd.leaves] at h;omega
 | .both a b,0,h,_,_=>by have:=a.pos;simp only [Kd.leaves] at h;omega
noncomputable def bk:List Int->Kd
 | []=>.one
 | [n]=>.name n
 | n::m::ns=>.both (.name n) (bk (m::ns))
noncomputable def pk:List (List Int)->Kd
 | []=>.none
 | [r]=>bk r
 | r::s::rs=>.either (bk r) (pk (s::rs))
noncomputable def Ris(r:List Int):Prop:=r.Pairwise intOrd.kle
theorem NY{r:List Int}(h:Ris r):q0 ltI r=r:=(ao (O:=intOrd) (List.Perm.refl r) h).symm
theorem M4(r:List Int):Ris (q0 ltI r):=af (O:=intOrd) r
theorem J4:∀ r:List Int,Ris r->lb (bk r)=[r]
 | [],_=>rfl
 | [n],_=>rfl
 | n::m::ns,h=>by
  have h':Ris (m::ns):=List.Pairwise.of_cons h
  have e:q0 ltI ([n]++(m::ns))=n::m::ns:=NY h
  show q0 g9 (jw [[n]] (lb (bk (m::ns))))=_
  rw [J4 (m::ns) h']
  show q0 g9 [q0 ltI ([n]++(m::ns))]=_
  rw [e];rfl
theorem Qm:∀ rs:List (List Int),(∀ r∈rs,Ris r)->lb (pk rs)=q0 g9 rs
 | [],_=>rfl
 | [r],h=>by show lb (bk r)=_;rw [J4 r (h r (UN ..))];rfl
 | r::s::rs,h=>by
  show q0 g9 (lb (bk r)++lb (pk (s::rs)))=_
  rw [J4 r (h r (UN ..)),Qm (s::rs) λx hx=>h x (UQ _ hx)]
  exact fw ((jh (s::rs)).cons r)
noncomputable def Ak(w:Vk)(m k:U8):U8:=.tuple [.str w,k,m]
noncomputable def chD(w:Vk):List U8->U8
 | []=>.none
 | [x]=>x
 | x::y::r=>.tuple [.str w,x,chD w (y::r)]
theorem D4(w:Vk):∀ (xs:List U8) (l:U8),chD w (xs++[l])=xs.foldr (λk m=>Ak w m k) l
 | [],_=>rfl
 | [x],l=>rfl
 | x::y::r,l=>by
  show Zd [.str w,x,chD w ((y::r)++[l])]=_
  rw [D4 w (y::r) l];rfl
theorem DO(w:Vk)(xs:List U8)(l:U8):chD w (xs.reverse++[l])=xs.foldl (Ak w) l:=by
 rw [D4,List.foldr_reverse]
noncomputable def eu(n:Int):U8:=.tuple [.str "name",.int n]
theorem N7:∀ r:List Int,r≠[]->enc (bk r)=chD "both" (r.map eu)
 | [],h=>absurd rfl h
 | [n],_=>rfl
 | n::m::ns,_=>by
  show Zd [.str "both",enc (.name n),enc (bk (m::ns))]=_
  rw [N7 (m::ns) (by simp)];rfl
noncomputable def yv(r:List Int):U8:=enc (bk r)
theorem NZ:∀ rs:List (List Int),rs≠[]->enc (pk rs)=chD "either" (rs.map yv)
 | [],h=>absurd rfl h
 | [r],_=>rfl
 | r::s::rs,_=>by
  show Zd [.str "either",enc (bk r),enc (pk (s::rs))]=_
  rw [NZ (s::rs) (by simp)];rfl
theorem ox:∀ rs:List (List Int),lfs (rs.map yv)=true
 | []=>rfl
 | r::rs=>by simp [lfs,yv,qb];simpa [yv] using ox rs
theorem K3(w:Vk){m k:U8}(hm:lf m=true)(hk:lf k=true):lf (Ak w m k)=true:=by simp [Ak,lf,lfs,hm,hk]
abbrev TRow:=List (Vk×List Int)
noncomputable def goK:Kd->TRow->Option Kd
 | k,[]=>U7 k
 | k,t::r=>(wu k t.1 t.2).bind λc=>goK c r
noncomputable def pfx(p:List Int)(r:TRow):TRow:=r.map λt=>(t.1,p++t.2)
noncomputable def qx(p:List Int)(r:TRow):List U8:=r.map λt=>jv t.1 (p++t.2)
theorem vn(p q:List Int)(r:TRow):qx p (pfx q r)=qx (p++q) r:=by
 simp only [qx,pfx,XD]
 exact VL λt _=>by simp [Vd]
theorem yy(p:List Int)(r s:TRow):qx p (r++s)=qx p r++qx p s:=by simp [qx]
theorem yc(p:List Int)(r:TRow):(qx p r).length=r.length:=by simp [qx]
theorem uw(p:List Int)(r:TRow):(pfx p r).length=r.length:=by simp [pfx]
theorem Og:∀ (r q:TRow) (k:Kd),goK k (r++q)=(goK k r).bind λc=>goK c q
 | [],q,k=>rfl
 | t::r,q,k=>by
  simp only [WD,goK]
  cases wu k t.1 t.2 with
  | none=>rfl
  | some c=>exact Og r q c
theorem kh{r q:TRow}{k c d:Kd}(h:goK k r=U7 c)(h2:goK c q=U7 d):goK k (r++q)=U7 d:=by rw [Og,h];exact h2
theorem MC{w:Vk}{p:List Int}{k c:Kd}(h:wu k w p=U7 c):goK k [(w,p)]=U7 c:=by simp [goK,h]
theorem ni{w:Vk}{k c:Kd}(h:yj w k=U7 c):wu k w []=U7 c:=by simp [wu,qi,h,ki]
theorem u0{w:Vk}{k c:Kd}(h:yj w k=U7 c):goK k [(w,[])]=U7 c:=MC (ni h)
theorem Bi:∀ (r:TRow) (k c:Kd),goK k r=U7 c->lb c=lb k
 | [],k,c,h=>by cases h;rfl
 | t::r,k,c,h=>by
  simp only [goK] at h
  cases e:wu k t.1 t.2 with
  | none=>rw [e] at h;cases h
  | some d=>rw [e] at h;exact (Bi r d c h).trans (O3 e)
theorem LM:∀ (r:TRow) (k c:Kd),goK k r=U7 c->sE c<=sE k
 | [],k,c,h=>by cases h;exact UI _
 | t::r,k,c,h=>by
  simp only [goK] at h
  cases e:wu k t.1 t.2 with
  | none=>rw [e] at h;cases h
  | some d=>rw [e] at h;exact UU (LM r d c h) (Jl e).2
noncomputable def opK:Bool->Kd->Kd->Kd
 | true,a,b=>.either a b
 | false,a,b=>.both a b
noncomputable def opU:Bool->Kd
 | true=>.none
 | false=>.one
theorem RX(e:Bool)(a b:Kd)(w:Vk)(p:List Int):wu (opK e a b) w (0::p)=(wu a w p).map (opK e · b):=by
 cases e<;>simp only [wu,opK,qi,jn,if_true,X4,ki]<;>cases qi a p<;>simp [Function.comp_def]
theorem R0(e:Bool)(a b:Kd)(w:Vk)(p:List Int):wu (opK e a b) w (1::p)=(wu b w p).map (opK e a ·):=by
 cases e<;>simp only [wu,opK,qi,jn,(by decide:¬ (1:Int)=0),if_false,if_true,X4,ki]<;>cases qi b p<;>simp [Function.comp_def]
theorem T3(e:Bool)(b:Kd):∀ (r:TRow) (a:Kd),goK (opK e a b) (pfx [0] r)=(goK a r).map (opK e · b)
 | [],a=>rfl
 | t::r,a=>by
  show (wu (opK e a b) t.1 (0::t.2)).bind (λc=>goK c (pfx [0] r))=((wu a t.1 t.2).bind λc=>goK c r).map (opK e · b)
  rw [RX]
  cases wu a t.1 t.2 with
  | none=>rfl
  | some c=>exact T3 e b r c
theorem Tj(e:Bool)(a:Kd):∀ (r:TRow) (b:Kd),goK (opK e a b) (pfx [1] r)=(goK b r).map (opK e a ·)
 | [],b=>rfl
 | t::r,b=>by
  show (wu (opK e a b) t.1 (1::t.2)).bind (λc=>goK c (pfx [1] r))=((wu b t.1 t.2).bind λc=>goK c r).map (opK e a ·)
  rw [R0]
  cases wu b t.1 t.2 with
  | none=>rfl
  | some c=>exact Tj e a r c
theorem LH(e:Bool){a a' b:Kd}{r:TRow}(h:goK a r=U7 a'):goK (opK e a b) (pfx [0] r)=U7 (opK e a' b):=by rw [T3,h];rfl
theorem IC(e:Bool){a b b':Kd}{r:TRow}(h:goK b r=U7 b'):goK (opK e a b) (pfx [1] r)=U7 (opK e a b'):=by rw [Tj,h];rfl
theorem BG(e:Bool)(a b:Kd):yj "swap" (opK e a b)=U7 (opK e b a):=by rw [oy];cases e<;>rfl
theorem NH(e:Bool)(a b c:Kd):yj "group" (opK e (opK e a b) c)=U7 (opK e a (opK e b c)):=by rw [tj];cases e<;>rfl
theorem B8(e:Bool)(b:Kd):yj "drop" (opK e (opU e) b)=U7 b:=by rw [b9];cases e<;>rfl
noncomputable def fq{α:Type}(e:Bool)(f:α->Kd):List α->Kd
 | []=>opU e
 | [x]=>f x
 | x::y::r=>opK e (f x) (fq e f (y::r))
theorem AR{α:Type}(e:Bool)(f:α->Kd)(x:α){l:List α}(h:l≠[]):fq e f (x::l)=opK e (f x) (fq e f l):=by
 cases l with
 | nil=>exact absurd rfl h
 | cons y r=>rfl
theorem BB:∀ r:List Int,bk r=fq false .name r
 | []=>rfl
 | [n]=>rfl
 | n::m::ns=>by rw [bk,BB (m::ns)];rfl
theorem B4:∀ r:List (List Int),pk r=fq true bk r
 | []=>rfl
 | [n]=>rfl
 | n::m::ns=>by rw [pk,B4 (m::ns)];rfl
inductive Tr where
 | nil
 | bun (l:List Int)
 | nod (a b:Tr)
noncomputable def q8:Tr->U8
 | .nil=>.list []
 | .bun l=>zt l
 | .nod a b=>.list [q8 a,q8 b]
noncomputable def trK:Tr->Kd
 | .nil=>.none
 | .bun l=>bk l
 | .nod a b=>.either (trK a) (trK b)
noncomputable def ai:Tr->Prop
 | .nil=>False
 | .bun l=>Ris l
 | .nod a b=>ai a/\ai b
noncomputable def nb:Tr->Nat
 | .nil=>0
 | .bun _=>1
 | .nod a b=>nb a+nb b
theorem xh:∀ T:Tr,ai T->1<=nb T
 | .nil,h=>h.elim
 | .bun _,_=>UI _
 | .nod a b,h=>by have:=xh a h.1;simp only [nb];omega
theorem D5:∀ T:Tr,ai T->(lb (trK T)).length=nb T
 | .nil,h=>h.elim
 | .bun l,h=>by simp only [trK,J4 l h];rfl
 | .nod a b,h=>by simp only [trK,lb,vg,UC,D5 a h.1,D5 b h.2,nb]
theorem C9:∀ T:Tr,(q8 T).canLay0=true
 | .nil=>rfl
 | .bun l=>xy l
 | .nod a b=>by simp [q8,Vi,UP,C9 a,C9 b]
theorem IV:∀ l:List Int,l.length<=(bk l).leaves
 | []=>VJ _
 | [n]=>UI _
 | n::m::ns=>by have:=IV (m::ns);simp only [bk,Kd.leaves,UM] at *;omega
theorem vf(p q:List Int)(w:Vk)(r:TRow):qx p ((w,q)::r)=jv w (p++q)::qx p r:=rfl
theorem Sh{n:Nat}(h:n<=50000):n < big:=Nat.lt_of_le_of_lt h (by decide)
theorem S2{n:Nat}(h:n<=90000):n<=wFuel:=UU h (by decide)
noncomputable def mgL:FE:=(NL (eIx (za 6) (eC (.int 0))) (eIx (za 5) (eC (.int 0))))
noncomputable def mgC:FE:=(eOr (eGt (jd (za 5)) (eC (.int 1))) mgL)
noncomputable def mgS:FS:=(ze (je 3 (zm [(eC (.str "swap")),(za 7)])) (ze (A0 8 5) (ze (A0 5 6) (A0 6 8))))
noncomputable def mgG:FS:=(ze (je 3 (zm [(eC (.str "group")),(za 7)])) (ze (Au 4 5) (zl 7 (qh (za 7) (zm [(eC (.int 1))])))))
noncomputable def mgB:FS:=(sIf mgL mgS mgG)
noncomputable def mgE:FS:=(ze (dz mgC mgB) (ku 3 (qh (qh (za 4) (za 5)) (za 6))))
noncomputable def mgR(s0 s1 s2:Option Slot)(ds D L R:List U8)(h:U8)(x8:Option Slot):Rho:=[s0,s1,s2,U7 (.lent ds),U7 (.own D),U7 (.own L),U7 (.own R),U7 (.loc h),x8]
section
variable(s0 s1 s2 x8:Option Slot)(ds D L R:List U8)(a b h:U8)
theorem Qu{t:Bool}(hl:Hf b a=U7 (.bool t)):mgL (mgR s0 s1 s2 ds D (a::L) (b::R) h x8)=U7 (.ok 2 (.bool t)):=by
 have e1:(eIx (za 6) (eC (.int 0))) (mgR s0 s1 s2 ds D (a::L) (b::R) h x8)=U7 (.ok 1 b):=by simp [eIx,e2,za,eC,mgR,zk,dIx,atP,ixP]
 have e2':(eIx (za 5) (eC (.int 0))) (mgR s0 s1 s2 ds D (a::L) (b::R) h x8)=U7 (.ok 1 a):=by simp [eIx,e2,za,eC,mgR,zk,dIx,atP,ixP]
 unfold mgL NL
 unfold e2
 rw [e1,e2']
 simp only [zk,hl]
 rfl
theorem Oc:(eGt (jd (za 5)) (eC (.int 1))) (mgR s0 s1 s2 ds D (a::L) R h x8)=U7 (.ok 2 (.bool (!L.isEmpty))):=by
 simp only [eGt,e2,jd,e1,za,eC,mgR,zk,fm,UD,UE,Va,dGt,UM,if_true]
 cases L<;>simp<;>omega
theorem OE(hl:lf h=true)(hb:ds.length < big):mgS (mgR s0 s1 s2 ds D L R h x8)=U7 (.next (mgR s0 s1 s2 (ds++[.tuple [.str "swap",h]]) D R L h UA)):=by
 simp [mgS,ze,je,mgR,zm,zo,eC,za,zu,zi,lf,lfs,hl,hb,A0]
theorem Nu(p:List Int)(hp:p.length<=90000)(hb:ds.length < big)(hD:D.length < big)(ha:lf a=true):
  mgG (mgR s0 s1 s2 ds D (a::L) R (encP p) x8)=U7 (.next (mgR s0 s1 s2 (ds++[jv "group" p]) (D++[a]) L R (encP (p++[1])) x8)):=by
 have e1:=w9 p 1 hp
 have l1:=qz p
 have l2:=qz (p++[1])
 simp [mgG,ze,je,mgR,zm,zo,eC,za,zu,zi,lf,lfs,l1,l2,hb,Au,hD,ha,zl,qh,e2,zk,e1,asg,jv]
end
structure MH{α:Type}(d:α->U8)(lt:α->α->Bool)(P:α->Prop)(S:α->α->Prop):Prop where
 hlf:∀ x,lf (d x)=true
 hlt:∀ x y,P x->P y->Hf (d x) (d y)=U7 (.bool (lt x y))
 asym:∀ x y,P x->P y->lt x y=true->lt y x=false
 hS:∀ x y,P x->P y->lt y x=false->S x y
 tr:∀ x y z,S x y->S y z->S x z
section
variable{α:Type}(e:Bool){d:α->U8}(κ:α->Kd){lt:α->α->Bool}{P:α->Prop}{S:α->α->Prop}
theorem K1(M:MH d lt P S):∀ l:List α,lfs (l.map d)=true
 | []=>rfl
 | x::l=>by simp [lfs,M.hlf x,K1 M l]
noncomputable def Sq(d:α->U8)(S:α->α->Prop)(N w:Nat)(l r:List α):Prop:=
 ∀ (s0 s1 s2 x8:Option Slot) (ds D:List U8) (p:List Int) (fuel:Nat),2 * N+w+1<=fuel->ds.length+2 * N+w < big->p.length+N<=90000->D.length+N<=50000->lfs D=true->
  ∃ (row:TRow) (res:List α) (D' L' R':List U8) (h':U8) (x8':Option Slot),
   yx mgC mgB fuel (mgR s0 s1 s2 ds D (l.map d) (r.map d) (encP p) x8)=U7 (.next (mgR s0 s1 s2 (ds++qx p row) D' L' R' h' x8'))/\D'++L'++R'=D++res.map d/\lfs D'=true/\lfs L'=true/\lfs R'=true/\
   goK (opK e (fq e κ l) (fq e κ r)) row=U7 (fq e κ res)/\res.Perm (l++r)/\(l.Pairwise S->r.Pairwise S->res.Pairwise S)/\row.length<=2 * N+w
theorem IF{c:FE}{b:FS}{ρ:Rho}{f l:Nat}(h:c ρ=U7 (.ok l (.bool false))):yx c b (f+1) ρ=U7 (.next ρ):=by simp only [yx,h,zi]
theorem GX{c:FE}{b:FS}{ρ ρ':Rho}{f l:Nat}(h:c ρ=U7 (.ok l (.bool true)))(hb:b ρ=U7 (.next ρ')):yx c b (f+1) ρ=yx c b f ρ':=by simp only [yx,h,zi,hb]
theorem Uk{c:FE}{a b:FS}{ρ:Rho}{l:Nat}(h:c ρ=U7 (.ok l (.bool true))):sIf c a b ρ=a ρ:=by simp only [sIf,h,zi]
theorem Ur{c:FE}{a b:FS}{ρ:Rho}{l:Nat}(h:c ρ=U7 (.ok l (.bool false))):sIf c a b ρ=b ρ:=by simp only [sIf,h,zi]
theorem SM(M:MH d lt P S)(N:Nat)(ih:∀ l r:List α,l.length+r.length<=N->l≠[]->r≠[]->(∀ x∈l,P x)->(∀ x∈r,P x)->Sq e κ d S N 1 l r)
  (x y:α) (l r:List α) (hN:(x::l).length+(y::r).length<=N+1) (hl:∀ z∈x::l,P z) (hr:∀ z∈y::r,P z) (hxy:lt y x=false):Sq e κ d S (N+1) 0 (x::l) (y::r):=by
 intro s0 s1 s2 x8 ds D p fuel hf hds hp hD hDl
 obtain ⟨f,rfl⟩:∃ f,fuel=f+1:=⟨fuel - 1,by omega⟩
 have px:P x:=hl x (UN ..)
 have py:P y:=hr y (UN ..)
 have sxy:S x y:=M.hS x y px py hxy
 have hlt:=M.hlt y x py px
 rw [hxy] at hlt
 have c1:=Qu s0 s1 s2 x8 ds D (l.map d) (r.map d) (d x) (d y) (encP p) hlt
 cases l with
 | nil=>
  refine ⟨[],x::y::r,D,[d x],(y::r).map d,encP p,x8,?_,by simp,hDl,by simp [lfs,M.hlf x],K1 M _,rfl,.refl _,λh1 h2=>?_,VJ _⟩
  ·rw [show ds++qx p []=ds by simp [qx]]
   refine IF (l:=2) ?_
   have c2:=Oc s0 s1 s2 x8 ds D [] ((y::r).map d) (d x) (encP p)
   exact (orF c2).trans c1
  ·exact Xb.mpr ⟨λz hz=>by
    rcases Vl.mp hz with rfl | hz
    ·exact sxy
    ·exact M.tr _ _ _ sxy ((Xb.mp h2).1 z hz),h2⟩
 | cons x2 l2=>
  have hb:ds.length < big:=by omega
  have g:=Nu s0 s1 s2 x8 ds D ((x2::l2).map d) ((y::r).map d) (d x) p (by omega) hb (Sh (by omega)) (M.hlf x)
  obtain ⟨row,res,D',L',R',h',x8',e1,e2,l1,l2',l3,e3,e4,e5,e6⟩:=ih (x2::l2) (y::r) (by simp only [UM] at hN ⊢;omega) (by simp) (by simp) (λz hz=>hl z (UQ _ hz)) hr
   s0 s1 s2 x8 (ds++[jv "group" p]) (D++[d x]) (p++[1]) f (by omega) (by simp only [UC,UX];omega) (by simp only [UC,UX];omega) (by simp only [UC,UX];omega) (by rw [oi,hDl];simp [lfs,M.hlf x])
  refine ⟨("group",[])::pfx [1] row,x::res,D',L',R',h',x8',?_,by rw [e2];simp,l1,l2',l3,?_,?_,λh1 h2=>?_,by simp only [UM,uw];omega⟩
  ·have c2:=Oc s0 s1 s2 x8 ds D ((x2::l2).map d) ((y::r).map d) (d x) (encP p)
   have hcc:mgC (mgR s0 s1 s2 ds D ((x::x2::l2).map d) ((y::r).map d) (encP p) x8)=U7 (.ok 2 (.bool true)):=orT c2
   have hbb:mgB (mgR s0 s1 s2 ds D ((x::x2::l2).map d) ((y::r).map d) (encP p) x8)=U7 (.next (mgR s0 s1 s2 (ds++[jv "group" p]) (D++[d x]) ((x2::l2).map d) ((y::r).map d) (encP (p++[1])) x8)):=(Ur c1).trans g
   rw [GX hcc hbb,e1]
   have:ds++qx p (("group",[])::pfx [1] row)=ds++[jv "group" p]++qx (p++[1]) row:=by
    rw [vf,vn,V3,Vd];rfl
   rw [this]
  ·have hn:fq e κ (x::x2::l2)=opK e (κ x) (fq e κ (x2::l2)):=rfl
   have hres:res≠[]:=λz=>by rw [z] at e4;exact absurd (e4.length_eq) (by simp)
   rw [hn,AR e κ x hres]
   show (wu _ "group" []).bind _=_
   rw [ni (NH e (κ x) (fq e κ (x2::l2)) (fq e κ (y::r)))]
   exact IC e e3
  ·exact e4.cons x
  ·have q:=e5 (Xb.mp h1).2 h2
   refine Xb.mpr ⟨λz hz=>?_,q⟩
   rcases VT.mp (e4.mem_iff.mp hz) with hz | hz
   ·exact (Xb.mp h1).1 z hz
   ·rcases Vl.mp hz with rfl | hz
    ·exact sxy
    ·exact M.tr _ _ _ sxy ((Xb.mp h2).1 z hz)
theorem TF(M:MH d lt P S):∀ (N:Nat) (l r:List α),l.length+r.length<=N->l≠[]->r≠[]->(∀ x∈l,P x)->(∀ x∈r,P x)->Sq e κ d S N 1 l r
 | 0,l,r,h,h1,_,_,_=>absurd (VU.mp (by omega)) h1
 | N+1,l,r,h,h1,h2,hl,hr=>by
  obtain ⟨x,l',rfl⟩:=Yd h1
  obtain ⟨y,r',rfl⟩:=Yd h2
  have ih:=TF M N
  cases hxy:lt y x with
  | false=>
   intro s0 s1 s2 x8 ds D p fuel hf hds hp hD hDl
   obtain ⟨row,res,D',L',R',h',x8',e1,e2,l1,l2,l3,e3,e4,e5,e6⟩:=SM e κ M N ih x y l' r' h hl hr hxy s0 s1 s2 x8 ds D p fuel (by omega) (by omega) hp hD hDl
   exact ⟨row,res,D',L',R',h',x8',e1,e2,l1,l2,l3,e3,e4,e5,by omega⟩
  | true=>
   have px:P x:=hl x (UN ..)
   have py:P y:=hr y (UN ..)
   have hyx:lt x y=false:=M.asym y x py px hxy
   intro s0 s1 s2 x8 ds D p fuel hf hds hp hD hDl
   obtain ⟨f,rfl⟩:∃ f,fuel=f+1:=⟨fuel - 1,by omega⟩
   have hlt:=M.hlt y x py px
   rw [hxy] at hlt
   have c1:=Qu s0 s1 s2 x8 ds D (l'.map d) (r'.map d) (d x) (d y) (encP p) hlt
   have c2:=Oc s0 s1 s2 x8 ds D (l'.map d) ((y::r').map d) (d x) (encP p)
   have hcc:mgC (mgR s0 s1 s2 ds D ((x::l').map d) ((y::r').map d) (encP p) x8)=U7 (.ok 2 (.bool true)):=by
    cases hb:(!(l'.map d).isEmpty) with
    | true=>rw [hb] at c2;exact orT c2
    | false=>rw [hb] at c2;exact (orF c2).trans c1
   have g:=OE s0 s1 s2 x8 ds D ((x::l').map d) ((y::r').map d) (encP p) (qz p) (by omega)
   obtain ⟨row,res,D',L',R',h',x8',e1,e2,l1,l2,l3,e3,e4,e5,e6⟩:=SM e κ M N ih y x r' l' (by simp only [UM] at h ⊢;omega) hr hl hyx s0 s1 s2 UA (ds++[jv "swap" p]) D p f (by omega) (by simp only [UC,UX];omega) hp hD hDl
   refine ⟨("swap",[])::row,res,D',L',R',h',x8',?_,e2,l1,l2,l3,?_,e4.trans Xc,λa b=>e5 b a,by simp only [UM];omega⟩
   ·have hbb:mgB (mgR s0 s1 s2 ds D ((x::l').map d) ((y::r').map d) (encP p) x8)=U7 (.next (mgR s0 s1 s2 (ds++[jv "swap" p]) D ((y::r').map d) ((x::l').map d) (encP p) UA)):=(Uk c1).trans g
    rw [GX hcc hbb]
    refine e1.trans ?_
    have:ds++qx p (("swap",[])::row)=ds++[jv "swap" p]++qx p row:=by
     rw [vf,V3,Vd];rfl
    rw [this]
   ·show (wu _ "swap" []).bind _=_
    rw [ni (BG e _ _)]
    exact e3
noncomputable def Kt(X:U8)(xs:List U8):Prop:=X= .list xs∨X= .tuple xs
theorem Kv{X:U8}{xs:List U8}(h:Kt X xs):fm X=U7 (.int xs.length):=by rcases h with rfl | rfl<;>rfl
theorem GG{X:U8}{xs:List U8}(h:Kt X xs)(hl:lfs xs=true):JG X=U7 (.list xs):=by rcases h with rfl | rfl<;>simp [JG,hl]
theorem AS(M:MH d lt P S)(n:Nat)(l r:List α)(X Y:U8)(p:List Int)(ds:List U8)(hX:Kt X (l.map d))(hY:Kt Y (r.map d))(hl:∀ x∈l,P x)(hr:∀ x∈r,P x)
  (hN:l.length+r.length<=40000) (hds:ds.length+2 * (l.length+r.length)+2 < big) (hp:p.length+(l.length+r.length)<=90000):
  ∃ (row:TRow) (res:List α),j9 (n+1) [X,Y,encP p] ds=U7 (.list (res.map d),ds++qx p row)/\goK (opK e (fq e κ l) (fq e κ r)) row=U7 (fq e κ res)/\res.Perm (l++r)/\(l.Pairwise S->r.Pairwise S->res.Pairwise S)/\row.length<=2 * (l.length+r.length)+1:=by
 have lp:=qz p
 have ll:=K1 M l
 have lr:=K1 M r
 have hx:=Kv hX
 have hy:=Kv hY
 have hx2:=GG hX ll
 have hy2:=GG hY lr
 rw [V8] at hx hy
 by_cases h1:l=[]
 ·subst h1
  refine ⟨[("drop",[])],r,?_,u0 (B8 e _),.refl _,λ_ h=>h,by simp⟩
  have hb:ds.length < big:=by omega
  unfold j9
  simp [qo,e7,ze,sIf,eEq,e2,jd,e1,za,eC,zk,zi,hx,nr,je,zm,zo,zu,lf,lfs,lp,hb,ku,Bc,hy2,qx,jv]
 ·by_cases h2:r=[]
  ·subst h2
   refine ⟨[("swap",[]),("drop",[])],l,?_,?_,by simp,λh _=>h,by have:=Ym.mpr h1;simp only [UM,Vm];omega⟩
   ·have hb:ds.length < big:=by omega
    have hb2:ds.length+1 < big:=by omega
    have hn:((l.length:Int) == 0)=false:=by simpa using h1
    unfold j9
    simp [qo,e7,ze,sIf,eEq,e2,jd,e1,za,eC,zk,zi,hx,hy,hn,nr,je,zm,zo,zu,lf,lfs,lp,hb,hb2,ku,Bc,hx2,qx,jv,zj]
   ·exact kh (u0 (BG e _ _)) (u0 (B8 e _))
  ·have hn:((l.length:Int) == 0)=false:=by simpa using h1
   have hn2:((r.length:Int) == 0)=false:=by simpa using h2
   obtain ⟨row,res,D',L',R',h',x8',e1',e2',l1,l2,l3,e3,e4,e5,e6⟩:=TF e κ M (l.length+r.length) l r (UI _) h1 h2 hl hr (U7 (.par X)) (U7 (.par Y)) (U7 (.par (encP p))) UA ds [] p wFuel (S2 (by omega)) (by omega) hp (by simp only [Vm];omega) rfl
   refine ⟨row,res,?_,e3,e4,e5,e6⟩
   have hlen:=congrArg Xj e2'
   simp only [UC,Vm,V8,e4.length_eq,Nat.zero_add] at hlen
   have hbig:(40000:Nat)<=big:=by decide
   have a1:bz (.list D') (.list L')=U7 (.list (D'++L')):=by
    have:D'.length+L'.length<=big:=by omega
    simp [bz,l1,l2,this]
   have a2:bz (.list (D'++L')) (.list R')=U7 (.list (res.map d)):=by
    have:(D'++L').length+R'.length<=big:=by rw [UC];omega
    have q:lfs (D'++L')=true:=by rw [oi,l1,l2];rfl
    simp only [bz,l3,q,this,decide_true,Bool.and_true,if_true]
    rw [e2']
    simp
   have hW:dz mgC mgB (mgR (U7 (.par X)) (U7 (.par Y)) (U7 (.par (encP p))) ds [] (l.map d) (r.map d) (encP p) UA)=U7 (.next (mgR (U7 (.par X)) (U7 (.par Y)) (U7 (.par (encP p))) (ds++qx p row) D' L' R' h' x8')):=e1'
   have hE:mgE (mgR (U7 (.par X)) (U7 (.par Y)) (U7 (.par (encP p))) ds [] (l.map d) (r.map d) (encP p) UA)=U7 (.retL (.list (res.map d)) (ds++qx p row)):=by
    unfold mgE
    rw [zv hW]
    simp [ku,mgR,qh,e2,za,zk,zi,a1,a2]
   have hb:e7 [U7 (.par X),U7 (.par Y),U7 (.par (encP p)),U7 (.lent ds),UA,UA,UA,UA,UA]=U7 (.retL (.list (res.map d)) (ds++qx p row)):=by
    refine Eq.trans ?_ hE
    unfold e7
    simp only [ze,sIf,eEq,e2,jd,e1,za,eC,zk,zi,hx,hy,hn,hn2,nr,zj,zl,q9,zo,zu,Bc,hx2,hy2,UD,UE,Va,if_true,lfs,asg,lf,ll,lr,lp,VA,VB,WA,if_false,UI]
    rfl
   unfold j9 qo
   show (match e7 [U7 (.par X),U7 (.par Y),U7 (.par (encP p)),U7 (.lent ds),UA,UA,UA,UA,UA] with | some (.retL d ds')=>U7 (d,ds') | _=>UA)=_
   rw [hb]
end
end KT
namespace KT
open PySem PySem.Spec PyProof.Rows
mutual
theorem S5:∀ x y:U8,Vf x y=Vf y x
 | .none,y=>by cases y<;>simp [Vf]
 | .bool a,y=>by cases y<;>simp [Vf]<;>exact Bool.beq_comm
 | .int a,y=>by cases y<;>simp [Vf]<;>exact Bool.beq_comm
 | .str a,y=>by cases y<;>simp [Vf];exact Bool.beq_comm
 | .dict a,y=>by cases y<;>simp [Vf]
 | .list a,y=>by
  cases y with
  | list b=>simp only [Vf];exact eqvCs a b
  | _=>simp [Vf]
 | .tuple a,y=>by
  cases y with
  | tuple b=>simp only [Vf];exact eqvCs a b
  | _=>simp [Vf]
theorem eqvCs:∀ xs ys:List U8,VF xs ys=VF ys xs
 | [],ys=>by cases ys<;>rfl
 | x::xs,ys=>by
  cases ys with
  | nil=>rfl
  | cons y ys=>simp only [VF];rw [S5 x y,eqvCs xs ys]
end
mutual
theorem Ts:∀ x y:U8,ltD x y=U7 true->ltD y x=U7 true->False
 | .none,y,h1,h2=>by cases y<;>simp [ltD] at h1
 | .bool a,y,h1,h2=>by cases y<;>simp [ltD] at h1
 | .int a,y,h1,h2=>by
  cases y with
  | int b=>simp only [ltD,V6,decide_eq_true_eq] at h1 h2;omega
  | _=>simp [ltD] at h1
 | .str a,y,h1,h2=>by
  cases y with
  | str b=>simp only [ltD,V6,decide_eq_true_eq] at h1 h2;exact List.lt_asymm h1 h2
  | _=>simp [ltD] at h1
 | .dict a,y,h1,h2=>by cases y<;>simp [ltD] at h1
 | .list a,y,h1,h2=>by cases y<;>simp [ltD] at h1
 | .tuple a,y,h1,h2=>by
  cases y with
  | tuple b=>simp only [ltD] at h1 h2;exact ltAss a b h1 h2
  | _=>simp [ltD] at h1
theorem ltAss:∀ xs ys:List U8,ltDs xs ys=U7 true->ltDs ys xs=U7 true->False
 | [],ys,h1,h2=>by cases ys<;>simp [ltDs] at h1 h2
 | x::xs,ys,h1,h2=>by
  cases ys with
  | nil=>simp [ltDs] at h1
  | cons y ys=>
   simp only [ltDs] at h1 h2
   rw [S5 y x] at h2
   by_cases c:Vf x y=true
   ·rw [if_pos c] at h1 h2;exact ltAss xs ys h1 h2
   ·rw [if_neg c] at h1 h2;exact Ts x y h1 h2
end
theorem Bb(u v:Vk)(xs ys:List U8)(h:u=v->∃ b,ltDs xs ys=U7 b):∃ b,ltD (.tuple (.str u::xs)) (.tuple (.str v::ys))=U7 b:=by
 simp only [ltD,ltDs]
 by_cases c:Vf (.str u) (.str v)=true
 ·rw [if_pos c];exact h (by simpa [Vf] using c)
 ·rw [if_neg c];exact ⟨_,rfl⟩
theorem MQ{a b c d:U8}(h1:∃ t,ltD a c=U7 t)(h2:∃ t,ltD b d=U7 t):∃ t,ltDs [a,b] [c,d]=U7 t:=by
 simp only [ltDs]
 split
 ·split
  ·exact ⟨_,rfl⟩
  ·exact h2
 ·exact h1
theorem CT:∀ x y:Kd,∃ b,ltD (enc x) (enc y)=U7 b
 | .none,y=>by cases y<;>exact Bb _ _ _ _ λh=>by first | exact ⟨_,rfl⟩ | exact absurd h (by decide +kernel)
 | .one,y=>by cases y<;>exact Bb _ _ _ _ λh=>by first | exact ⟨_,rfl⟩ | exact absurd h (by decide +kernel)
 | .name i,y=>by
  cases y with
  | name j=>
   refine Bb _ _ _ _ λ_=>?_
   simp only [ltDs]
   split
   ·exact ⟨_,rfl⟩
   ·exact ⟨_,rfl⟩
  | _=>exact Bb _ _ _ _ λh=>absurd h (by decide +kernel)
 | .either a b,y=>by
  cases y with
  | either c d=>exact Bb _ _ _ _ λ_=>MQ (CT a c) (CT b d)
  | _=>exact Bb _ _ _ _ λh=>absurd h (by decide +kernel)
 | .both a b,y=>by
  cases y with
  | both c d=>exact Bb _ _ _ _ λ_=>MQ (CT a c) (CT b d)
  | _=>exact Bb _ _ _ _ λh=>absurd h (by decide +kernel)
noncomputable def ltK(x y:Kd):Bool:=(ltD (enc x) (enc y)).getD false
theorem Pd:MH enc ltK (λk=>k.leaves<=60) (λ_ _=>True) where
 hlf:=qb
 hlt:=λx y hx _=>by
  obtain ⟨b,e⟩:=CT x y
  have h:(enc x).depth<=60:=UU (aa x) hx
  simp [Hf,pf,h,ltK,e]
 asym:=λx y _ _ h=>by
  obtain ⟨b,e⟩:=CT x y
  obtain ⟨c,f⟩:=CT y x
  simp only [ltK,e,f,YN] at h ⊢
  subst h
  cases c with
  | false=>rfl
  | true=>exact (Ts _ _ e f).elim
 hS:=λ_ _ _ _ _=>trivial
 tr:=λ_ _ _ _ _=>trivial
theorem Pf:MH Wm ltI (λ_=>True) intOrd.kle where
 hlf:=λ_=>rfl
 hlt:=λx y _ _=>by simp [Hf,Vi,V5,ltD,ltI]
 asym:=λx y _ _ h=>by simp [ltI] at *;omega
 hS:=λx y _ _ h=>h
 tr:=λx y z h1 h2=>WB h1 h2
theorem Gn:∀ a b:List Int,ltDs (a.map .int) (b.map .int)=U7 (g9 a b)
 | [],[]=>rfl
 | [],_::_=>rfl
 | _::_,[]=>rfl
 | x::xs,y::ys=>by
  simp only [UR,ltDs,g9,Vf]
  by_cases h:x=y
  ·subst h;simp [Gn xs ys]
  ·simp [h,ltD]
theorem Gs:∀ ns:List Int,Vg (ns.map .int)=0
 | []=>rfl
 | n::ns=>by simp [Vg,V5,Gs ns]
theorem Sk:MH zt g9 (λ_=>True) rowOrd.kle where
 hlf:=λx=>qz x
 hlt:=λx y _ _=>by
  have h1:(zt x).canLay0=true:=xy x
  have h2:(zt y).canLay0=true:=xy y
  have h3:(zt x).depth<=60:=by simp only [zt,V5];rw [Gs];decide
  unfold Hf
  rw [h1,h2,decide_eq_true h3]
  simp [zt,ltD,Gn]
 asym:=λx y _ _ h=>by
  rw [i0] at *
  cases c:HT.lexLt y x with
  | false=>rfl
  | true=>have:=A9 x y x h c;rw [sd] at this;cases this
 hS:=λx y _ _ h=>by rw [i0] at h;exact h
 tr:=λx y z h1 h2=>WB h1 h2
theorem Ha(a b:U8)(h:(Zo [a,b]).canLay0=true):dEq (.list [a,b]) (.list [])=U7 (.bool false):=by
 have h1:dh (.list [a,b]) (.list [])=true:=by
  simp only [dh,h,XQ]
  simp [Vi,UP,V5,Vg]
 simp [dEq,yu,h1,Vf,VF]
theorem Nc:dEq (.list []) (.list [])=U7 (.bool true):=by simp [dEq,yu,dh,Vi,UP,V5,Vg,Vf,VF]
theorem PD(l:List Int):dEq (zt l) (.list [])=U7 (.bool false):=by
 have h1:dh (zt l) (.list [])=true:=by
  simp only [dh,zt,xy l,show (Zd (l.map .int)).canLay0=true from xy l,XQ]
  simp [Vi,UP,V5,Vg]
 unfold zt at *
 simp [dEq,yu,h1,Vf]
theorem Ks(p:List Int):dEq (zt p) (.tuple [])=U7 (.bool p.isEmpty):=by
 have h1:dh (encP p) (.tuple [])=true:=by
  simp [dh,xy,Vi,UP,V5,Vg];omega
 cases p<;>simp [dEq,yu,h1,Vf,VF,zt]<;>simp [encP] at h1<;>simp [h1]
theorem QM(gm gi:FR)(ta tb da db dm:U8)(p:List Int)(ds r1 r2 r3:List U8)(hp:p.length<=90000)(ht:(Zo [ta,tb]).canLay0=true)
  (h1:gi [ta,encP (p++[0])] ds=U7 (da,r1)) (h2:gi [tb,encP (p++[1])] r1=U7 (db,r2)) (h3:gm [da,db,encP p] r2=U7 (dm,r3)):
  qo 5 (ez gm gi) [.list [ta,tb],encP p] ds=U7 (dm,r3):=by
 have e0:=w9 p 0 hp
 have e1':=w9 p 1 hp
 have l0:=qz (p++[0])
 have l1:=qz (p++[1])
 have q:=Ha ta tb ht
 simp [qo,ez,ze,sIf,eIs,e1,za,zk,zi,dIs,p7,zj,eEq,e2,q9,zo,zu,lfs,q,yi,xj,xb,di,ko,au,dj,A5,As,qh,zm,eC,e0,e1',l0,l1,h1,h2,h3,u1,ab]
theorem rj:∀ (T:Tr) (n:Nat) (p:List Int) (ds:List U8),(ai T∨T= .nil)->nb T+1<=n->nb T<=100->ds.length+4 * (nb T * nb T)+2 < big->p.length+2 * nb T<=80000->
  ∃ (row:TRow) (L:List (List Int)),vo n [q8 T,encP p] ds=U7 (.list (L.map zt),ds++qx p row)/\goK (trK T) row=U7 (pk L)/\L.Pairwise rowOrd.kle/\(∀ r∈L,Ris r)/\L.length=nb T/\row.length<=4 * (nb T * nb T)
 | .nil,n,p,ds,hF,hn,h100,hds,hp=>by
  obtain ⟨m,rfl⟩:∃ m,n=m+1:=⟨n - 1,by omega⟩
  refine ⟨[],[],?_,rfl,.nil,by simp,rfl,VJ _⟩
  unfold vo
  simp [qo,ez,q8,qx,ze,sIf,eIs,e1,za,zk,zi,dIs,p7,zj,eEq,e2,q9,zo,zu,lfs,Nc,ku]
 | .bun l,n,p,ds,hF,hn,h100,hds,hp=>by
  obtain ⟨m,rfl⟩:∃ m,n=m+1:=⟨n - 1,by omega⟩
  have hR:Ris l:=by rcases hF with h | h;exact h;cases h
  refine ⟨[],[l],?_,rfl,List.pairwise_singleton _ _,by simpa using hR,rfl,VJ _⟩
  have hl:lf (zt l)=true:=qz l
  unfold zt at hl
  unfold vo
  simp [qo,ez,q8,zt,qx,ze,sIf,eIs,e1,za,zk,zi,dIs,p7,zj,q9,zo,zu,lfs,hl,ku]
 | .nod a b,n,p,ds,hF,hn,h100,hds,hp=>by
  obtain ⟨m,rfl⟩:∃ m,n=m+1:=⟨n - 1,by omega⟩
  have hF:ai a/\ai b:=by rcases hF with h | h;exact h;cases h
  have pa:=xh a hF.1
  have pb:=xh b hF.2
  simp only [nb] at hn h100 hds hp ⊢
  have hsq:(nb a+nb b) * (nb a+nb b)=nb a * nb a+nb b * nb b+2 * (nb a * nb b):=by
   rw [Yb,W4,W4,Xm (nb b) (nb a)];omega
  have hab:nb a+nb b<=nb a * nb b+1:=by
   obtain ⟨x,hx⟩:∃ x,nb a=x+1:=⟨nb a - 1,by omega⟩
   obtain ⟨y,hy⟩:∃ y,nb b=y+1:=⟨nb b - 1,by omega⟩
   rw [hx,hy,Yb,W4];omega
  rw [hsq] at hds ⊢
  obtain ⟨ra,La,a1,a2,a3,a4,a5,a6⟩:=rj a m (p++[0]) ds (.inl hF.1) (by omega) (by omega) (by omega) (by simp only [UC,UX];omega)
  have hds1:(ds++qx (p++[0]) ra).length=ds.length+ra.length:=by rw [UC,yc]
  obtain ⟨rb,Lb,b1,b2,b3,b4,b5,b6⟩:=rj b m (p++[1]) (ds++qx (p++[0]) ra) (.inl hF.2) (by omega) (by omega) (by rw [hds1];omega) (by simp only [UC,UX];omega)
  have hds2:(ds++qx (p++[0]) ra++qx (p++[1]) rb).length=ds.length+ra.length+rb.length:=by rw [UC,yc,hds1]
  obtain ⟨k,rfl⟩:∃ k,m=k+1:=⟨m - 1,by omega⟩
  obtain ⟨rm,L,m1,m2,m3,m4,m5⟩:=AS true bk Sk k La Lb (.list (La.map zt)) (.list (Lb.map zt)) p (ds++qx (p++[0]) ra++qx (p++[1]) rb) (.inl rfl) (.inl rfl) (λ_ _=>trivial) (λ_ _=>trivial) (by rw [a5,b5];omega) (by rw [hds2,a5,b5];omega) (by rw [a5,b5];omega)
  rw [a5,b5] at m5
  refine ⟨pfx [0] ra++pfx [1] rb++rm,L,?_,?_,m4 a3 b3,λr hr=>?_,by rw [m3.length_eq,UC,a5,b5],by simp only [UC,uw];omega⟩
  ·unfold vo
   rw [show q8 (.nod a b)= .list [q8 a,q8 b] from rfl]
   rw [yy,yy,vn,vn,<- Vd,<- Vd]
   exact QM _ _ _ _ _ _ _ p ds _ _ _ (by omega) (C9 (.nod a b)) a1 b1 m1
  ·refine kh (c:=opK true (pk La) (pk Lb)) (kh (c:=opK true (pk La) (trK b)) (LH true a2) (IC true b2)) ?_
   rw [B4,B4,B4]
   exact m2
  ·rcases VT.mp (m3.mem_iff.mp hr) with h | h
   ·exact a4 r h
   ·exact b4 r h
theorem Te(gm gs:FR)(xs:List U8)(S d:U8)(p:List Int)(ds r:List U8)(hb:ds.length < big)(h:gs [S,.list xs,encP p] (ds++[jv "swap" p])=U7 (d,r)):
  qo 4 (ju gm gs) [.list xs,S,encP p] ds=U7 (d,r):=by
 have lp:=qz p
 unfold jv at h
 simp [qo,ju,ze,sIf,eIs,e1,za,zk,zi,dIs,p7,je,zm,zo,zu,eC,lf,lfs,lp,hb,u1,xj,xb,di,ko,au,h,ab]
theorem SW(gm gs:FR)(f xs:List U8)(d:U8)(p:List Int)(ds r:List U8)(h:gs [.tuple f,.list xs,encP p] ds=U7 (d,r)):
  qo 4 (ju gm gs) [.tuple f,.list xs,encP p] ds=U7 (d,r):=by
 simp [qo,ju,ze,sIf,eIs,e1,za,zk,zi,dIs,p7,zj,u1,xj,xb,di,ko,au,h,ab]
theorem Tw(gm gs:FR)(f s res:List U8)(p:List Int)(ds r:List U8)(hl:lfs res=true)(h:gm [.tuple f,.tuple s,encP p] ds=U7 (.list res,r)):
  qo 4 (ju gm gs) [.tuple f,.tuple s,encP p] ds=U7 (.tuple res,r):=by
 simp [qo,ju,ze,sIf,eIs,e1,za,zk,zi,dIs,p7,zj,F5,xj,xb,di,ko,au,h,ab,hl]
theorem SX(gb:FR)(A S:U8)(p:List Int)(ds:List U8)(hb:ds.length < big)(h:dEq A (.tuple [])=U7 (.bool true)):
  qo 6 (va gb) [A,S,encP p] ds=U7 (S,ds++[jv "drop" p]):=by
 have lp:=qz p
 simp [qo,va,ze,sIf,eEq,e2,za,zm,zo,zu,zk,zi,h,je,eC,lf,lfs,lp,hb,me,ko,jv]
theorem Tn(gb:FR)(A ta tb da db:U8)(p:List Int)(ds r1 r2:List U8)(hp:p.length<=90000)(hb:ds.length < big)(h:dEq A (.tuple [])=U7 (.bool false))
  (h1:gb [A,ta,encP (p++[0])] (ds++[jv "spread" p])=U7 (da,r1)) (h2:gb [A,tb,encP (p++[1])] r1=U7 (db,r2)):
  qo 6 (va gb) [A,.list [ta,tb],encP p] ds=U7 (.list [da,db],r2):=by
 have lp:=qz p
 have e0:=w9 p 0 hp
 have e1':=w9 p 1 hp
 have l0:=qz (p++[0])
 have l1:=qz (p++[1])
 unfold jv at h1
 simp [qo,va,ze,sIf,eEq,e2,za,zm,zo,zu,zk,zi,h,zj,je,eC,lf,lfs,lp,hb,yi,xj,xb,di,ko,au,dj,A5,As,qh,e0,e1',l0,l1,h1,h2,DQ]
noncomputable def N6(F S:Tr):Prop:=∀ (n:Nat) (p:List Int) (ds:List U8),2 * (nb F+nb S)<=n->p.length+nb F+nb S+40<=80000->ds.length+85 * (nb F * nb S)+2 < big->
 ∃ (row:TRow) (T:Tr),m_both_of_trees n [q8 F,q8 S,encP p] ds=U7 (q8 T,ds++qx p row)/\goK (.both (trK F) (trK S)) row=U7 (trK T)/\ai T/\row.length+3<=85 * (nb F * nb S)
theorem Nh(A l r:Tr)(hA:ai A)(hl:ai l)(hr:ai r)(kl:N6 A l)(kr:N6 A r)(n:Nat)(p:List Int)(ds:List U8)(hn:2 * (nb A+(nb l+nb r))<=n+1)(hp:p.length+nb A+(nb l+nb r)+40<=80000)
  (hds:ds.length+85 * (nb A * (nb l+nb r))+1 < big):∃ (row:TRow) (T:Tr),jk n [q8 A,q8 (.nod l r),encP p] ds=U7 (q8 T,ds++qx p row)/\goK (.both (trK A) (.either (trK l) (trK r))) row=U7 (trK T)/\ai T/\row.length+4<=85 * (nb A * (nb l+nb r)):=by
 obtain ⟨m,rfl⟩:∃ m,n=m+1:=⟨n - 1,by have:=xh A hA;omega⟩
 have pA:=xh A hA
 have pl:=xh l hl
 have pr:=xh r hr
 have hm:nb A * (nb l+nb r)=nb A * nb l+nb A * nb r:=W4 _ _ _
 have m1:1<=nb A * nb l:=Nat.mul_pos pA pl
 have m2:1<=nb A * nb r:=Nat.mul_pos pA pr
 have hs:∀ (hh:dEq (q8 A) (.tuple [])=U7 (.bool false)),∃ (row:TRow) (T:Tr),jk (m+1) [q8 A,q8 (.nod l r),encP p] ds=U7 (q8 T,ds++qx p row)/\goK (.both (trK A) (.either (trK l) (trK r))) row=U7 (trK T)/\ai T/\row.length+4<=85 * (nb A * (nb l+nb r)):=λhh=>by
  rw [hm] at hds ⊢
  obtain ⟨r1,T1,a1,a2,a3,a4⟩:=kl m (p++[0]) (ds++[jv "spread" p]) (by omega) (by simp only [UC,UX];omega) (by simp only [UC,UX];omega)
  obtain ⟨r2,T2,b1,b2,b3,b4⟩:=kr m (p++[1]) (ds++[jv "spread" p]++qx (p++[0]) r1) (by omega) (by simp only [UC,UX];omega) (by simp only [UC,UX,yc];omega)
  refine ⟨("spread",[])::(pfx [0] r1++pfx [1] r2),.nod T1 T2,?_,?_,⟨a3,b3⟩,by simp only [UM,UC,uw];omega⟩
  ·rw [show jk (m+1)=qo 6 (va (m_both_of_trees m)) from rfl]
   have:=Tn (m_both_of_trees m) (q8 A) (q8 l) (q8 r) (q8 T1) (q8 T2) p ds _ _ (by omega) (by omega) hh a1 b1
   rw [show q8 (.nod l r)= .list [q8 l,q8 r] from rfl,this]
   rw [vf,yy,vn,vn,V3]
   simp [q8]
  ·show (wu _ "spread" []).bind _=_
   rw [ni (c:=.either (.both (trK A) (trK l)) (.both (trK A) (trK r))) (by rw [m9];rfl)]
   exact kh (c:=opK true (trK T1) (.both (trK A) (trK r))) (LH true a2) (IC true b2)
 cases A with
 | nil=>exact hA.elim
 | nod a b=>
  refine hs ?_
  have h1:dh (q8 (.nod a b)) (.tuple [])=true:=by
   simp only [dh,C9,XQ]
   simp [Vi,UP,V5,Vg];omega
  unfold q8 at h1 ⊢
  simp [dEq,yu,h1,Vf]
 | bun f=>
  by_cases h0:f=[]
  ·subst h0
   refine ⟨[("drop",[])],.nod l r,?_,u0 (by rw [b9];rfl),⟨hl,hr⟩,?_⟩
   ·rw [show jk (m+1)=qo 6 (va (m_both_of_trees m)) from rfl]
    refine (SX _ _ _ p ds (by omega) (Ks [])).trans ?_
    rw [vf,V3];rfl
   ·simp only [nb,UX] at *;omega
  ·refine hs ?_
   have:=Ks f
   cases f with
   | nil=>exact absurd rfl h0
   | cons x f=>exact this
theorem CF:∀ (m:Nat) (F S:Tr),nb F+nb S<=m->ai F->ai S->(trK F).leaves+(trK S).leaves<=40->N6 F S
 | 0,F,S,h,hF,_,_=>by have:=xh F hF;omega
 | m+1,F,S,h,hF,hS,hw=>by
  intro n p ds hn hp hds
  have pF:=xh F hF
  have pS:=xh S hS
  obtain ⟨k,rfl⟩:∃ k,n=k+2:=⟨n - 2,by omega⟩
  cases F with
  | nil=>exact hF.elim
  | nod a b=>
   simp only [nb] at h hn hp hds pF ⊢
   have pa:=xh a hF.1
   have pb:=xh b hF.2
   have hm:(nb a+nb b) * nb S=nb S * (nb a+nb b):=Xm _ _
   have m1:1<=nb S * (nb a+nb b):=Nat.mul_pos pS pF
   rw [hm] at hds ⊢
   have wl:(trK S).leaves+(trK a).leaves<=40:=by simp only [trK,Kd.leaves] at hw;omega
   have wr:(trK S).leaves+(trK b).leaves<=40:=by simp only [trK,Kd.leaves] at hw;omega
   obtain ⟨row,T,e1,e2,e3,e4⟩:=Nh S a b hS hF.1 hF.2 (CF m S a (by omega) hS hF.1 wl) (CF m S b (by omega) hS hF.2 wr) (k+1) p (ds++[jv "swap" p]) (by omega) (by omega) (by simp only [UC,UX];omega)
   refine ⟨("swap",[])::row,T,?_,?_,e3,by simp only [UM];omega⟩
   ·rw [show m_both_of_trees (k+2)=qo 4 (ju (j9 (k+1)) (jk (k+1))) from rfl]
    have:=Te (j9 (k+1)) (jk (k+1)) [q8 a,q8 b] (q8 S) (q8 T) p ds _ (by omega) e1
    rw [show q8 (.nod a b)= .list [q8 a,q8 b] from rfl,this,vf,V3]
    simp
   ·show (wu _ "swap" []).bind _=_
    rw [ni (c:=.both (trK S) (.either (trK a) (trK b))) (by rw [oy];rfl)]
    exact e2
  | bun f=>
   cases S with
   | nil=>exact hS.elim
   | nod a b=>
    simp only [nb] at h hn hp hds pS ⊢
    have pa:=xh a hS.1
    have pb:=xh b hS.2
    have wl:(trK (.bun f)).leaves+(trK a).leaves<=40:=by simp only [trK,Kd.leaves] at hw ⊢;omega
    have wr:(trK (.bun f)).leaves+(trK b).leaves<=40:=by simp only [trK,Kd.leaves] at hw ⊢;omega
    obtain ⟨row,T,e1,e2,e3,e4⟩:=Nh (.bun f) a b hF hS.1 hS.2 (CF m (.bun f) a (by simp only [nb];omega) hF hS.1 wl) (CF m (.bun f) b (by simp only [nb];omega) hF hS.2 wr) (k+1) p ds (by simp only [nb];omega) (by simp only [nb];omega) (by simp only [nb];omega)
    refine ⟨row,T,?_,e2,e3,by simp only [nb] at e4;omega⟩
    rw [show m_both_of_trees (k+2)=qo 4 (ju (j9 (k+1)) (jk (k+1))) from rfl]
    exact SW (j9 (k+1)) (jk (k+1)) (f.map .int) [q8 a,q8 b] (q8 T) p ds _ e1
   | bun s=>
    simp only [nb] at h hn hp hds pS ⊢
    have w1:=IV f
    have w2:=IV s
    simp only [trK] at hw
    obtain ⟨row,res,e1,e2,e3,e4,e5⟩:=AS false .name Pf k f s (zt f) (zt s) p ds (.inr rfl) (.inr rfl) (λ_ _=>trivial) (λ_ _=>trivial) (by omega) (by omega) (by omega)
    refine ⟨row,.bun res,?_,?_,e4 hF hS,by omega⟩
    ·rw [show m_both_of_trees (k+2)=qo 4 (ju (j9 (k+1)) (jk (k+1))) from rfl]
     exact Tw (j9 (k+1)) (jk (k+1)) (f.map .int) (s.map .int) (res.map .int) p ds _ (gk res) e1
    ·show goK (.both (bk f) (bk s)) row=U7 (bk res)
     rw [BB,BB,BB]
     exact e2
end KT
namespace KT
open PySem
theorem um:∀ (k:Kd) (n:Nat),k.leaves<=n->ql n [enc k]=U7 (.ok (.bool (brn k)))
 | .none,n+1,_=>by
  unfold ql
  simp [qj,gz,ze,zl,eIx,e2,za,eC,zk,zi,enc,dIx,atP,ixP,asg,lf,sIf,eEq,dEq,yu,zq,brn,w13,w14,zj]
 | .one,n+1,_=>by
  unfold ql
  simp [qj,gz,ze,zl,eIx,e2,za,eC,zk,zi,enc,dIx,atP,ixP,asg,lf,sIf,eEq,dEq,yu,zq,brn,w15,w16,w08,zj]
 | .name i,n+1,_=>by
  unfold ql
  simp [qj,gz,ze,zl,eIx,e2,za,eC,zk,zi,enc,dIx,atP,ixP,asg,lf,sIf,eEq,dEq,yu,zq,brn,w17,w18,w09,zj]
 | .either a b,n+1,hn=>by
  have pa:=a.pos
  have pb:=b.pos
  simp only [Kd.leaves] at hn
  have ea:=um a n (by omega)
  have eb:=um b n (by omega)
  have e0:atP [Vb "either",enc a,enc b] 0=U7 (.str "either"):=rfl
  have e1:atP [Vb "either",enc a,enc b] 1=U7 (enc a):=rfl
  have e2':atP [Vb "either",enc a,enc b] 2=U7 (enc b):=rfl
  unfold ql
  cases ha:brn a<;>simp [qj,gz,ze,zl,eIx,e2,za,eC,zk,zi,enc,dIx,e0,e1,e2',asg,lf,sIf,eEq,dEq,yu,zq,km,zd,zo,zu,ea,eb,jt,ha,brn]
 | .both a b,n+1,hn=>by
  have pa:=a.pos
  have pb:=b.pos
  simp only [Kd.leaves] at hn
  have ea:=um a n (by omega)
  have eb:=um b n (by omega)
  have e0:atP [Vb "both",enc a,enc b] 0=U7 (.str "both"):=rfl
  have e1:atP [Vb "both",enc a,enc b] 1=U7 (enc a):=rfl
  have e2':atP [Vb "both",enc a,enc b] 2=U7 (enc b):=rfl
  unfold ql
  cases ha:brn a<;>simp [qj,gz,ze,zl,eIx,e2,za,eC,zk,zi,enc,dIx,e0,e1,e2',asg,lf,sIf,eEq,dEq,yu,zq,eOr,zd,zo,zu,ea,eb,jt,ha,brn,w07,zj]
 | .none,0,h=>by simp [Kd.leaves] at h
 | .one,0,h=>by simp [Kd.leaves] at h
 | .name _,0,h=>by simp [Kd.leaves] at h
 | .either a b,0,h=>by have:=a.pos;simp only [Kd.leaves] at h;omega
 | .both a b,0,h=>by have:=a.pos;simp only [Kd.leaves] at h;omega
end KT
namespace KT
open PySem PySem.Spec PyProof.Rows
noncomputable def nf:Kd->Nat
 | .both a b=>nf a+nf b
 | _=>1
noncomputable def ME:Kd->Bool
 | .both _ _=>true
 | _=>false
theorem C0:∀ k:Kd,1<=nf k
 | .both a b=>by have:=C0 a;simp only [nf];omega
 | .none=>UI _
 | .one=>UI _
 | .name _=>UI _
 | .either _ _=>UI _
theorem ik:∀ k:Kd,nf k<=k.leaves
 | .both a b=>by have:=ik a;have:=ik b;simp only [nf,Kd.leaves];omega
 | .none=>UI _
 | .one=>UI _
 | .name _=>UI _
 | .either a b=>Kd.pos _
noncomputable def fe:List Kd->Nat
 | []=>0
 | k::r=>k.leaves+fe r
theorem og:∀ l r:List Kd,fe (l++r)=fe l+fe r
 | [],r=>by simp [fe]
 | k::l,r=>by simp only [WD,fe,og l r];omega
theorem KH{l r:List Kd}(h:l.Perm r):fe l=fe r:=by
 induction h with
 | nil=>rfl
 | cons x _ ih=>simp only [fe,ih]
 | swap x y l=>simp only [fe];omega
 | trans _ _ h1 h2=>exact h1.trans h2
theorem e8:∀ l:List Kd,l.length<=fe l
 | []=>UI _
 | k::l=>by have:=e8 l;have:=k.pos;simp only [fe,UM];omega
theorem HA{k:Kd}{l:List Kd}(h:k∈l):k.leaves<=fe l:=by
 induction l with
 | nil=>cases h
 | cons x l ih=>
  rcases Vl.mp h with rfl | h
  ·simp only [fe];omega
  ·have:=ih h;simp only [fe];omega
theorem Mh(gm gf:FR)(k:Kd)(p:List Int)(ds:List U8)(h:ME k=false):qo 5 (wg gm gf) [enc k,encP p] ds=U7 (.list [enc k],ds):=by
 have hl:=qb k
 have hw:∃ (w:Vk) (xs:List U8),enc k= .tuple (.str w::xs)/\(w == "both")=false:=by
  cases k with
  | none=>exact ⟨_,_,rfl,by decide +kernel⟩
  | one=>exact ⟨_,_,rfl,by decide +kernel⟩
  | name i=>exact ⟨_,_,rfl,by decide +kernel⟩
  | either a b=>exact ⟨_,_,rfl,by decide +kernel⟩
  | both a b=>cases h
 obtain ⟨w,xs,e,hw⟩:=hw
 rw [e] at hl ⊢
 have a0:atP (Vb w::xs) 0=U7 (.str w):=at0 _ _
 simp [qo,wg,ze,sIf,eNe,e2,eIx,za,eC,zk,zi,dIx,a0,Rv,hw,ku,q9,zo,zu,lfs,hl]
theorem Mp(gm gf:FR)(a b:Kd)(da db dm:U8)(p:List Int)(ds r1 r2 r3:List U8)(hp:p.length<=90000)
  (h1:gf [enc a,encP (p++[0])] ds=U7 (da,r1)) (h2:gf [enc b,encP (p++[1])] r1=U7 (db,r2)) (h3:gm [da,db,encP p] r2=U7 (dm,r3)):
  qo 5 (wg gm gf) [enc (.both a b),encP p] ds=U7 (dm,r3):=by
 have e0:=w9 p 0 hp
 have e1':=w9 p 1 hp
 have l0:=qz (p++[0])
 have l1:=qz (p++[1])
 have la:=qb a
 have lb':=qb b
 have a0:atP [Vb "both",enc a,enc b] 0=U7 (.str "both"):=rfl
 have a1:atP [Vb "both",enc a,enc b] 1=U7 (enc a):=rfl
 have a2:atP [Vb "both",enc a,enc b] 2=U7 (enc b):=rfl
 simp [qo,wg,enc,ze,sIf,eNe,e2,eIx,za,eC,zk,zi,dIx,a0,a1,a2,Rv,zj,yi,xj,xb,di,ko,au,dj,A5,As,qh,zm,zo,zu,e0,e1',l0,l1,la,lb',h1,h2,h3,u1,ab]
theorem Ij:∀ (k:Kd) (n:Nat) (p:List Int) (ds:List U8),k.leaves<=n->k.leaves<=60->ds.length+4 * (nf k * nf k)+2 < big->p.length+2 * k.leaves<=80000->
  ∃ (row:TRow) (fs:List Kd),qm n [enc k,encP p] ds=U7 (.list (fs.map enc),ds++qx p row)/\goK k row=U7 (fq false id fs)/\fs.length=nf k/\fe fs=k.leaves/\row.length+4 * nf k<=4 * (nf k * nf k):=by
 intro k
 by_cases hk:ME k=false
 ·intro n p ds hn _ _ _
  obtain ⟨m,rfl⟩:∃ m,n=m+1:=⟨n - 1,by have:=k.pos;omega⟩
  have e1:nf k=1:=by cases k<;>first | rfl | cases hk
  refine ⟨[],[k],?_,rfl,by rw [e1];rfl,by simp [fe],by rw [e1];decide⟩
  rw [show qm (m+1)=qo 5 (wg (j9 m) (qm m)) from rfl,Mh _ _ k p ds hk]
  simp [qx]
 ·cases k with
  | none=>exact absurd rfl hk
  | one=>exact absurd rfl hk
  | name i=>exact absurd rfl hk
  | either a b=>exact absurd rfl hk
  | both a b=>
   intro n p ds hn h60 hds hp
   have pa:=a.pos
   have pb:=b.pos
   have na:=C0 a
   have nb':=C0 b
   have la:=ik a
   have lb':=ik b
   simp only [Kd.leaves,nf] at hn h60 hds hp ⊢
   obtain ⟨m,rfl⟩:∃ m,n=m+2:=⟨n - 2,by omega⟩
   have hsq:(nf a+nf b) * (nf a+nf b)=nf a * nf a+nf b * nf b+2 * (nf a * nf b):=by
    rw [Yb,W4,W4,Xm (nf b) (nf a)];omega
   have hab:nf a+nf b<=nf a * nf b+1:=by
    obtain ⟨x,hx⟩:∃ x,nf a=x+1:=⟨nf a - 1,by omega⟩
    obtain ⟨y,hy⟩:∃ y,nf b=y+1:=⟨nf b - 1,by omega⟩
    rw [hx,hy,Yb,W4];omega
   rw [hsq] at hds ⊢
   obtain ⟨ra,La,a1,a2,a3,a4,a5⟩:=Ij a (m+1) (p++[0]) ds (by omega) (by omega) (by omega) (by simp only [UC,UX];omega)
   have hds1:(ds++qx (p++[0]) ra).length=ds.length+ra.length:=by rw [UC,yc]
   obtain ⟨rb,Lb,b1,b2,b3,b4,b5⟩:=Ij b (m+1) (p++[1]) (ds++qx (p++[0]) ra) (by omega) (by omega) (by rw [hds1];omega) (by simp only [UC,UX];omega)
   have hds2:(ds++qx (p++[0]) ra++qx (p++[1]) rb).length=ds.length+ra.length+rb.length:=by rw [UC,yc,hds1]
   obtain ⟨rm,L,m1,m2,m3,m4,m5⟩:=AS false id Pd m La Lb (.list (La.map enc)) (.list (Lb.map enc)) p (ds++qx (p++[0]) ra++qx (p++[1]) rb) (.inl rfl) (.inl rfl) (λx hx=>by have:=HA hx;rw [a4] at this;show x.leaves<=60;omega) (λx hx=>by have:=HA hx;rw [b4] at this;show x.leaves<=60;omega) (by rw [a3,b3];omega) (by rw [hds2,a3,b3];omega) (by rw [a3,b3];omega)
   rw [a3,b3] at m5
   refine ⟨pfx [0] ra++pfx [1] rb++rm,L,?_,?_,by rw [m3.length_eq,UC,a3,b3],by rw [KH m3,og,a4,b4],by simp only [UC,uw];omega⟩
   ·rw [show qm (m+2)=qo 5 (wg (j9 (m+1)) (qm (m+1))) from rfl]
    rw [yy,yy,vn,vn,<- Vd,<- Vd]
    exact Mp _ _ a b _ _ _ p ds _ _ _ (by omega) a1 b1 m1
   ·exact kh (c:=opK false (fq false id La) (fq false id Lb)) (kh (c:=opK false (fq false id La) b) (LH false a2) (IC false b2)) m2
termination_by k=>k.leaves
decreasing_by all_goals (simp only [Kd.leaves];omega)
noncomputable def vq(j:Nat):List Int:=UW j 1
theorem ic(j:Nat):(vq j).length=j:=by simp [vq]
theorem KG(j:Nat):vq (j+1)=vq j++[1]:=by simp [vq,List.replicate_succ']
theorem FJ(j:Nat)(h:j<=90000):HZ (.tuple [.int 1]) (.int (j:Int))=U7 (encP (vq j)):=by
 have h1:j<=big:=UU h (by decide)
 have e:∀ j:Nat,(UW j [Wm 1]).flatten=(vq j).map .int:=λj=>by
  induction j with
  | zero=>rfl
  | succ j ih=>rw [We,WL,ih];simp [vq,We]
 have h2:([Wm 1].length * (j:Int).toNat<=big):=by simpa using h1
 have h3:(j:Int).natAbs<=big:=by simpa using h1
 simp [HZ,lfs,lf,h1,e,encP]
theorem Gm(p q:List Int)(h:p.length+q.length<=90000):bz (encP p) (encP q)=U7 (encP (p++q)):=by
 have hb:p.length+q.length<=big:=UU h (by decide)
 simp [bz,encP,gk,hb]
theorem IW{α:Type}{xs:List α}{k:Nat}{v:α}(h:xs[k]? =U7 v):atP xs (k:Int)=U7 v:=by
 have hk:k < xs.length:=(UV.mp h).1
 have:(k:Int) < xs.length:=by omega
 simp [atP,ixP,this,h]
theorem LP(n:Nat):xc (n+1)= .int n::xc n:=by
 unfold xc
 rw [List.range_succ_eq_map,UR,XD]
 congr 1
 ·congr 1;omega
 ·exact VL λa _=>by simp only [Function.comp_def];congr 1;omega
noncomputable def ptB(gb gt:FR):FS:=(ze (zl 7 (qh (za 1) (tq (zm [(eC (.int 1))]) (za 6)))) (ze (yi 8 gt [.f (eIx (za 3) (za 6)),.f (qh (za 7) (zm [(eC (.int 0))]))] 2) (yi 5 gb [.n 8,.n 5,.n 7] 2)))
noncomputable def ptR(K P:U8)(ds FS:List U8)(l:Int)(T:U8)(x6 x7 x8:Option Slot):Rho:=[U7 (.par K),U7 (.par P),U7 (.lent ds),U7 (.par (.list FS)),U7 (.loc (.int l)),U7 (.par T),x6,x7,x8]
theorem Ou(gb gt:FR)(K T x t1 t2:U8)(p:List Int)(ds r1 r2 FS:List U8)(l:Int)(j:Nat)(x7 x8:Option Slot)(hp:p.length+j<=80000)(hx:FS[j]? =U7 x)(lx:lf x=true)
  (h1:gt [x,encP (p++vq j++[0])] ds=U7 (t1,r1)) (h2:gb [t1,T,encP (p++vq j)] r1=U7 (t2,r2)):
  ptB gb gt (ptR K (encP p) ds FS l T (U7 (.loc (.int (j:Int)))) x7 x8)=U7 (.next (ptR K (encP p) r2 FS l t2 (U7 (.loc (.int (j:Int)))) (U7 (.loc (encP (p++vq j)))) (U7 (.par t1)))):=by
 have e0:=w9 (p++vq j) 0 (by rw [UC,ic];omega)
 have l0:=qz (p++vq j++[0])
 have l1:=qz (p++vq j)
 have m1:=FJ j (by omega)
 have c1:=Gm p (vq j) (by rw [ic];omega)
 have a1:=IW hx
 rw [Vd] at e0 l0 h1
 simp only [ptB,ptR,ze,zl,qh,e2,za,tq,zm,zo,eC,zu,zk,zi,UD,UE,m1,c1,Va,asg,l1,if_true,VA,VB]
 simp [yi,xj,xb,di,ko,au,dj,A5,As,qh,e2,za,zm,zo,eC,zu,zk,zi,eIx,dIx,a1,lx,e0,l0,h1,h2]
theorem Om(gt:FR)(gi:FC)(gb gp:FR)(p:List Int)(ds:List U8):qo 6 (j4 gt gi gb gp) [enc .none,encP p] ds=U7 (.list [],ds):=by
 simp [qo,j4,enc,ze,zl,sIf,eIx,e2,za,eC,zk,zi,dIx,atP,ixP,asg,lf,eEq,EY,ku,q9,zo,zu,lfs]
theorem QP(gt:FR)(gi:FC)(gb gp:FR)(p:List Int)(ds:List U8):qo 6 (j4 gt gi gb gp) [enc .one,encP p] ds=U7 (.tuple [],ds):=by
 simp [qo,j4,enc,ze,zl,sIf,eIx,e2,za,eC,zk,zi,dIx,atP,ixP,asg,lf,eEq,EY,w08,zj,ku,zm,zo,zu,lfs]
theorem Pb(gt:FR)(gi:FC)(gb gp:FR)(i:Int)(p:List Int)(ds:List U8):qo 6 (j4 gt gi gb gp) [enc (.name i),encP p] ds=U7 (.tuple [.int i],ds):=by
 simp [qo,j4,enc,ze,zl,sIf,eIx,e2,za,eC,zk,zi,dIx,atP,ixP,asg,lf,eEq,EY,w09,w10,zj,ku,zm,zo,zu,lfs]
theorem Nn(gt:FR)(gi:FC)(gb gp:FR)(a b:Kd)(d:U8)(p:List Int)(ds r:List U8)(hi:gi [enc (.both a b)]=U7 (.ok (.bool true)))(h:gb [enc (.both a b),encP p] ds=U7 (d,r)):
  qo 6 (j4 gt gi gb gp) [enc (.both a b),encP p] ds=U7 (d,r):=by
 have a0:atP [Vb "both",enc a,enc b] 0=U7 (.str "both"):=rfl
 simp only [enc] at hi h
 simp [qo,j4,enc,ze,zl,sIf,eIx,e2,za,eC,zk,zi,dIx,a0,asg,lf,eEq,EY,w04,w05,w06,zj,zd,zo,zu,hi,jt,u1,xj,xb,di,ko,au,h,ab]
theorem QR(gt:FR)(gi:FC)(gb gp:FR)(a b:Kd)(d:U8)(p:List Int)(ds r:List U8)(hi:gi [enc (.both a b)]=U7 (.ok (.bool false)))(h:gp [enc (.both a b),encP p] ds=U7 (d,r)):
  qo 6 (j4 gt gi gb gp) [enc (.both a b),encP p] ds=U7 (d,r):=by
 have a0:atP [Vb "both",enc a,enc b] 0=U7 (.str "both"):=rfl
 simp only [enc] at hi h
 simp [qo,j4,enc,ze,zl,sIf,eIx,e2,za,eC,zk,zi,dIx,a0,asg,lf,eEq,EY,w04,w05,w06,zj,zd,zo,zu,hi,jt,u1,xj,xb,di,ko,au,h,ab]
section
variable(gt:FR)(gi:FC)(gb gp:FR)(a b:Kd)(t1 t2:U8)(p:List Int)(ds r1 r2:List U8)(hp:p.length<=90000)
 (h1:gt [enc a,encP (p++[0])] ds=U7 (t1,r1)) (h2:gt [enc b,encP (p++[1])] r1=U7 (t2,r2))
include hp h1 h2
theorem RP(q1:dEq t1 (.list [])=U7 (.bool true))(hb:r2.length < big):qo 6 (j4 gt gi gb gp) [enc (.either a b),encP p] ds=U7 (t2,r2++[jv "drop" p]):=by
 have lp:=qz p
 have e0:=w9 p 0 hp
 have e1':=w9 p 1 hp
 have l0:=qz (p++[0])
 have l1:=qz (p++[1])
 have la:=qb a
 have lb':=qb b
 have a0:atP [Vb "either",enc a,enc b] 0=U7 (.str "either"):=rfl
 have a1:atP [Vb "either",enc a,enc b] 1=U7 (enc a):=rfl
 have a2:atP [Vb "either",enc a,enc b] 2=U7 (enc b):=rfl
 simp [qo,j4,enc,ze,zl,sIf,eIx,e2,za,eC,zk,zi,dIx,a0,a1,a2,asg,lf,lfs,eEq,EY,w01,w02,w03,w12,zj,yi,xj,xb,di,ko,au,dj,A5,As,qh,zm,zo,zu,e0,e1',l0,l1,la,lb',h1,h2,q9,q1,je,lp,hb,me,jv]
theorem Si(q1:dEq t1 (.list [])=U7 (.bool false))(q2:dEq t2 (.list [])=U7 (.bool true))(hb:r2.length < big)(hb2:r2.length+1 < big):qo 6 (j4 gt gi gb gp) [enc (.either a b),encP p] ds=U7 (t1,r2++[jv "swap" p,jv "drop" p]):=by
 have lp:=qz p
 have e0:=w9 p 0 hp
 have e1':=w9 p 1 hp
 have l0:=qz (p++[0])
 have l1:=qz (p++[1])
 have la:=qb a
 have lb':=qb b
 have a0:atP [Vb "either",enc a,enc b] 0=U7 (.str "either"):=rfl
 have a1:atP [Vb "either",enc a,enc b] 1=U7 (enc a):=rfl
 have a2:atP [Vb "either",enc a,enc b] 2=U7 (enc b):=rfl
 simp [qo,j4,enc,ze,zl,sIf,eIx,e2,za,eC,zk,zi,dIx,a0,a1,a2,asg,lf,lfs,eEq,EY,w01,w02,w03,w12,zj,yi,xj,xb,di,ko,au,dj,A5,As,qh,zm,zo,zu,e0,e1',l0,l1,la,lb',h1,h2,q9,q1,q2,je,lp,hb,hb2,me,jv]
theorem Rh(q1:dEq t1 (.list [])=U7 (.bool false))(q2:dEq t2 (.list [])=U7 (.bool false)):qo 6 (j4 gt gi gb gp) [enc (.either a b),encP p] ds=U7 (.list [t1,t2],r2):=by
 have lp:=qz p
 have e0:=w9 p 0 hp
 have e1':=w9 p 1 hp
 have l0:=qz (p++[0])
 have l1:=qz (p++[1])
 have la:=qb a
 have lb':=qb b
 have a0:atP [Vb "either",enc a,enc b] 0=U7 (.str "either"):=rfl
 have a1:atP [Vb "either",enc a,enc b] 1=U7 (enc a):=rfl
 have a2:atP [Vb "either",enc a,enc b] 2=U7 (enc b):=rfl
 simp [qo,j4,enc,ze,zl,sIf,eIx,e2,za,eC,zk,zi,dIx,a0,a1,a2,asg,lf,lfs,eEq,EY,w01,w02,w03,w12,zj,yi,xj,xb,di,ko,au,dj,A5,As,qh,zm,zo,zu,e0,e1',l0,l1,la,lb',h1,h2,q9,q1,q2,DQ]
end
theorem TX(gi:FC)(gt:FR)(a b:Kd)(t:U8)(p:List Int)(ds r:List U8)(hp:p.length<=90000)(hi:gi [enc a]=U7 (.ok (.bool true)))(h:gt [enc a,encP (p++[0])] ds=U7 (t,r))(hb:r.length < big):
  qo 3 (kc gi gt) [enc (.both a b),encP p] ds=U7 (.list [],r++[jv "drop" p]):=by
 have lp:=qz p
 have e0:=w9 p 0 hp
 have l0:=qz (p++[0])
 have la:=qb a
 have a1:atP [Vb "both",enc a,enc b] 1=U7 (enc a):=rfl
 simp [qo,kc,enc,ze,sIf,zd,zo,eIx,e2,za,eC,zk,zu,zi,dIx,a1,hi,jt,n9,xj,xb,di,la,qh,zm,e0,l0,au,h,dj,A5,As,je,lf,lfs,lp,hb,ku,q9,jv]
theorem TQ(gi:FC)(gt:FR)(a b:Kd)(t:U8)(p:List Int)(ds r:List U8)(hp:p.length<=90000)(hi:gi [enc a]=U7 (.ok (.bool false)))(h:gt [enc b,encP (p++[1])] ds=U7 (t,r))(hb:r.length+1 < big):
  qo 3 (kc gi gt) [enc (.both a b),encP p] ds=U7 (.list [],r++[jv "swap" p,jv "drop" p]):=by
 have lp:=qz p
 have e0:=w9 p 1 hp
 have l0:=qz (p++[1])
 have la:=qb b
 have hb0:r.length < big:=by omega
 have a1:atP [Vb "both",enc a,enc b] 1=U7 (enc a):=rfl
 have a2:atP [Vb "both",enc a,enc b] 2=U7 (enc b):=rfl
 simp [qo,kc,enc,ze,sIf,zd,zo,eIx,e2,za,eC,zk,zu,zi,dIx,a1,a2,hi,jt,n9,xj,xb,di,la,qh,zm,e0,l0,au,h,dj,A5,As,je,lf,lfs,lp,hb,hb0,ku,q9,jv]
noncomputable def EO(n:Nat)(k:Kd):Prop:=∀ (p:List Int) (ds:List U8),p.length+k.leaves+200<=70000->ds.length+1700 * k.leaves < big->
 ∃ (row:TRow) (T:Tr),m_tree_of n [enc k,encP p] ds=U7 (q8 T,ds++qx p row)/\goK k row=U7 (trK T)/\(ai T∨T= .nil)/\row.length+1700<=1700 * k.leaves
theorem K7{k:Kd}{row:TRow}{T:Tr}(h:goK k row=U7 (trK T))(hT:ai T∨T= .nil)(hl:lb k≠[]):ai T:=by
 rcases hT with h1 | h1
 ·exact h1
 ·subst h1
  have:=Bi row k _ h
  exact absurd this.symm hl
theorem Mo{k:Kd}{row:TRow}{T:Tr}(h:goK k row=U7 (trK T))(hT:ai T∨T= .nil)(hl:lb k=[]):T= .nil:=by
 rcases hT with h1 | h1
 ·have e:=Bi row k _ h
  have:=D5 T h1
  have:=xh T h1
  rw [e,hl] at *
  simp at *
  omega
 ·exact h1
structure GoodL(l:List Kd):Prop where
 s:sE (fq false id l)<=40
 ne:lb (fq false id l)≠[]
 b:(lb (fq false id l)).length<=18
theorem K2{a b:Nat}(ha:1<=a)(hb:1<=b):a<=a * b/\b<=a * b/\a+b<=a * b+1:=by
 obtain ⟨x,hx⟩:∃ x,a=x+1:=⟨a - 1,by omega⟩
 obtain ⟨y,hy⟩:∃ y,b=y+1:=⟨b - 1,by omega⟩
 subst hx hy
 rw [Yb,W4]
 omega
theorem O6{a b:Kd}(h:lb (.both a b)≠[]):lb a≠[]/\lb b≠[]/\(lb (.both a b)).length=(lb a).length * (lb b).length:=by
 have l:(lb (.both a b)).length=(lb a).length * (lb b).length:=by simp only [lb,vg,il]
 have h0:(lb (.both a b)).length≠0:=λz=>h (VU.mp z)
 refine ⟨λz=>h0 (by rw [l,z];simp),λz=>h0 (by rw [l,z];simp),l⟩
theorem JX(a b:Kd):sE a<=sE (.both a b)/\sE b<=sE (.both a b):=by
 have pa:=dn a
 have pb:=dn b
 have h1:sE a * 1<=sE a * nE b:=Wn _ pb
 have h2:sE b * 1<=sE b * nE a:=Wn _ pa
 simp only [sE]
 omega
theorem LK{a b:Kd}(s:sE (.both a b)<=40)(ne:lb (.both a b)≠[])(hb:(lb (.both a b)).length<=18):
  (sE a<=40/\lb a≠[]/\(lb a).length<=18)/\(sE b<=40/\lb b≠[]/\(lb b).length<=18):=by
 obtain ⟨na,nb',l⟩:=O6 ne
 have pa:=Ym.mpr na
 have pb:=Ym.mpr nb'
 have t:=K2 pa pb
 have:=JX a b
 exact ⟨⟨by omega,na,by omega⟩,⟨by omega,nb',by omega⟩⟩
theorem AJ{x:Kd}{l:List Kd}(h:GoodL (x::l))(hl:l≠[]):GoodL l/\(sE x<=40/\lb x≠[]/\(lb x).length<=18):=by
 obtain ⟨s,ne,b⟩:=h
 rw [AR false id x hl] at s ne b
 obtain ⟨h1,h2⟩:=LK s ne b
 exact ⟨⟨h2.1,h2.2.1,h2.2.2⟩,h1⟩
theorem Ac:∀ (hd tl:List Kd),GoodL (hd++tl)->tl≠[]->GoodL tl
 | [],tl,h,_=>h
 | x::hd,tl,h,hl=>Ac hd tl (AJ (l:=hd++tl) h (by simp [hl])).1 hl
theorem LU(n:Nat)(hn:38<=n)(x:Kd)(tl:List Kd)(hg:GoodL (x::tl))(ht:tl≠[])(hx:EO n x)(p:List Int)(j:Nat)(hp:p.length+j+x.leaves+201<=70000)(ds:List U8)(row:TRow)(T:Tr)(hT:ai T)
  (hgo:goK (fq false id tl) row=U7 (trK T)) (hds:ds.length+row.length+1700 * x.leaves < big):
  ∃ (r1 rb:TRow) (T1 T2:Tr),m_tree_of n [enc x,encP (p++vq j++[0])] (ds++qx (p++vq j++[1]) row)=U7 (q8 T1,ds++qx (p++vq j++[1]) row++qx (p++vq j++[0]) r1)/\
   m_both_of_trees n [q8 T1,q8 T,encP (p++vq j)] (ds++qx (p++vq j++[1]) row++qx (p++vq j++[0]) r1)=U7 (q8 T2,ds++qx (p++vq j) (pfx [1] row++pfx [0] r1++rb))/\ai T2/\
   goK (fq false id (x::tl)) (pfx [1] row++pfx [0] r1++rb)=U7 (trK T2)/\r1.length+1700<=1700 * x.leaves/\rb.length+3<=1530:=by
 have hj:(p++vq j).length=p.length+j:=by rw [UC,ic]
 obtain ⟨_,gx⟩:=AJ hg ht
 obtain ⟨r1,T1,a1,a2,a3,a4⟩:=hx (p++vq j++[0]) (ds++qx (p++vq j++[1]) row) (by simp only [UC,ic,UX];omega) (by rw [UC,yc];omega)
 have f1:=K7 a2 a3 gx.2.1
 have hn1:fq false id (x::tl)=opK false x (fq false id tl):=AR false id x ht
 have go2:goK (fq false id (x::tl)) (pfx [1] row++pfx [0] r1)=U7 (.both (trK T1) (trK T)):=by
  rw [hn1]
  exact kh (c:=opK false x (trK T)) (IC false hgo) (LH false a2)
 have e2:=LM _ _ _ go2
 have l2:=Bi _ _ _ go2
 have hw:(trK T1).leaves+(trK T).leaves<=40:=by
  have:=yo (.both (trK T1) (trK T))
  have:=hg.s
  simp only [Kd.leaves] at *
  omega
 have hf:nb T1 * nb T<=18:=by
  have:(lb (.both (trK T1) (trK T))).length=nb T1 * nb T:=by simp only [lb,vg,il,D5 T1 f1,D5 T hT]
  rw [<- this,l2]
  exact hg.b
 have tw:=K2 (xh T1 f1) (xh T hT)
 obtain ⟨rb,T2,b1,b2,b3,b4⟩:=CF (nb T1+nb T) T1 T (UI _) f1 hT hw n (p++vq j) (ds++qx (p++vq j++[1]) row++qx (p++vq j++[0]) r1) (by omega) (by rw [hj];omega) (by simp only [UC,yc];omega)
 refine ⟨r1,rb,T1,T2,a1,?_,b3,?_,a4,by omega⟩
 ·rw [b1,yy,yy,vn,vn]
  simp only [Vd]
 ·exact kh go2 b2
theorem Hd(n:Nat)(hn:38<=n)(fs:List Kd)(K:U8)(p:List Int)(l:Int)(ds:List U8)(hT:∀ x∈fs,EO n x)(hg:GoodL fs)(hp:p.length+fe fs+200<=70000)(hds:ds.length+1700 * fe fs+160 < big+160 * fs.length):
  ∀ (j:Nat) (hd tl:List Kd) (row:TRow) (T:Tr) (x6 x7 x8:Option Slot),hd.length=j->fs=hd++tl->tl≠[]->ai T->goK (fq false id tl) row=U7 (trK T)->row.length+1700 * tl.length+1530<=1700 * fe tl+1530 * tl.length->
   ∃ (row':TRow) (T':Tr) (y6 y7 y8:Option Slot),qg (zw 6) (ptB (m_both_of_trees n) (m_tree_of n)) (xc j) (ptR K (encP p) (ds++qx (p++vq j) row) (fs.map enc) l (q8 T) x6 x7 x8)=U7 (.next (ptR K (encP p) (ds++qx p row') (fs.map enc) l (q8 T') y6 y7 y8))/\
    ai T'/\goK (fq false id fs) row'=U7 (trK T')/\row'.length+1700 * fs.length+1530<=1700 * fe fs+1530 * fs.length
 | 0,hd,tl,row,T,x6,x7,x8,hj,hfs,ht,hF,hgo,hr=>by
  have:hd=[]:=VU.mp hj
  subst this
  rw [XG] at hfs
  subst hfs
  exact ⟨row,T,x6,x7,x8,by rw [show vq 0=[] from rfl,V3];rfl,hF,hgo,hr⟩
 | j+1,hd,tl,row,T,x6,x7,x8,hj,hfs,ht,hF,hgo,hr=>by
  obtain ⟨hd',x,rfl⟩:∃ hd' x,hd=hd'++[x]:=⟨hd.dropLast,hd.getLast (by intro z;rw [z] at hj;cases hj),(List.dropLast_concat_getLast _).symm⟩
  have hj':hd'.length=j:=by simpa using hj
  have hfs':fs=hd'++(x::tl):=by rw [hfs];simp
  have gx:GoodL (x::tl):=Ac hd' (x::tl) (hfs' ▸ hg) (by simp)
  have hmem:x∈fs:=by rw [hfs'];simp
  have hls:fe fs=fe hd'+(x.leaves+fe tl):=by rw [hfs',og];rfl
  have hlen:fs.length=j+(1+tl.length):=by rw [hfs',UC,hj',UM];omega
  have hdl:=e8 hd'
  have tll:=e8 tl
  have xp:=x.pos
  have tp:1<=tl.length:=Ym.mpr ht
  obtain ⟨r1,rb,T1,T2,a1,a2,a3,a4,a5,a6⟩:=LU n hn x tl gx ht (hT x hmem) p j (by omega) ds row T hF hgo (by omega)
  obtain ⟨row',T',y6,y7,y8,b1,b2,b3,b4⟩:=Hd n hn fs K p l ds hT hg hp hds j hd' (x::tl) (pfx [1] row++pfx [0] r1++rb) T2 (U7 (.loc (.int (j:Int)))) (U7 (.loc (encP (p++vq j)))) (U7 (.par (q8 T1))) hj' hfs' (by simp) a3 a4 (by simp only [UC,uw,UM,fe];omega)
  refine ⟨row',T',y6,y7,y8,?_,b2,b3,b4⟩
  have hget:(fs.map enc)[j]? =U7 (enc x):=by rw [hfs',XJ,UR,Vs (by rw [V8,hj'];exact UI _),V8,hj',Nat.sub_self];rfl
  have body:=Ou (m_both_of_trees n) (m_tree_of n) K (q8 T) (enc x) (q8 T1) (q8 T2) p (ds++qx (p++vq j++[1]) row) _ _ (fs.map enc) l j x7 x8 (by omega) hget (qb x) a1 a2
  rw [LP,<- b1]
  rw [show p++vq (j+1)=p++vq j++[1] by rw [KG,Vd]]
  exact xg rfl body
theorem Ss(gb gt gf:FR)(K T T' x:U8)(p:List Int)(ds r1 r2 r3 FS:List U8)(m:Nat)(y6 y7 y8:Option Slot)(hm:FS.length=m+1)(h60:p.length+m<=80000)(hf:gf [K,encP p] ds=U7 (.list FS,r1))(hx:FS[m]? =U7 x)(lx:lf x=true)
  (h1:gt [x,encP (p++vq m)] r1=U7 (T,r2)) (hl:qg (zw 6) (ptB gb gt) (xc m) (ptR K (encP p) r2 FS (m:Int) T UA UA UA)=U7 (.next (ptR K (encP p) r3 FS (m:Int) T' y6 y7 y8))):
  qo 9 (xk gb gt gf) [K,encP p] ds=U7 (T',r3):=by
 have m1:=FJ m (by omega)
 have c1:=Gm p (vq m) (by rw [ic];omega)
 have l1:=qz (p++vq m)
 have a1:=IW hx
 have e:xk gb gt gf=(ze (yi 3 gf [.n 0,.n 1] 2) (ze (zl 4 (iz (jd (za 3)) (eC (.int 1)))) (ze (yi 5 gt [.f (eIx (za 3) (za 4)),.f (qh (za 1) (tq (zm [(eC (.int 1))]) (za 4)))] 2) (ze (ye (C2 (iz (za 4) (eC (.int 1)))) (zw 6) (ptB gb gt)) (me 2 5))))):=rfl
 have hlast:IP (.int (FS.length:Int)) (.int 1)=U7 (.int (m:Int)):=by rw [Q3,hm];congr 2;omega
 have s1:yi 3 gf [.n 0,.n 1] 2 [U7 (.par K),U7 (.par (encP p)),U7 (.lent ds),UA,UA,UA,UA,UA,UA]=U7 (.next [U7 (.par K),U7 (.par (encP p)),U7 (.lent r1),U7 (.par (.list FS)),UA,UA,UA,UA,UA]):=by
  simp [yi,xj,xb,di,ko,au,hf,dj,A5,As]
 have s2:zl 4 (iz (jd (za 3)) (eC (.int 1))) [U7 (.par K),U7 (.par (encP p)),U7 (.lent r1),U7 (.par (.list FS)),UA,UA,UA,UA,UA]=U7 (.next [U7 (.par K),U7 (.par (encP p)),U7 (.lent r1),U7 (.par (.list FS)),U7 (.loc (.int (m:Int))),UA,UA,UA,UA]):=by
  simp [zl,iz,e2,jd,e1,za,eC,zk,zi,fm,hlast,asg,lf]
 have s3:yi 5 gt [.f (eIx (za 3) (za 4)),.f (qh (za 1) (tq (zm [(eC (.int 1))]) (za 4)))] 2 [U7 (.par K),U7 (.par (encP p)),U7 (.lent r1),U7 (.par (.list FS)),U7 (.loc (.int (m:Int))),UA,UA,UA,UA]=U7 (.next (ptR K (encP p) r2 FS (m:Int) T UA UA UA)):=by
  have q1:(eIx (za 3) (za 4)) [U7 (.par K),U7 (.par (encP p)),U7 (.lent r1),U7 (.par (.list FS)),U7 (.loc (.int (m:Int))),UA,UA,UA,UA]=U7 (.ok 0 x):=by
   simp [eIx,e2,za,zk,dIx,a1]
  have q2:(qh (za 1) (tq (zm [(eC (.int 1))]) (za 4))) [U7 (.par K),U7 (.par (encP p)),U7 (.lent r1),U7 (.par (.list FS)),U7 (.loc (.int (m:Int))),UA,UA,UA,UA]=U7 (.ok 2 (encP (p++vq m))):=by
   simp [qh,tq,e2,za,zm,zo,eC,zu,zk,m1,c1]
  simp [yi,xj,xb,di,ko,au,q1,q2,lx,l1,h1,dj,A5,As,ptR]
 have s4:ye (C2 (iz (za 4) (eC (.int 1)))) (zw 6) (ptB gb gt) (ptR K (encP p) r2 FS (m:Int) T UA UA UA)=U7 (.next (ptR K (encP p) r3 FS (m:Int) T' y6 y7 y8)):=by
  have q:(C2 (iz (za 4) (eC (.int 1)))) (ptR K (encP p) r2 FS (m:Int) T UA UA UA)=U7 (.ok 2 (xc m)):=by
   have hb:((m:Int) - 1).natAbs<=big:=by
    have:(80001:Nat)<=big:=by decide
    omega
   have hz:((m:Int) - 1+1).toNat=m:=by omega
   simp only [C2,iz,e2,za,eC,ptR,zk,UD,UE,Q3,Va,hb,if_true,hz]
  unfold ye
  rw [q]
  exact hl
 have s5:me 2 5 (ptR K (encP p) r3 FS (m:Int) T' y6 y7 y8)=U7 (.retL T' r3):=by simp [me,ptR,ko]
 unfold qo
 show (match xk gb gt gf [U7 (.par K),U7 (.par (encP p)),U7 (.lent ds),UA,UA,UA,UA,UA,UA] with | some (.retL d ds')=>U7 (d,ds') | _=>UA)=_
 rw [e,zv s1,zv s2,zv s3,zv s4,s5]
theorem Hk(T:Tr):dEq (q8 T) (.list [])=U7 (.bool (match T with | .nil=>true | _=>false)):=by
 cases T with
 | nil=>exact Nc
 | bun l=>exact PD l
 | nod a b=>exact Ha _ _ (C9 (.nod a b))
theorem o8:∀ (N:Nat) (k:Kd),k.leaves<=N->sE k<=40->(lb k).length<=18->∀ n,2 * k.leaves+40<=n->EO n k
 | 0,k,h,_,_,_,_=>by have:=k.pos;omega
 | N+1,k,hN,hs,hb,n,hn=>by
  intro p ds hp hds
  obtain ⟨m,rfl⟩:∃ m,n=m+1:=⟨n - 1,by omega⟩
  have unf:m_tree_of (m+1)=qo 6 (j4 (m_tree_of m) (ql m) (ke m) (vk m)):=rfl
  cases k with
  | none=>exact ⟨[],.nil,by rw [unf,Om];simp [q8,qx],rfl,.inr rfl,by simp [Kd.leaves]⟩
  | one=>exact ⟨[],.bun [],by rw [unf,QP];simp [q8,qx,zt],rfl,.inl .nil,by simp [Kd.leaves]⟩
  | name i=>exact ⟨[],.bun [i],by rw [unf,Pb];simp [q8,qx,zt],rfl,.inl (List.pairwise_singleton _ _),by simp [Kd.leaves]⟩
  | either a b=>
   have pa:=a.pos
   have pb:=b.pos
   simp only [Kd.leaves,sE,lb,vg,UC] at hN hs hb hn hp hds ⊢
   obtain ⟨r1,T1,a1,a2,a3,a4⟩:=o8 N a (by omega) (by omega) (by omega) m (by omega) (p++[0]) ds (by simp only [UC,UX];omega) (by omega)
   obtain ⟨r2,T2,b1,b2,b3,b4⟩:=o8 N b (by omega) (by omega) (by omega) m (by omega) (p++[1]) (ds++qx (p++[0]) r1) (by simp only [UC,UX];omega) (by rw [UC,yc];omega)
   have hlen:(ds++qx (p++[0]) r1++qx (p++[1]) r2).length=ds.length+r1.length+r2.length:=by simp only [UC,yc]
   have go:goK (.either a b) (pfx [0] r1++pfx [1] r2)=U7 (.either (trK T1) (trK T2)):=kh (c:=opK true (trK T1) b) (LH true a2) (IC true b2)
   have hw:ds++qx p (pfx [0] r1++pfx [1] r2)=ds++qx (p++[0]) r1++qx (p++[1]) r2:=by rw [yy,vn,vn,Vd]
   have q1:=Hk T1
   have q2:=Hk T2
   rcases a3 with f1 | f1
   ·have q1:dEq (q8 T1) (.list [])=U7 (.bool false):=by cases T1<;>first | exact f1.elim | exact q1
    rcases b3 with f2 | f2
    ·have q2:dEq (q8 T2) (.list [])=U7 (.bool false):=by cases T2<;>first | exact f2.elim | exact q2
     refine ⟨pfx [0] r1++pfx [1] r2,.nod T1 T2,?_,go,.inl ⟨f1,f2⟩,by simp only [UC,uw];omega⟩
     rw [unf,hw]
     exact Rh _ _ _ _ a b _ _ p ds _ _ (by omega) a1 b1 q1 q2
    ·subst f2
     refine ⟨pfx [0] r1++pfx [1] r2++([("swap",[]),("drop",[])]:TRow),T1,?_,?_,.inl f1,by simp only [UC,uw,UM,Vm];omega⟩
     ·rw [unf,yy,<- Vd,hw,vf,vf,V3]
      exact Si _ _ _ _ a b _ _ p ds _ _ (by omega) a1 b1 q1 q2 (by rw [hlen];omega) (by rw [hlen];omega)
     ·refine kh go ?_
      show goK _ (([("swap",[])]:TRow)++([("drop",[])]:TRow))=_
      exact kh (u0 (BG true _ _)) (u0 (B8 true _))
   ·subst f1
    refine ⟨pfx [0] r1++pfx [1] r2++([("drop",[])]:TRow),T2,?_,kh go (u0 (B8 true _)),b3,by simp only [UC,uw,UM,Vm];omega⟩
    rw [unf,yy,<- Vd,hw,vf,V3]
    exact RP _ _ _ _ a b _ _ p ds _ _ (by omega) a1 b1 q1 (by rw [hlen];omega)
  | both a b=>
   have pa:=a.pos
   have pb:=b.pos
   have hsb:=JX a b
   have bar:=um (.both a b) m (by omega)
   obtain ⟨m,rfl⟩:∃ k,m=k+1:=⟨m - 1,by omega⟩
   cases hbr:brn (.both a b) with
   | true=>
    rw [hbr] at bar
    simp only [Kd.leaves] at hN hn hp hds ⊢
    have ub:ke (m+1)=qo 3 (kc (ql m) (m_tree_of m)):=rfl
    have ba:=um a m (by omega)
    cases hba:brn a with
    | true=>
     rw [hba] at ba
     have l0:=tm a hba
     obtain ⟨r1,T1,a1,a2,a3,a4⟩:=o8 N a (by omega) (by omega) (by rw [l0];decide) m (by omega) (p++[0]) ds (by simp only [UC,UX];omega) (by omega)
     have:=Mo a2 a3 l0
     subst this
     refine ⟨pfx [0] r1++([("drop",[])]:TRow),.nil,?_,?_,.inr rfl,by simp only [UC,uw,UM,Vm];omega⟩
     ·rw [unf]
      refine Nn _ _ _ _ a b _ p ds _ bar ?_
      rw [ub,yy,vn,vf,V3,<- Vd]
      exact TX _ _ a b _ p ds _ (by omega) ba a1 (by rw [UC,yc];omega)
     ·exact kh (c:=.both .none b) (LH false a2) (u0 (by rw [b9];rfl))
    | false=>
     rw [hba] at ba
     have hbb:brn b=true:=by simpa [brn,hba] using hbr
     have l0:=tm b hbb
     obtain ⟨r1,T1,a1,a2,a3,a4⟩:=o8 N b (by omega) (by omega) (by rw [l0];decide) m (by omega) (p++[1]) ds (by simp only [UC,UX];omega) (by omega)
     have:=Mo a2 a3 l0
     subst this
     refine ⟨pfx [1] r1++([("swap",[]),("drop",[])]:TRow),.nil,?_,?_,.inr rfl,by simp only [UC,uw,UM,Vm];omega⟩
     ·rw [unf]
      refine Nn _ _ _ _ a b _ p ds _ bar ?_
      rw [ub,yy,vn,vf,vf,V3,<- Vd]
      exact TQ _ _ a b _ p ds _ (by omega) ba a1 (by rw [UC,yc];omega)
     ·refine kh (c:=.both a .none) (IC false a2) ?_
      show goK _ (([("swap",[])]:TRow)++([("drop",[])]:TRow))=_
      exact kh (u0 (BG false a .none)) (u0 (by rw [b9];rfl))
   | false=>
    rw [hbr] at bar
    have ne:=CC _ hbr
    have up:vk (m+1)=qo 9 (xk (m_both_of_trees m) (m_tree_of m) (qm m)):=rfl
    have hL:(Kd.both a b).leaves<=40:=UU (yo _) hs
    have h2:2<=nf (.both a b):=by have:=C0 a;have:=C0 b;simp only [nf];omega
    have hnl:=ik (.both a b)
    have hsq:nf (.both a b) * nf (.both a b)<=40 * nf (.both a b):=Xq _ (by omega)
    obtain ⟨rf,fs,f1,f2,f3,f4,f5⟩:=Ij (.both a b) m p ds (by omega) (by omega) (by omega) (by omega)
    generalize hk:Kd.both a b=k at *
    have hg:GoodL fs:=⟨UU (LM _ _ _ f2) hs,by rw [Bi _ _ _ f2];exact ne,by rw [Bi _ _ _ f2];exact hb⟩
    have hfl:rf.length<=160 * (fs.length - 1):=by
     rw [f3]
     have:4 * (nf k * nf k)<=160 * nf k:=by omega
     have hq:nf k * nf k=nf k+nf k * (nf k - 1):=by
      obtain ⟨z,hz⟩:∃ z,nf k=z+1:=⟨nf k - 1,by omega⟩
      rw [hz,Nat.add_sub_cancel,W4];omega
     have hq2:nf k * (nf k - 1)<=40 * (nf k - 1):=Xq _ (by omega)
     omega
    obtain ⟨hd,x,hfs⟩:∃ hd x,fs=hd++[x]:=⟨fs.dropLast,fs.getLast (by intro z;rw [z] at f3;simp at f3;omega),(List.dropLast_concat_getLast _).symm⟩
    have hlh:hd.length+1=fs.length:=by rw [hfs];simp
    have hls:fe fs=fe hd+x.leaves:=by rw [hfs,og];simp [fe]
    have hdl:=e8 hd
    have gx:GoodL [x]:=Ac hd [x] (hfs ▸ hg) (by simp)
    have each:∀ y∈fs,EO m y:=λy hy=>by
     have hlt:y.leaves < k.leaves:=by
      rw [<- f4]
      obtain ⟨s,t,hst⟩:=List.append_of_mem hy
      rw [hst] at f3 ⊢
      rw [og]
      have:=e8 s
      have:=e8 t
      simp only [UC,UM,fe] at *
      omega
     have good:sE y<=40/\(lb y).length<=18:=by
      obtain ⟨s,t,hst⟩:=List.append_of_mem hy
      have g2:GoodL (y::t):=Ac s (y::t) (hst ▸ hg) (by simp)
      by_cases ht:t=[]
      ·subst ht;exact ⟨g2.s,g2.b⟩
      ·have:=(AJ g2 ht).2;exact ⟨this.1,this.2.2⟩
     exact o8 N y (by omega) good.1 good.2 m (by omega)
    obtain ⟨r1,T1,a1,a2,a3,a4⟩:=each x (by rw [hfs];simp) (p++vq hd.length) (ds++qx p rf) (by rw [UC,ic];omega) (by rw [UC,yc];omega)
    have ft:=K7 a2 a3 gx.ne
    obtain ⟨row',T',y6,y7,y8,b1,b2,b3,b4⟩:=Hd m (by omega) fs (enc k) p (hd.length:Int) (ds++qx p rf) each hg (by omega) (by rw [UC,yc];omega) hd.length hd [x] r1 T1 UA UA UA rfl hfs (by simp) ft a2 (by simp only [UX,fe];omega)
    refine ⟨rf++row',T',?_,kh f2 b3,.inl b2,by rw [UC];omega⟩
    rw [unf]
    subst hk
    refine QR _ _ _ _ a b _ p ds _ bar ?_
    rw [up,yy,<- Vd]
    exact Ss _ _ _ _ _ _ (enc x) p ds _ _ _ _ hd.length y6 y7 y8 (by rw [V8];omega) (by omega) f1 (by rw [hfs,XJ,Vs (by simp)];simp) (qb x) a1 b1
theorem R6(gi gt:FR)(k t L:U8)(r1 r2:List U8)(h1:gt [k,encP []] []=U7 (t,r1))(h2:gi [t,encP []] r1=U7 (L,r2)):qj 3 (f6 gi gt) [k]=U7 (.ok (.list r2)):=by
 have lp:lf (.tuple [])=true:=rfl
 have h1':gt [k,.tuple []] []=U7 (t,r1):=h1
 have h2':gi [t,.tuple []] r1=U7 (L,r2):=h2
 simp [qj,f6,ze,zl,q9,zo,zu,zi,lfs,lf,asg,yi,xj,xb,di,ko,zm,au,h1',dj,A5,As,n9,h2',zq,za]
theorem mf(k:Kd)(n:Nat)(hs:sE k<=40)(hb:(lb k).length<=18)(hn:2 * k.leaves+42<=n):
  ∃ row:TRow,ji n [enc k]=U7 (.ok (.list (qx [] row)))/\goK k row=U7 (pk (lb k))/\row.length<=70000:=by
 obtain ⟨m,rfl⟩:∃ m,n=m+1:=⟨n - 1,by omega⟩
 have hL:k.leaves<=40:=UU (yo k) hs
 have big0:big=100000:=rfl
 obtain ⟨r1,T,a1,a2,a3,a4⟩:=o8 k.leaves k (UI _) hs hb m (by omega) [] [] (by simp only [Vm];omega) (by simp only [Vm];omega)
 have hnb:nb T<=18:=by
  rcases a3 with h | h
  ·rw [<- D5 T h,Bi _ _ _ a2];exact hb
  ·subst h;decide
 have hsq:nb T * nb T<=18 * 18:=X5 hnb hnb
 obtain ⟨r2,L,b1,b2,b3,b4,b5,b6⟩:=rj T m [] (qx [] r1) a3 (by omega) (by omega) (by rw [yc];omega) (by simp only [Vm];omega)
 have go:=kh a2 b2
 refine ⟨r1++r2,?_,?_,by rw [UC];omega⟩
 ·rw [show ji (m+1)=qj 3 (f6 (vo m) (m_tree_of m)) from rfl,yy]
  exact R6 _ _ _ _ _ _ _ (by rw [a1];rfl) b1
 ·rw [go]
  have e:=Bi _ _ _ go
  rw [Qm L b4] at e
  have:q0 g9 L=L:=by
   rw [show (g9:List Int->List Int->Bool)=HT.lexLt from funext λa=>funext λb=>i0 a b]
   exact (ao (O:=rowOrd) (.refl L) b3).symm
  rw [this] at e
  rw [e]
end KT
namespace KT
open PySem
theorem Kl:∀ ns:List Int,Vg (ns.map .int)=0
 | []=>rfl
 | n::ns=>by simp [Vg,V5,Kl ns]
theorem Kb:∀ rs:List (List Int),Vg (rs.map zt)<=1
 | []=>by simp [Vg]
 | r::rs=>by
  have:=Kb rs
  simp [Vg,zt,V5,Kl] at *
  omega
noncomputable def CH:Option Kd->U8
 | some k=>enc k
 | none=>.none
theorem JN{k:Kd}(h:inn k=true):fm (enc k)=U7 (.int 3):=by cases k<;>first | rfl | cases h
theorem Ge{k:Kd}(h:inn k=false):∃ m:Int,fm (enc k)=U7 (.int m)/\decide (m < 3)=true:=by cases k<;>first | exact ⟨_,rfl,rfl⟩ | cases h
theorem Q1(i j:Int):dLt (.int i) (.int j)=U7 (.bool (decide (i < j))):=rfl
theorem Pg(x y:Vk)(hx:WT x=true)(hy:WT y=true):dIn (.tuple [.str x,.str y]) (.tuple [.tuple [.str "both",.str "one"],.tuple [.str "either",.str "none"]])=
  U7 (.bool ((("both":Vk) == x && ("one":Vk) == y) || (("either":Vk) == x && ("none":Vk) == y))):=by
 have h1:EM (.tuple [.str x,.str y]) [.tuple [.str "both",.str "one"],.tuple [.str "either",.str "none"]]=true:=by
  simp [EM,Vi,UP,hx,hy,Ex,Ir,AH,Fo,V5,Vg]
 simp [dIn,Fu,h1,Vf,VF]
theorem wz1:(("none":Vk) == "name")=false:=by decide +kernel
theorem wz2:(("one":Vk) == "name")=false:=by decide +kernel
noncomputable def J9:FS:=(ze (sIf (eEq (za 1) (eC (.str "swap"))) (zq (zm [(eIx (za 0) (eC (.int 0))),(za 3),(za 2)])) zj) (ze (sIf (km (eEq (za 1) (eC (.str "group"))) (eEq (eIx (za 2) (eC (.int 0))) (eIx (za 0) (eC (.int 0))))) (zq (zm [(eIx (za 0) (eC (.int 0))),(eIx (za 2) (eC (.int 1))),(zm [(eIx (za 0) (eC (.int 0))),(eIx (za 2) (eC (.int 2))),(za 3)])])) zj) (ze (sIf (km (eEq (za 1) (eC (.str "spread"))) (km (eEq (eIx (za 0) (eC (.int 0))) (eC (.str "both"))) (eEq (eIx (za 3) (eC (.int 0))) (eC (.str "either"))))) (zq (zm [(eC (.str "either")),(zm [(eC (.str "both")),(za 2),(eIx (za 3) (eC (.int 1)))]),(zm [(eC (.str "both")),(za 2),(eIx (za 3) (eC (.int 2)))])])) zj) (ze (sIf (km (eEq (za 1) (eC (.str "drop"))) (km (eEq (eIx (za 0) (eC (.int 0))) (eC (.str "both"))) (eEq (eIx (za 2) (eC (.int 0))) (eC (.str "none"))))) (zq (zm [(eC (.str "none"))])) zj) (ze (sIf (km (eEq (za 1) (eC (.str "drop"))) (eIn (zm [(eIx (za 0) (eC (.int 0))),(eIx (za 2) (eC (.int 0)))]) (zm [(zm [(eC (.str "both")),(eC (.str "one"))]),(zm [(eC (.str "either")),(eC (.str "none"))])]))) (zq (za 3)) zj) (zq (eC .none)))))))
theorem CS(n:Nat)(w:Vk)(k:Kd):jm (n+1) [enc k,.str w]=U7 (.ok (CH (yj w k))):=by
 show qj 4 gu [enc k,.str w]=_
 cases hi:inn k with
 | false=>
  obtain ⟨m,e1',e2'⟩:=Ge hi
  rw [Lr w k hi]
  have e2'':m < 3:=of_decide_eq_true e2'
  refine ky (b:=gu) ?_
  unfold gu
  refine (ay (l:=2) ?_).trans rfl
  simp [eLt,e2,jd,e1,za,eC,zk,e1',Q1,e2'']
 | true=>
  obtain ⟨a,b,e,hk⟩:∃ a b,enc k= .tuple [.str (hd k),enc a,enc b]/\(k= .either a b∨k= .both a b):=by
   cases k with
   | either a b=>exact ⟨a,b,rfl,.inl rfl⟩
   | both a b=>exact ⟨a,b,rfl,.inr rfl⟩
   | none=>cases hi
   | one=>cases hi
   | name _=>cases hi
  have bf:J9 [U7 (.par (enc k)),U7 (.par (.str w)),U7 (.loc (enc a)),U7 (.loc (enc b))]=U7 (.ret (CH (yj w k)))->qj 4 gu [enc k,.str w]=U7 (.ok (CH (yj w k))):=λh=>by
   have el:=JN hi
   refine ky (b:=gu) ?_
   have eb:gu=ze (sIf (eLt (jd (za 0)) (eC (.int 3))) (zq (eC .none)) zj) (ze (zl 2 (eIx (za 0) (eC (.int 1)))) (ze (zl 3 (eIx (za 0) (eC (.int 2)))) J9)):=rfl
   rw [eb]
   refine (jl (l:=2) ?_).trans (Eq.trans ?_ h)
   ·simp [eLt,e2,jd,e1,za,eC,zk,el,Q1]
   ·generalize J9=RH
    have e1':dIx (enc k) (.int 1)=U7 (enc a):=by rw [e];exact Fz _ _ _
    have e2':dIx (enc k) (.int 2)=U7 (enc b):=by rw [e];exact F9 _ _ _ _
    simp [ze,zl,eIx,e2,za,eC,zk,zi,e1',e2',dy,qb]
  refine bf ?_
  have v0:za 0 [U7 (.par (enc k)),U7 (.par (.str w)),U7 (.loc (enc a)),U7 (.loc (enc b))]=U7 (.ok 0 (enc k)):=rfl
  have v1:za 1 [U7 (.par (enc k)),U7 (.par (.str w)),U7 (.loc (enc a)),U7 (.loc (enc b))]=U7 (.ok 0 (.str w)):=rfl
  have v2:za 2 [U7 (.par (enc k)),U7 (.par (.str w)),U7 (.loc (enc a)),U7 (.loc (enc b))]=U7 (.ok 1 (enc a)):=rfl
  have v3:za 3 [U7 (.par (enc k)),U7 (.par (.str w)),U7 (.loc (enc a)),U7 (.loc (enc b))]=U7 (.ok 1 (enc b)):=rfl
  generalize [U7 (Slot.par (enc k)),U7 (.par (.str w)),U7 (.loc (enc a)),U7 (.loc (enc b))]=R at v0 v1 v2 v3
  have vC:∀ s:Vk,eC (.str s) R=U7 (.ok 2 (.str s)):=λs=>rfl
  have k0:=ixT v0 (i:=0) (Ic k)
  have a0:=ixT v2 (i:=0) (Ic a)
  have b0:=ixT v3 (i:=0) (Ic b)
  have hp:=Pg (hd k) (hd a) (Qz k) (Qz a)
  have iR:∀ r:Bool,((("both":Vk) == hd k && ("one":Vk) == hd a) || (("either":Vk) == hd k && ("none":Vk) == hd a))=r->eIn (zm [(eIx (za 0) (eC (.int 0))),(eIx (za 2) (eC (.int 0)))]) (zm [(zm [(eC (.str "both")),(eC (.str "one"))]),(zm [(eC (.str "either")),(eC (.str "none"))])]) R=U7 (.ok 2 (.bool r)):=λr h=>by
   rw [h] at hp
   simp only [eIn,e2,zm,zo,k0,a0,eC,zu,zk,hp,Option.map,if_true]
  unfold J9
  rcases MR w with rfl | rfl | rfl | rfl | ⟨h1,h2,h3,h4⟩
  ·rw [ay (eqT v1 (vC _) (by simp)),oy]
   refine (LJ (Hx k0 v3 v2) ?_).trans ?_
   ·simp [lf,lfs,qb]
   ·rcases hk with rfl | rfl<;>rfl
  ·rw [jl (eqT v1 (vC _) v04),tj]
   cases hg:dw k with
   | some k'=>
    unfold dw at hg
    have gw:=eqT v1 (vC _) (beq_self_eq_true ("group":Vk))
    split at hg
    ·rcases hk with hk | hk<;>cases hk
     cases hg
     rw [ay ((uh gw).trans (eqT a0 k0 (by simp [hd])))]
     exact LJ (Hx k0 (ixT v2 (Fz _ _ _)) (Hx k0 (ixT v2 (F9 _ _ _ _)) v3)) (qb _)
    ·rcases hk with hk | hk<;>cases hk
     cases hg
     rw [ay ((uh gw).trans (eqT a0 k0 (by simp [hd])))]
     exact LJ (Hx k0 (ixT v2 (Fz _ _ _)) (Hx k0 (ixT v2 (F9 _ _ _ _)) v3)) (qb _)
    ·cases hg
   | none=>
    have hh:(hd a == hd k)=false:=by
     rcases hk with rfl | rfl<;>cases a<;>simp only [hd,w13,w15,w17,w07,w14,w16,w18,w12]<;>simp [dw] at hg
    rw [jl ((uh (eqT v1 (vC _) (beq_self_eq_true ("group":Vk)))).trans (eqT a0 k0 hh)),jl (Ao (eqT v1 (vC _) v05)),jl (Ao (eqT v1 (vC _) v06)),jl (Ao (eqT v1 (vC _) v06))]
    rfl
  ·rw [jl (eqT v1 (vC _) v07),jl (Ao (eqT v1 (vC _) v08)),m9]
   have gw:=eqT v1 (vC _) (beq_self_eq_true ("spread":Vk))
   cases hg:uv k with
   | some k'=>
    unfold uv at hg
    split at hg
    ·rcases hk with hk | hk<;>cases hk
     cases hg
     rw [ay ((uh gw).trans ((uh (eqT k0 (vC _) (by simp [hd]))).trans (eqT b0 (vC _) (by simp [hd]))))]
     exact LJ (Hx (vC _) (Hx (vC _) v2 (ixT v3 (Fz _ _ _))) (Hx (vC _) v2 (ixT v3 (F9 _ _ _ _)))) (qb _)
    ·cases hg
   | none=>
    have hh:(hd k == "both" && hd b == "either")=false:=by
     rcases hk with rfl | rfl
     ·simp only [hd,w12,Bool.false_and]
     ·cases b<;>simp only [hd,w13,w15,w17,w07]<;>first | (simp [uv] at hg;done) | simp
    have hc:km (eEq (eIx (za 0) (eC (.int 0))) (eC (.str "both"))) (eEq (eIx (za 3) (eC (.int 0))) (eC (.str "either"))) R=U7 (.ok 2 (.bool false)):=by
     cases hb:hd k == "both" with
     | false=>exact Ao (eqT k0 (vC _) hb)
     | true=>rw [hb,XQ] at hh;exact (uh (eqT k0 (vC _) hb)).trans (eqT b0 (vC _) hh)
    rw [jl ((uh gw).trans hc),jl (Ao (eqT v1 (vC _) v09)),jl (Ao (eqT v1 (vC _) v09))]
    rfl
  ·rw [jl (eqT v1 (vC _) v10),jl (Ao (eqT v1 (vC _) v11)),jl (Ao (eqT v1 (vC _) v12)),b9]
   have gw:=eqT v1 (vC _) (beq_self_eq_true ("drop":Vk))
   rcases hk with rfl | rfl
   ·rw [jl ((uh gw).trans (Ao (eqT k0 (vC _) w12)))]
    cases a with
    | none=>rw [ay ((uh gw).trans (iR _ (by simp [hd,w07])))];exact LJ v3 (qb _)
    | one=>rw [jl ((uh gw).trans (iR _ (by simp [hd,w07,w11])))];rfl
    | name i=>rw [jl ((uh gw).trans (iR _ (by simp [hd,w07,wz1])))];rfl
    | either _ _=>rw [jl ((uh gw).trans (iR _ (by simp [hd,w07,w13])))];rfl
    | both _ _=>rw [jl ((uh gw).trans (iR _ (by simp [hd,w07,w14])))];rfl
   ·have kb:=eqT k0 (vC "both") (show (hd (.both a b) == "both")=true by simp [hd])
    cases a with
    | none=>rw [ay ((uh gw).trans ((uh kb).trans (eqT a0 (vC _) (by simp [hd]))))];rfl
    | one=>rw [jl ((uh gw).trans ((uh kb).trans (eqT a0 (vC _) w08))),ay ((uh gw).trans (iR _ (by simp [hd])))];exact LJ v3 (qb _)
    | name i=>rw [jl ((uh gw).trans ((uh kb).trans (eqT a0 (vC _) w09))),jl ((uh gw).trans (iR _ (by simp [hd,w12,wz2])))];rfl
    | either _ _=>rw [jl ((uh gw).trans ((uh kb).trans (eqT a0 (vC _) w01))),jl ((uh gw).trans (iR _ (by simp [hd,w12,w15])))];rfl
    | both _ _=>rw [jl ((uh gw).trans ((uh kb).trans (eqT a0 (vC _) w04))),jl ((uh gw).trans (iR _ (by simp [hd,w12,w16])))];rfl
  ·rw [jl (eqT v1 (vC _) h1),jl (Ao (eqT v1 (vC _) h2)),jl (Ao (eqT v1 (vC _) h3)),jl (Ao (eqT v1 (vC _) h4)),jl (Ao (eqT v1 (vC _) h4)),Fp w k ⟨h1,h2,h3,h4⟩]
   rfl
theorem GA(p:List Int)(h:p.length<=90000):dEq (encP p) (.tuple [])=U7 (.bool p.isEmpty):=by
 have h1:dh (encP p) (.tuple [])=true:=by
  simp [dh,xy,Vi,UP,V5,Vg];omega
 cases p<;>simp [dEq,yu,h1,Vf,VF,encP]<;>simp [encP] at h1<;>simp [h1]
theorem OX(s:Int)(p:List Int):dSl (U7 1) UA (encP (s::p))=U7 (encP p):=by
 have h:lfs ((s::p).map Wm)=true:=gk _
 show (if lfs ((s::p).map Wm)=true then _ else _)=_
 rw [if_pos h]
 simp [NB,sxP,encP]
 exact List.take_of_length_le (by simp)
theorem OV(s:Int)(p:List Int):dIx (encP (s::p)) (.int 0)=U7 (.int s):=at0 _ _
theorem EL:∀ (p:List Int) (n:Nat) (k x y:Kd),p.length < n->p.length<=900->qi k p=U7 y->j3 n [enc k,encP p,enc x]=U7 (.ok (enc (ki k p x)))
 | [],n+1,k,x,y,_,_,_=>by
  show qj 4 (b8 (j3 n)) [enc k,encP [],enc x]=_
  have h:=GA [] (by simp)
  simp [qj,b8,ze,sIf,eEq,e2,za,zm,zo,zu,zk,zi,h,zq,qb,ki]
 | s::p,n+1,k,x,y,hn,hl,hp=>by
  simp only [UM] at hn hl
  simp only [qi] at hp
  cases hs:jn k s with
  | none=>rw [hs] at hp;cases hp
  | some c=>
   rw [hs] at hp
   have ih:=EL p n c x y (by omega) (by omega) hp
   obtain ⟨h1,h2,h3,h4⟩:=E9 hs
   show qj 4 (b8 (j3 n)) [enc k,encP (s::p),enc x]=_
   have h:=GA (s::p) (by simp;omega)
   have hq:=OX s p
   have ha:=OV s p
   obtain ⟨a,b,e1',e2'⟩:∃ a b,enc k= .tuple [.str (hd k),enc a,enc b]/\enc (ki k (s::p) x)=if s=0 then .tuple [.str (hd k),enc (ki c p x),enc b] else .tuple [.str (hd k),enc a,enc (ki c p x)]:=by
    cases k with
    | either a b=>
     refine ⟨a,b,rfl,?_⟩
     simp only [jn] at hs
     simp only [ki]
     split at hs
     ·rename_i h0;cases hs;rw [if_pos h0,if_pos h0];rfl
     ·rename_i h0
      split at hs
      ·cases hs;rw [if_neg h0,if_neg h0];rfl
      ·cases hs
    | both a b=>
     refine ⟨a,b,rfl,?_⟩
     simp only [jn] at hs
     simp only [ki]
     split at hs
     ·rename_i h0;cases hs;rw [if_pos h0,if_pos h0];rfl
     ·rename_i h0
      split at hs
      ·cases hs;rw [if_neg h0,if_neg h0];rfl
      ·cases hs
    | none=>cases hs
    | one=>cases hs
    | name _=>cases hs
   rw [e2']
   rw [e1'] at h1 ⊢
   rcases h3 with rfl | rfl
   ·rw [if_pos rfl]
    have hac:enc a=enc c:=Vx ((Fz _ _ _).symm.trans h1)
    simp [hac,qj,b8,ze,sIf,eEq,e2,za,zm,zo,zu,zk,zi,h,zj,zl,zd,eIx,eC,ha,qh,t6,T6,Fz,F9,eSl,FM,Kk,hq,ih,jt,dy,qb,nr,zq,lf,lfs]
   ·rw [if_neg (by decide)]
    have hac:enc b=enc c:=Vx ((F9 _ _ _ _).symm.trans h1)
    simp [hac,qj,b8,ze,sIf,eEq,e2,za,zm,zo,zu,zk,zi,h,zj,zl,zd,eIx,eC,ha,qh,t6,T6,Fz,F9,eSl,FM,Kk,hq,ih,jt,dy,qb,nr,zq,lf,lfs]
noncomputable def AI:FS:=(zl 0 (eIx (za 0) (qh (eC (.int 1)) (za 2))))
theorem C6(x1:Option Slot):∀ (p:List Int) (k k':Kd) (x2:Option Slot) (y:U8->Slot) (_:∀ d,y d= .par d∨y d= .loc d),qi k p=U7 k'->
  ∃ y',(y'= .par (enc k')∨y'= .loc (enc k'))/\∃ x2',qg (zw 2) AI (p.map .int) [U7 (y (enc k)),x1,x2]=U7 (.next [U7 y',x1,x2'])
 | [],k,k',x2,y,hy,h=>by simp only [qi] at h;cases h;exact ⟨_,hy _,_,rfl⟩
 | s::p,k,k',x2,y,hy,h=>by
  simp only [qi] at h
  cases hs:jn k s with
  | none=>rw [hs] at h;cases h
  | some c=>
   rw [hs] at h
   obtain ⟨h1,_,_,_⟩:=E9 hs
   have e:AI [U7 (y (enc k)),x1,U7 (.loc (.int s))]=U7 (.next [U7 (.loc (enc c)),x1,U7 (.loc (.int s))]):=by
    rcases hy (enc k) with q | q<;>rw [q]<;>simp [AI,zl,eIx,e2,za,eC,qh,bz,zk,zi,h1,dy,qb]
   have go:qg (zw 2) AI ((s::p).map .int) [U7 (y (enc k)),x1,x2]=qg (zw 2) AI (p.map .int) _:=xg (tg:=zw 2) (d:=.int s) rfl e
   rw [go]
   exact C6 x1 p c k' _ Slot.loc (λ_=>.inr rfl) h
theorem Al(n:Nat)(k k':Kd)(p:List Int)(h:qi k p=U7 k'):j0 (n+1) [enc k,encP p]=U7 (.ok (enc k')):=by
 have e:rn=ze (yb 1 (zw 2) AI) (zq (za 0)):=rfl
 show qj 3 rn [enc k,encP p]=_
 rw [e]
 obtain ⟨y',hy',x2',q⟩:=C6 (U7 (.par (encP p))) p k k' UA Slot.par (λ_=>.inl rfl) h
 simp only [encP] at q
 rcases hy' with rfl | rfl<;>simp [qj,ze,yb,encP,gk,q,zq,za,zi,qb]
noncomputable def pre:Kd->List Int->List (List Int)
 | .either a b,p=>p::(pre a (p++[0])++pre b (p++[1]))
 | .both a b,p=>p::(pre a (p++[0])++pre b (p++[1]))
 | .none,p=>[p]
 | .one,p=>[p]
 | .name _,p=>[p]
noncomputable def bg:List (Kd×List Int)->Nat
 | []=>0
 | x::ws=>2 * x.1.leaves - 1+bg ws
theorem o3:∀ xs ys,bg (xs++ys)=bg xs+bg ys
 | [],_=>by simp [bg]
 | x::xs,ys=>by simp [bg,o3 xs ys,Nat.add_assoc]
theorem DY:∀ xs,xs.length<=bg xs
 | []=>by simp [bg]
 | x::xs=>by have:=x.1.pos;have:=DY xs;simp [bg];omega
noncomputable def Dh(ws:List (Kd×List Int)):List U8:=(ws.reverse.flatMap λx=>pre x.1 x.2).map encP
noncomputable def mj(ws:List (Kd×List Int)):List U8:=ws.map λx=>encP x.2
theorem My:∀ ws,UP (mj ws)=true
 | []=>rfl
 | x::ws=>by
  have:=My ws
  have h:mj (x::ws)=encP x.2::mj ws:=rfl
  rw [h]
  simp [UP,Vi,encP,Ag,this]
noncomputable def Ey:FE:=(eNe (za 2) (q9 []))
noncomputable def AK(n:Nat):FS:=(ze (L1 3 2) (ze (yz 1 (za 3)) (sIf (eEq (jd (zd (j0 n) [(za 0),(za 3)])) (eC (.int 3))) (cx 2 (q9 [(qh (za 3) (zm [(eC (.int 1))])),(qh (za 3) (zm [(eC (.int 0))]))])) zj)))
theorem F4(a b:Option Slot)(xs:List U8)(x:Option Slot)(h:UP xs=true):Ey [a,b,U7 (.own xs),x]=U7 (.ok 2 (.bool (!xs.isEmpty))):=by
 simp [Ey,eNe,e2,za,q9,zo,zu,zk,lfs,Mz xs h]
noncomputable def LD:Kd->Bool
 | .either _ _=>true
 | .both _ _=>true
 | _=>false
noncomputable def Rj:Kd->Int
 | .either _ _=>3
 | .both _ _=>3
 | .name _=>2
 | _=>1
theorem JL(k:Kd):fm (enc k)=U7 (.int (Rj k)):=by cases k<;>rfl
theorem O5{k:Kd}(h:LD k=true):Rj k=3:=by cases k<;>first | rfl | cases h
theorem Lw{k:Kd}(h:LD k=false):(Rj k == 3)=false:=by cases k<;>first | rfl | cases h
theorem Py(n:Nat)(K0 k:Kd)(fs:List U8)(ws:List U8)(p:List Int)(x3:Option Slot)(hk:qi K0 p=U7 k)(hi:LD k=false)(hf:fs.length<=1000):
  AK (n+1) [U7 (.par (enc K0)),U7 (.own fs),U7 (.own (ws++[encP p])),x3]=U7 (.next [U7 (.par (enc K0)),U7 (.own (fs++[encP p])),U7 (.own ws),U7 (.loc (encP p))]):=by
 have hb:fs.length < big:=by unfold big;omega
 have hl:lf (encP p)=true:=by simp [encP,lf,gk]
 have he:=Al n K0 k p hk
 have hn:=JL k
 have h3:=Lw hi
 simp [AK,ze,L1,yz,za,zi,hl,hb,sIf,eEq,e2,jd,e1,zd,zo,zu,zk,he,jt,hn,eC,dEq,yu,h3,zj]
theorem TK(n:Nat)(K0 k:Kd)(fs:List U8)(ws:List U8)(p:List Int)(x3:Option Slot)(hk:qi K0 p=U7 k)(hi:LD k=true)(hf:fs.length<=1000)(hw:ws.length<=1000)(hp:p.length<=100):
  AK (n+1) [U7 (.par (enc K0)),U7 (.own fs),U7 (.own (ws++[encP p])),x3]=U7 (.next [U7 (.par (enc K0)),U7 (.own (fs++[encP p])),U7 (.own (ws++[encP (p++[1]),encP (p++[0])])),U7 (.loc (encP p))]):=by
 have hb:fs.length < big:=by unfold big;omega
 have hb2:ws.length+2<=big:=by unfold big;omega
 have hl:∀ q,lf (encP q)=true:=λq=>by simp [encP,lf,gk]
 have he:=Al n K0 k p hk
 have hn:=JL k
 rw [O5 hi] at hn
 simp [AK,ze,L1,yz,za,zi,hl,hb,sIf,eEq,e2,jd,e1,zd,zo,zu,zk,he,jt,hn,eC,dEq,yu,cx,q9,qh,zm,w9 p _ (by omega),lfs,hb2]
theorem ED(n:Nat)(K0:Kd):∀ (fuel:Nat) (ws:List (Kd×List Int)) (fs:List U8) (x3:Option Slot),(∀ x∈ws,qi K0 x.2=U7 x.1/\x.2.length+x.1.leaves<=100)->bg ws < fuel->fs.length+bg ws<=1000->
  ∃ x3',yx Ey (AK (n+1)) fuel [U7 (.par (enc K0)),U7 (.own fs),U7 (.own (mj ws)),x3]=U7 (.next [U7 (.par (enc K0)),U7 (.own (fs++Dh ws)),U7 (.own []),x3'])
 | 0,_,_,_,_,h,_=>by omega
 | fuel+1,ws,fs,x3,hall,hfu,hsz=>by
  rcases List.eq_nil_or_concat ws with rfl | ⟨ws,⟨k,p⟩,rfl⟩
  ·exact ⟨x3,by simp [yx,F4 _ _ _ _ (My []),zi,mj,Dh];rw [F4 _ _ _ _ rfl];simp⟩
  ·rw [List.concat_eq_append] at *
   obtain ⟨hk,hlen⟩:=hall (k,p) (by simp)
   simp only at hk hlen
   have hrest:∀ x∈ws,qi K0 x.2=U7 x.1/\x.2.length+x.1.leaves<=100:=λx hx=>hall x (by simp [hx])
   rw [o3] at hfu hsz
   simp only [bg] at hfu hsz
   have hpos:=k.pos
   have hwl:=DY ws
   have hwl':(mj ws).length<=1000:=by simp [mj];omega
   have hne:(mj (ws++[(k,p)])).isEmpty=false:=by simp [mj]
   have ew:mj (ws++[(k,p)])=mj ws++[encP p]:=by simp [mj]
   unfold yx
   rw [F4 _ _ _ _ (My _),hne,ew]
   by_cases hi:LD k=true
   ·have t:=TK n K0 k fs (mj ws) p x3 hk hi (by omega) hwl' (by omega)
    obtain ⟨a,b,hab,hpre⟩:∃ a b,k.leaves=a.leaves+b.leaves/\(∀ q,pre k q=q::(pre a (q++[0])++pre b (q++[1])))/\(qi k [0]=U7 a/\qi k [1]=U7 b):=by
     cases k with
     | either a b=>exact ⟨a,b,rfl,λq=>rfl,by simp [qi,jn],by simp [qi,jn]⟩
     | both a b=>exact ⟨a,b,rfl,λq=>rfl,by simp [qi,jn],by simp [qi,jn]⟩
     | none=>cases hi
     | one=>cases hi
     | name _=>cases hi
    obtain ⟨hpre,ha,hb⟩:=hpre
    have pa:=a.pos
    have pb:=b.pos
    obtain ⟨x3',e⟩:=ED n K0 fuel (ws++[(b,p++[1]),(a,p++[0])]) (fs++[encP p]) (U7 (.loc (encP p))) (λx hx=>by
     rcases VT.mp hx with hx | hx
     ·exact hrest x hx
     ·simp only [Vl,List.not_mem_nil,or_false] at hx
      rcases hx with rfl | rfl
      ·exact ⟨by show qi K0 (p++[1])=U7 b;rw [AA,hk];exact hb,by show (p++[1]).length+b.leaves<=100;simp;omega⟩
      ·exact ⟨by show qi K0 (p++[0])=U7 a;rw [AA,hk];exact ha,by show (p++[0]).length+a.leaves<=100;simp;omega⟩) (by rw [o3];simp only [bg];omega) (by rw [o3];simp only [bg,UC,UX];omega)
    refine ⟨x3',?_⟩
    have e1':mj (ws++[(b,p++[1]),(a,p++[0])])=mj ws++[encP (p++[1]),encP (p++[0])]:=by simp [mj]
    have e2':fs++[encP p]++Dh (ws++[(b,p++[1]),(a,p++[0])])=fs++Dh (ws++[(k,p)]):=by simp [Dh,hpre]
    rw [e1',e2'] at e
    simp only [zi,Bool.not_false,t]
    exact e
   ·have hi':LD k=false:=by simpa using hi
    have t:=Py n K0 k fs (mj ws) p x3 hk hi' (by omega)
    have hpre:pre k p=[p]:=by cases k<;>first | rfl | cases hi'
    obtain ⟨x3',e⟩:=ED n K0 fuel ws (fs++[encP p]) (U7 (.loc (encP p))) hrest (by omega) (by simp only [UC,UX];omega)
    refine ⟨x3',?_⟩
    have e2':fs++[encP p]++Dh ws=fs++Dh (ws++[(k,p)]):=by simp [Dh,hpre]
    rw [e2'] at e
    simp only [zi,Bool.not_false,t]
    exact e
theorem Cf(n:Nat)(k:Kd)(h:k.leaves<=50):qt (n+2) [enc k]=U7 (.ok (.list ((pre k []).map encP))):=by
 have e:m6 (j0 (n+1))=ze (zl 1 (q9 [])) (ze (zl 2 (q9 [(zm [])])) (ze (dz Ey (AK (n+1))) (zq (za 1)))):=rfl
 show qj 4 (m6 (j0 (n+1))) [enc k]=_
 rw [e]
 obtain ⟨x3',q⟩:=ED n k wFuel [(k,[])] [] UA (λx hx=>by simp at hx;subst hx;exact ⟨by simp [qi],by simp;omega⟩) (by simp only [bg];unfold wFuel;omega) (by simp only [bg,Vm];omega)
 have e1':mj [(k,[])]=[.tuple []]:=rfl
 have e2':[]++Dh [(k,[])]=(pre k []).map encP:=by simp [Dh]
 rw [e1',e2'] at q
 simp [qj,ze,zl,q9,zm,zo,zu,zi,lfs,lf,asg,dz,q,zq,za]
theorem PZ:∀ (k:Kd) (p q:List Int),q∈pre k p↔∃ r,q=p++r/\(qi k r).isSome=true:=by
 have leaf:∀ (p q:List Int) (k:Kd),pre k p=[p]->(∀ s r,qi k (s::r)=UA)->(q∈pre k p↔∃ r,q=p++r/\(qi k r).isSome=true):=λp q k h1 h2=>by
  rw [h1]
  constructor
  ·intro h
   rw [V7] at h
   exact ⟨[],by simp [h],by simp [qi]⟩
  ·rintro ⟨r,rfl,h⟩
   cases r with
   | nil=>simp
   | cons s r=>rw [h2 s r] at h;cases h
 have inner:∀ (p q:List Int) (k a b:Kd),pre k p=p::(pre a (p++[0])++pre b (p++[1]))->(∀ s r,qi k (s::r)=if s=0 then qi a r else if s=1 then qi b r else UA)->
   (q∈pre a (p++[0])↔∃ r,q=p++[0]++r/\(qi a r).isSome=true)->(q∈pre b (p++[1])↔∃ r,q=p++[1]++r/\(qi b r).isSome=true)->
   (q∈pre k p↔∃ r,q=p++r/\(qi k r).isSome=true):=λp q k a b h1 h2 ha hb=>by
  rw [h1,Vl,VT,ha,hb]
  constructor
  ·rintro (rfl | ⟨r,rfl,h⟩ | ⟨r,rfl,h⟩)
   ·exact ⟨[],by simp,by simp [qi]⟩
   ·exact ⟨0::r,by simp,by rw [h2,if_pos rfl];exact h⟩
   ·exact ⟨1::r,by simp,by rw [h2,if_neg (by decide),if_pos rfl];exact h⟩
  ·rintro ⟨r,rfl,h⟩
   cases r with
   | nil=>exact .inl (by simp)
   | cons s r=>
    rw [h2] at h
    by_cases h0:s=0
    ·rw [if_pos h0] at h;subst h0;exact .inr (.inl ⟨r,by simp,h⟩)
    ·rw [if_neg h0] at h
     by_cases h1':s=1
     ·rw [if_pos h1'] at h;subst h1';exact .inr (.inr ⟨r,by simp,h⟩)
     ·rw [if_neg h1'] at h;cases h
 intro k
 induction k with
 | none=>intro p q;exact leaf p q _ rfl λ_ _=>rfl
 | one=>intro p q;exact leaf p q _ rfl λ_ _=>rfl
 | name i=>intro p q;exact leaf p q _ rfl λ_ _=>rfl
 | either a b ha hb=>intro p q;exact inner p q _ a b rfl (λs r=>by simp only [qi,jn];split;rfl;split<;>rfl) (ha _ q) (hb _ q)
 | both a b ha hb=>intro p q;exact inner p q _ a b rfl (λs r=>by simp only [qi,jn];split;rfl;split<;>rfl) (ha _ q) (hb _ q)
theorem CY:∀ a b:List Int,VF (a.map .int) (b.map .int)=(a == b)
 | [],[]=>rfl
 | [],_::_=>rfl
 | _::_,[]=>rfl
 | x::a,y::b=>by
  have:(x::a == y::b)=((x == y) && (a == b)):=rfl
  simp only [UR,VF,Vf,CY a b,this]
theorem Mu(a b:List Int):Vf (encP a) (encP b)=(a == b):=by simp [encP,Vf,CY]
theorem Gq(q:List Int):∀ xs:List (List Int),(xs.map encP).any (λy=>Vf y (encP q))=decide (q∈xs)
 | []=>rfl
 | x::xs=>by
  simp only [UR,List.any_cons,Mu,Gq q xs]
  by_cases h:x=q
  ·simp [h]
  ·have h':¬ q=x:=λe=>h e.symm
   simp [h,h',Vl]
theorem BV:∀ p:List Int,Vg (p.map .int)=0
 | []=>rfl
 | _::p=>by simp [Vg,V5,BV p]
theorem Jt(q:List Int)(xs:List (List Int)):se (encP q) (.list (xs.map encP))=U7 (.bool (!decide (q∈xs))):=by
 have h1:EM (encP q) (xs.map encP)=true:=by
  have:(encP q).depth=1:=by simp [encP,V5,BV]
  have h2:(encP q).canLay0=true:=by simp [encP,Vi,Ag]
  simp [EM,h2,Eo,this]
  omega
 simp only [se,Fu,h1,if_true,Gq,Option.map]
theorem Ki(k:Kd)(q:List Int):q∈pre k []↔(qi k q).isSome=true:=by
 rw [PZ]
 constructor
 ·rintro ⟨r,rfl,h⟩;simpa using h
 ·intro h;exact ⟨q,by simp,h⟩
theorem P8(k:Kd):Lc (enc k) .none=U7 (.bool false):=by cases k<;>rfl
theorem NM:Lc .none .none=U7 (.bool true):=rfl
theorem Md(k:Kd):GT (enc k) .none=U7 (.bool true):=by cases k<;>rfl
theorem Lg:GT .none .none=U7 (.bool false):=rfl
theorem Pr:lf .none=true:=rfl
theorem ML(l:Nat):asg l .none=U7 (.loc .none):=rfl
theorem Jn(n:Nat)(k:Kd)(w:Vk)(p:List Int)(hk:k.leaves<=45)(hn:k.leaves+2<=n):wd (n+1) [enc k,.str w,encP p]=U7 (.ok (CH (wu k w p))):=by
 obtain ⟨n,rfl⟩:∃ m,n=m+2:=⟨n - 2,by omega⟩
 show qj 4 (fz (j3 (n+2)) (jm (n+2)) (j0 (n+2)) (qt (n+2))) [enc k,.str w,encP p]=_
 have hp:=Cf n k (by omega)
 have hi:=Jt p (pre k [])
 have hm:=Ki k p
 unfold wu
 cases e:qi k p with
 | none=>
  have:decide (p∈pre k [])=false:=by rw [e] at hm;simpa using hm
  rw [this] at hi
  simp [qj,fz,ze,sIf,mw,e2,za,zd,zo,zu,zk,zi,hp,jt,hi,zq,eC,lf,CH]
 | some x=>
  have:decide (p∈pre k [])=true:=by rw [e] at hm;simpa using hm
  rw [this] at hi
  have h1:=Al (n+1) k x p e
  have h2:=CS (n+1) w x
  have hl:=Eb p k x e
  simp only [X4]
  cases hx:yj w x with
  | none=>
   rw [hx] at h2
   simp only [CH] at h2
   simp [qj,fz,ze,sIf,mw,e2,za,zd,zo,zu,zk,zi,hp,jt,hi,zj,zl,h1,h2,ML,Pr,Gd,eC,NM,zq,CH]
  | some y=>
   rw [hx] at h2
   simp only [CH] at h2
   have h3:=EL p (n+2) k y x (by omega) (by omega) e
   simp [qj,fz,ze,sIf,mw,e2,za,zd,zo,zu,zk,zi,hp,jt,hi,zj,zl,h1,h2,h3,dy,qb,Gd,eC,P8,zq,CH]
noncomputable def wa(ts:List (Vk×List Int)):List U8:=ts.map λt=>jv t.1 t.2
theorem JO(w:Vk)(p:List Int):lf (jv w p)=true:=by simp [jv,lf,lfs,qz]
theorem DJ:∀ ts,lfs (wa ts)=true
 | []=>rfl
 | t::ts=>by
  show (lf (jv t.1 t.2) && lfs (wa ts))=true
  simp [JO,DJ ts]
noncomputable def CU(n:Nat):FS:=(sIf (Gp (zd (jm n) [(zd (j0 n) [(za 0),(za 2)]),(za 3)]) (eC .none)) (yz 1 (zm [(za 3),(za 2)])) zj)
noncomputable def Nw:FE:=(q9 [(eC (.str "swap")),(eC (.str "group")),(eC (.str "spread")),(eC (.str "drop"))])
noncomputable def dq(k:Kd)(t:Vk×List Int):Prop:=(wu k t.1 t.2).isSome=true
theorem Fg(n:Nat)(k x:Kd)(p:List Int)(w:Vk)(ts:List (Vk×List Int))(hx:qi k p=U7 x)(hl:ts.length<=5000)(hT:∀ t∈ts,dq k t):
  ∃ ts',ts.length<=ts'.length/\ts'.length<=ts.length+1/\(∀ t∈ts',dq k t)/\CU (n+1) [U7 (.par (enc k)),U7 (.own (wa ts)),U7 (.loc (encP p)),U7 (.loc (.str w))]=U7 (.next [U7 (.par (enc k)),U7 (.own (wa ts')),U7 (.loc (encP p)),U7 (.loc (.str w))]):=by
 have h1:=Al n k x p hx
 have h2:=CS n w x
 have hb:(wa ts).length < big:=by simp [wa];unfold big;omega
 cases hy:yj w x with
 | none=>
  rw [hy] at h2
  simp only [CH] at h2
  exact ⟨ts,by omega,by omega,hT,by simp [CU,sIf,Gp,e2,zd,zo,za,zu,zk,zi,h1,h2,jt,eC,Lg,zj]⟩
 | some y=>
  rw [hy] at h2
  simp only [CH] at h2
  refine ⟨ts++[(w,p)],by simp,by simp,λt ht=>?_,?_⟩
  ·rcases VT.mp ht with ht | ht
   ·exact hT t ht
   ·simp only [V7] at ht
    subst ht
    simp [dq,wu,hx,hy]
  ·have hlf:=JO w p
   simp only [jv] at hlf
   have e:wa (ts++[(w,p)])=wa ts++[.tuple [.str w,encP p]]:=by simp [wa,jv]
   rw [e]
   simp [CU,sIf,Gp,e2,zd,zo,za,zu,zk,zi,h1,h2,jt,eC,Md,yz,zm,hlf,hb]
theorem Rn(n:Nat)(k x:Kd)(p:List Int)(ts:List (Vk×List Int))(x3:Option Slot)(hx:qi k p=U7 x)(hl:ts.length<=4000)(hT:∀ t∈ts,dq k t):
  ∃ ts' x3',ts.length<=ts'.length/\ts'.length<=ts.length+4/\(∀ t∈ts',dq k t)/\ye (xu Nw) (zw 3) (CU (n+1)) [U7 (.par (enc k)),U7 (.own (wa ts)),U7 (.loc (encP p)),x3]=U7 (.next [U7 (.par (enc k)),U7 (.own (wa ts')),U7 (.loc (encP p)),x3']):=by
 obtain ⟨t1,a1,b1,c1,d1⟩:=Fg n k x p "swap" ts hx (by omega) hT
 obtain ⟨t2,a2,b2,c2,d2⟩:=Fg n k x p "group" t1 hx (by omega) c1
 obtain ⟨t3,a3,b3,c3,d3⟩:=Fg n k x p "spread" t2 hx (by omega) c2
 obtain ⟨t4,a4,b4,c4,d4⟩:=Fg n k x p "drop" t3 hx (by omega) c3
 refine ⟨t4,U7 (.loc (.str "drop")),by omega,by omega,c4,?_⟩
 simp [ye,xu,Nw,q9,zo,eC,zu,lfs,lf,qg,zw,d1,d2,d3,d4]
theorem HY(n:Nat)(k:Kd):∀ (ps:List (List Int)) (ts:List (Vk×List Int)) (x2 x3:Option Slot),(∀ p∈ps,(qi k p).isSome=true)->ts.length+4 * ps.length<=4000->(∀ t∈ts,dq k t)->
  ∃ ts' x2' x3',(∀ t∈ts',dq k t)/\ts'.length<=ts.length+4 * ps.length/\qg (zw 2) (ye (xu Nw) (zw 3) (CU (n+1))) (ps.map encP) [U7 (.par (enc k)),U7 (.own (wa ts)),x2,x3]=U7 (.next [U7 (.par (enc k)),U7 (.own (wa ts')),x2',x3'])
 | [],ts,x2,x3,_,_,hT=>⟨ts,x2,x3,hT,by simp,rfl⟩
 | p::ps,ts,x2,x3,hp,hl,hT=>by
  simp only [UM] at hl
  obtain ⟨x,hx⟩:=Xt.mp (hp p (by simp))
  obtain ⟨t1,y3,a1,b1,c1,d1⟩:=Rn n k x p ts x3 hx (by omega) hT
  obtain ⟨t2,z2,z3,e1',e2',e3'⟩:=HY n k ps t1 (U7 (.loc (encP p))) y3 (λq hq=>hp q (by simp [hq])) (by omega) c1
  refine ⟨t2,z2,z3,e1',by simp only [UM];omega,?_⟩
  rw [<- e3']
  exact xg (tg:=zw 2) (d:=encP p) rfl d1
theorem Ai:∀ (k:Kd) (p:List Int),(pre k p).length+1=2 * k.leaves
 | .none,p=>rfl
 | .one,p=>rfl
 | .name _,p=>rfl
 | .either a b,p=>by have:=Ai a (p++[0]);have:=Ai b (p++[1]);simp only [pre,UM,UC,Kd.leaves];omega
 | .both a b,p=>by have:=Ai a (p++[0]);have:=Ai b (p++[1]);simp only [pre,UM,UC,Kd.leaves];omega
theorem RN(n:Nat)(k:Kd)(hk:k.leaves<=45):∃ ts,qp (n+3) [enc k]=U7 (.ok (.list (wa ts)))/\(∀ t∈ts,dq k t)/\ts.length<=400:=by
 have e:gr (jm (n+2)) (j0 (n+2)) (qt (n+2))=ze (zl 1 (q9 [])) (ze (ye (xu (zd (qt (n+2)) [(za 0)])) (zw 2) (ye (xu Nw) (zw 3) (CU (n+2)))) (zq (za 1))):=rfl
 have hp:=Cf n k (by omega)
 have hlen:=Ai k []
 obtain ⟨ts,x2,x3,h1,h2,h3⟩:=HY (n+1) k (pre k []) [] UA UA (λp hp=>(Ki k p).mp hp) (by simp;omega) (by simp)
 refine ⟨ts,?_,h1,by simp at h2;omega⟩
 show qj 4 (gr (jm (n+2)) (j0 (n+2)) (qt (n+2))) [enc k]=_
 rw [e]
 have h3':qg (zw 2) (ye (xu Nw) (zw 3) (CU (n+2))) ((pre k []).map encP) [U7 (.par (enc k)),U7 (.own []),UA,UA]=_:=h3
 simp [qj,ze,zl,q9,zo,zu,zi,asg,lf,lfs,ye,xu,zd,za,hp,jt,El,h3',zq]
noncomputable def Ob(c fac:Int):Int:=((c * fac+7919) % 2147483647) * ((c * fac+7919) % 2147483647) % 2147483647 * 40692 % 2147483399
noncomputable def DA(c f fac:Int):Int:=f * 1000000000+Ob c fac / 7
noncomputable def Cq:FS:=(ze (zl 3 (yg (qh (vj (za 0) (za 2)) (eC (.int 7919))) (eC (.int 2147483647)))) (ze (zl 3 (yg (vj (yg (vj (za 3) (za 3)) (eC (.int 2147483647))) (eC (.int 40692))) (eC (.int 2147483399)))) (zl 1 (qh (vj (za 1) (Pc (eC (.int 10)) (eC (.int 9)))) (sv (za 3) (eC (.int 7)))))))
theorem LI(c f fac:Int)(x:Option Slot)(h:fac.natAbs < 2 ^ 64):Cq [U7 (.par (.int c)),U7 (.loc (.int f)),U7 (.loc (.int fac)),x]=
  U7 (.next [U7 (.par (.int c)),U7 (.loc (.int (DA c f fac))),U7 (.loc (.int fac)),U7 (.loc (.int (Ob c fac)))]):=by
 have b1:=XM (c * fac+7919) (b:=2147483647) (by decide)
 have b2:=XE (c * fac+7919) (b:=2147483647) (by decide)
 have h1:CMulD c fac:=Dz h
 have h2:CMulD ((c * fac+7919) % 2147483647) ((c * fac+7919) % 2147483647):=Dz (by omega)
 have h3:∀ i:Int,CMulD i 40692:=λi=>Dz (by decide)
 have h4:∀ i:Int,CMulD i 1000000000:=λi=>Dz (by decide)
 simp [Cq,ze,zl,yg,qh,vj,za,eC,Pc,sv,e2,zk,zi,bz,AL,p9,IA,So,h1,h2,h3,h4,asg,lf,lim,DA,Ob]
noncomputable def Nf(c:Int):Int:=DA c (DA c (DA c (DA c 0 48271) 69621) 39373) 44488
theorem JK(n:Nat)(c:Int):uj (n+1) [.int c]=U7 (.ok (.int (Nf c))):=by
 have e:Dc=ze (zl 1 (eC (.int 0))) (ze (ye (xu (q9 [(eC (.int 48271)),(eC (.int 69621)),(eC (.int 39373)),(eC (.int 44488))])) (zw 2) Cq) (zq (za 1))):=rfl
 unfold uj
 rw [e]
 simp [qj,ze,zl,eC,zi,asg,lf,lfs,ye,xu,q9,zo,zu,qg,zw,LI,zq,za,Nf]
noncomputable def kq(ns:List Int)(k:Nat):Int:=Nf (ns.getD k 0)
theorem Oz{α:Type}{xs:List α}{k:Nat}{v:α}(h:xs[k]? =U7 v):atP xs (k:Int)=U7 v:=by
 have hk:k < xs.length:=(UV.mp h).1
 unfold atP ixP
 rw [if_pos (by omega),if_pos (by omega)]
 simpa using h
theorem i6(n:Nat)(ns:List Int)(k:Nat):z7 (n+2) [.list (ns.map .int),.int (k:Int)]=U7 (.ok (.int (kq ns k))):=by
 unfold z7
 by_cases h:k < ns.length
 ·have hx:atP (ns.map Wm) (k:Int)=U7 (.int ns[k]):=Oz (by simp [h])
  have hc:(k:Int) < (ns.length:Int):=by omega
  simp [qj,rq,ze,sIf,eLt,e2,za,jd,e1,fm,dLt,zk,zi,hc,zq,zd,zo,zu,eIx,dIx,hx,JK,jt,lf,kq,h]
 ·have hc:¬ (k:Int) < (ns.length:Int):=by omega
  have hg:ns[k]? =UA:=YH (Nat.le_of_not_lt h)
  simp [qj,rq,ze,sIf,eLt,e2,za,jd,e1,fm,dLt,zk,zi,hc,zj,zq,zd,eC,zo,zu,JK,jt,lf,kq,hg]
noncomputable def CW(c k b:Int):Int:=
 let s1:=(c % 2147483629+1+k * 1000003) % 2147483647
 let s2:=s1 * s1 % 2147483647 * 48271 % 2147483629
 let s3:=s2 * s2 % 2147483629 * 40692 % 2147483399
 s3 / 97 % b
theorem mm{c k b:Int}(h:0 < b):0<=CW c k b:=XM _ (by omega)
theorem mx{c k b:Int}(h:0 < b):CW c k b < b:=XE _ h
theorem oz(n:Nat)(c k b:Int)(h:0 < b):xf (n+1) [.int c,.int k,.int b]=U7 (.ok (.int (CW c k b))):=by
 have a1:=XM (c % 2147483629+1+k * 1000003) (b:=2147483647) (by decide)
 have a2:=XE (c % 2147483629+1+k * 1000003) (b:=2147483647) (by decide)
 generalize hs1:(c % 2147483629+1+k * 1000003) % 2147483647=s1 at a1 a2
 have b1:=XM (s1 * s1 % 2147483647 * 48271) (b:=2147483629) (by decide)
 have b2:=XE (s1 * s1 % 2147483647 * 48271) (b:=2147483629) (by decide)
 generalize hs2:s1 * s1 % 2147483647 * 48271 % 2147483629=s2 at b1 b2
 have m1:CMulD k 1000003:=Dz (by decide)
 have m2:CMulD s1 s1:=Dz (by omega)
 have m3:∀ i:Int,CMulD i 48271:=λi=>Dz (by decide)
 have m4:CMulD s2 s2:=Dz (by omega)
 have m5:∀ i:Int,CMulD i 40692:=λi=>Dz (by decide)
 unfold xf
 simp [qj,CO,ze,zl,yg,qh,vj,za,eC,sv,e2,zk,zi,bz,AL,p9,IA,m1,hs1,m2,m3,hs2,m4,m5,asg,lf,lim,zq,h,CW]
theorem Ek(n:Nat)(c leaves k:Int)(h:leaves < 2):∃ kd:Kd,jj (n+2) [.int c,.int leaves,.int k]=U7 (.ok (enc kd))/\kd.Ok/\kd.leaves=1:=by
 have d0:=mm (c:=c) (k:=5 * k) (b:=12) (by decide)
 have d1:=mx (c:=c) (k:=5 * k) (b:=12) (by decide)
 have e:=oz n c (5 * k) 12 (by decide)
 have m5:CMulD 5 k:=OY (by decide)
 generalize CW c (5 * k) 12=w at d0 d1 e
 by_cases w0:w=0
 ·exact ⟨.none,by unfold jj;simp [qj,uo,ze,sIf,eLt,e2,za,eC,zk,zi,dLt,h,zl,zd,zo,zu,vj,p9,m5,e,jt,asg,lf,lfs,eEq,dEq,yu,w0,zq,zm,enc],trivial,rfl⟩
 ·have w0':(w == 0)=false:=by simp [w0]
  by_cases w3:w < 3
  ·exact ⟨.one,by unfold jj;simp [qj,uo,ze,sIf,eLt,e2,za,eC,zk,zi,dLt,h,zl,zd,zo,zu,vj,p9,m5,e,jt,asg,lf,lfs,eEq,dEq,yu,w0',w3,zj,zq,zm,enc],trivial,rfl⟩
  ·refine ⟨.name (w % 4),by unfold jj;simp [qj,uo,ze,sIf,eLt,e2,za,eC,zk,zi,dLt,h,zl,zd,zo,zu,vj,p9,m5,e,jt,asg,lf,lfs,eEq,dEq,yu,w0',w3,zj,zq,zm,yg,AL,enc],?_,rfl⟩
   show 0<=w % 4/\w % 4<=3
   omega
theorem BA:∀ (L n:Nat) (c leaves k:Int),leaves<=L->L+1<=n->∃ kd:Kd,jj (n+1) [.int c,.int leaves,.int k]=U7 (.ok (enc kd))/\kd.Ok/\(kd.leaves:Int)<=max leaves 1
 | 0,n+1,c,leaves,k,h,_=>by
  obtain ⟨kd,e,o,l⟩:=Ek n c leaves k (by omega)
  exact ⟨kd,e,o,by omega⟩
 | L+1,n+1,c,leaves,k,h,hn=>by
  by_cases h2:leaves < 2
  ·obtain ⟨kd,e,o,l⟩:=Ek n c leaves k h2
   exact ⟨kd,e,o,by omega⟩
  ·have m5:CMulD 5 k:=OY (by decide)
   have m2:CMulD 2 k:=OY (by decide)
   have e1:=oz n c (5 * k+1) (leaves - 1) (by omega)
   have d0:=mm (c:=c) (k:=5 * k+1) (b:=leaves - 1) (by omega)
   have d1:=mx (c:=c) (k:=5 * k+1) (b:=leaves - 1) (by omega)
   have e2':=oz n c (5 * k+2) 2 (by decide)
   have d2:=mm (c:=c) (k:=5 * k+2) (b:=2) (by decide)
   have d3:=mx (c:=c) (k:=5 * k+2) (b:=2) (by decide)
   generalize CW c (5 * k+1) (leaves - 1)=u at d0 d1 e1
   generalize CW c (5 * k+2) 2=w at d2 d3 e2'
   obtain ⟨ka,ea,oa,la⟩:=BA L n c (1+u) (2 * k) (by omega) (by omega)
   obtain ⟨kb,eb,ob,lb⟩:=BA L n c (leaves - (1+u)) (2 * k+1) (by omega) (by omega)
   have hw:w=0∨w=1:=by omega
   rcases hw with rfl | rfl
   ·refine ⟨.either ka kb,?_,⟨oa,ob⟩,by simp only [Kd.leaves];push_cast;omega⟩
    unfold jj
    simp [qj,uo,ze,sIf,eLt,e2,za,eC,zk,zi,dLt,h2,zl,zd,zo,zu,vj,p9,m5,m2,e1,e2',ea,eb,jt,asg,lf,lfs,zj,qh,bz,iz,IP,eIx,q9,dIx,atP,ixP,zq,zm,enc,qb]
   ·refine ⟨.both ka kb,?_,⟨oa,ob⟩,by simp only [Kd.leaves];push_cast;omega⟩
    unfold jj
    simp [qj,uo,ze,sIf,eLt,e2,za,eC,zk,zi,dLt,h2,zl,zd,zo,zu,vj,p9,m5,m2,e1,e2',ea,eb,jt,asg,lf,lfs,zj,qh,bz,iz,IP,eIx,q9,dIx,atP,ixP,zq,zm,enc,qb]
noncomputable def otB(gp gt gc ga:FC):FS:=(ze (zl 4 (zd ga [(za 2)])) (sIf (km (eNe (za 4) (q9 [])) (eLt (jd (zd gp [(za 2)])) (eC (.int 14)))) (ze (bo (wc 5 6) (eIx (za 4) (yg (zd gc [(za 0),(qh (qh (za 1) (eC (.int 1))) (za 3))]) (jd (za 4))))) (zl 2 (zd gt [(za 2),(za 5),(za 6)]))) zj))
theorem Np(w:Vk)(p:List Int)(h:WT w=true):(jv w p).canLay0=true:=by simp [jv,Vi,UP,h,xy]
theorem K6(gp gt gc ga:FC)(k:Kd)(R:List U8)(x0 x1 x3 x4 x5 x6:Option Slot)(s2:Slot)(h2:s2= .par (enc k)∨s2= .loc (enc k))(ha:ga [enc k]=U7 (.ok (.list R)))(hl:lfs R=true)(hc:(km (eNe (za 4) (q9 [])) (eLt (jd (zd gp [(za 2)])) (eC (.int 14)))) [x0,x1,U7 s2,x3,U7 (.own R),x5,x6]=U7 (.ok 2 (.bool false))):
  otB gp gt gc ga [x0,x1,U7 s2,x3,x4,x5,x6]=U7 (.next [x0,x1,U7 s2,x3,U7 (.own R),x5,x6]):=by
 have v:∀ r r',∃ l,za 2 (r::r'::U7 s2::[x3,x4,x5,x6])=U7 (.ok l (enc k)):=λr r'=>by rcases h2 with rfl | rfl<;>exact ⟨_,rfl⟩
 obtain ⟨l,e⟩:=v x0 x1
 have s1:zl 4 (zd ga [(za 2)]) [x0,x1,U7 s2,x3,x4,x5,x6]=U7 (.next [x0,x1,U7 s2,x3,U7 (.own R),x5,x6]):=by
  simp [zl,zd,zo,e,zu,zi,ha,jt,ur hl]
 unfold otB
 rw [zv s1]
 simp only [sIf,hc,zi,zj]
theorem Pn(gp gt gc ga:FC)(k k':Kd)(R:List U8)(w:Vk)(p:List Int)(D:U8)(f j:Int)(c:Int)(x4 x5 x6:Option Slot)(s2:Slot)(h2:s2= .par (enc k)∨s2= .loc (enc k))(ha:ga [enc k]=U7 (.ok (.list R)))(hl:lfs R=true)
  (hc:(km (eNe (za 4) (q9 [])) (eLt (jd (zd gp [(za 2)])) (eC (.int 14)))) [U7 (.par D),U7 (.par (.int f)),U7 s2,U7 (.loc (.int j)),U7 (.own R),x5,x6]=U7 (.ok 2 (.bool true)))
  (hg:gc [D,.int (f+1+j)]=U7 (.ok (.int c))) (hR:0 < R.length) (hat:atP R (c % (R.length:Int))=U7 (jv w p)) (ht:gt [enc k,.str w,encP p]=U7 (.ok (enc k'))):
  otB gp gt gc ga [U7 (.par D),U7 (.par (.int f)),U7 s2,U7 (.loc (.int j)),x4,x5,x6]=U7 (.next [U7 (.par D),U7 (.par (.int f)),U7 (.loc (enc k')),U7 (.loc (.int j)),U7 (.own R),U7 (.loc (.str w)),U7 (.loc (encP p))]):=by
 have v:∀ r r' rr,∃ l,za 2 (r::r'::U7 s2::rr)=U7 (.ok l (enc k)):=λr r' rr=>by rcases h2 with rfl | rfl<;>exact ⟨_,rfl⟩
 obtain ⟨l,e⟩:=v (U7 (.par D)) (U7 (.par (.int f))) [U7 (.loc (.int j)),x4,x5,x6]
 have s1:zl 4 (zd ga [(za 2)]) [U7 (.par D),U7 (.par (.int f)),U7 s2,U7 (.loc (.int j)),x4,x5,x6]=U7 (.next [U7 (.par D),U7 (.par (.int f)),U7 s2,U7 (.loc (.int j)),U7 (.own R),x5,x6]):=by
  simp [zl,zd,zo,e,zu,zi,ha,jt,ur hl]
 have hm:AL (.int c) (.int (R.length:Int))=U7 (.int (c % (R.length:Int))):=sx (by omega)
 have lp:=qz p
 have s3:bo (wc 5 6) (eIx (za 4) (yg (zd gc [(za 0),(qh (qh (za 1) (eC (.int 1))) (za 3))]) (jd (za 4)))) [U7 (.par D),U7 (.par (.int f)),U7 s2,U7 (.loc (.int j)),U7 (.own R),x5,x6]=U7 (.next [U7 (.par D),U7 (.par (.int f)),U7 s2,U7 (.loc (.int j)),U7 (.own R),U7 (.loc (.str w)),U7 (.loc (encP p))]):=by
  have lt:lf (.tuple [.str w,encP p])=true:=by simp [lf,lfs,lp]
  unfold jv at hat
  simp [bo,eIx,e2,za,yg,zd,zo,qh,eC,jd,e1,zu,zk,zi,t6,hg,jt,fm,hm,dIx,hat,lt,wc]
 obtain ⟨l',e'⟩:=v (U7 (.par D)) (U7 (.par (.int f))) [U7 (.loc (.int j)),U7 (.own R),U7 (.loc (.str w)),U7 (.loc (encP p))]
 have lk:=qb k'
 have s4:zl 2 (zd gt [(za 2),(za 5),(za 6)]) [U7 (.par D),U7 (.par (.int f)),U7 s2,U7 (.loc (.int j)),U7 (.own R),U7 (.loc (.str w)),U7 (.loc (encP p))]=U7 (.next [U7 (.par D),U7 (.par (.int f)),U7 (.loc (enc k')),U7 (.loc (.int j)),U7 (.own R),U7 (.loc (.str w)),U7 (.loc (encP p))]):=by
  have v5:za 5 [U7 (.par D),U7 (.par (.int f)),U7 s2,U7 (.loc (.int j)),U7 (.own R),U7 (.loc (.str w)),U7 (.loc (encP p))]=U7 (.ok 1 (.str w)):=rfl
  have v6:za 6 [U7 (.par D),U7 (.par (.int f)),U7 s2,U7 (.loc (.int j)),U7 (.own R),U7 (.loc (.str w)),U7 (.loc (encP p))]=U7 (.ok 1 (encP p)):=rfl
  simp [zl,zd,zo,e',v5,v6,zu,zi,ht,jt,asg,lk]
 unfold otB
 rw [zv s1]
 simp only [sIf,hc,zi]
 rw [zv s3,s4]
theorem Jo{k:Kd}{t:Vk×List Int}(h:dq k t):WT t.1=true:=by
 obtain ⟨k',e⟩:=Xt.mp h
 obtain ⟨x,y,_,hh,_⟩:=lj e
 rcases MR t.1 with w | w | w | w | hno
 ·rw [w];decide +kernel
 ·rw [w];decide +kernel
 ·rw [w];decide +kernel
 ·rw [w];decide +kernel
 ·rw [Fp t.1 x hno] at hh;cases hh
theorem Mf(k:Kd):∀ ts:List (Vk×List Int),(∀ t∈ts,dq k t)->UP (wa ts)=true
 | [],_=>rfl
 | t::ts,h=>by
  show ((jv t.1 t.2).canLay0 && UP (wa ts))=true
  rw [Np _ _ (Jo (h t (UN ..))),Mf k ts λu hu=>h u (UQ _ hu)];rfl
theorem O1(n:Nat)(ns:List Int)(f j:Nat)(k:Kd)(hk:k.leaves<=45)(hn:k.leaves+2<=n)(x4 x5 x6:Option Slot)(s2:Slot)(h2:s2= .par (enc k)∨s2= .loc (enc k)):
  ∃ (k':Kd) (s2':Slot) (y4 y5 y6:Option Slot),(k'=k∨∃ w p,wu k w p=U7 k')/\(s2'= .par (enc k')∨s2'= .loc (enc k'))/\
   otB (qt (n+3)) (wd (n+3)) (z7 (n+3)) (qp (n+3)) [U7 (.par (.list (ns.map .int))),U7 (.par (.int (f:Int))),U7 s2,U7 (.loc (.int (j:Int))),x4,x5,x6]=U7 (.next [U7 (.par (.list (ns.map .int))),U7 (.par (.int (f:Int))),U7 s2',U7 (.loc (.int (j:Int))),y4,y5,y6]):=by
 obtain ⟨ts,ha,hG,hlen⟩:=RN n k hk
 have hp:=Cf (n+1) k (by omega)
 have hl:=DJ ts
 have hc:=i6 (n+1) ns (f+1+j)
 have lay:=Mz (wa ts) (Mf k ts hG)
 have v:∀ r r' rr,∃ l,za 2 (r::r'::U7 s2::rr)=U7 (.ok l (enc k)):=λr r' rr=>by rcases h2 with rfl | rfl<;>exact ⟨_,rfl⟩
 generalize hD:Zo (ns.map .int)=D at *
 by_cases h0:ts=[]
 ·subst h0
  refine ⟨k,s2,U7 (.own []),x5,x6,.inl rfl,h2,?_⟩
  refine K6 _ _ _ _ k [] _ _ _ _ _ _ s2 h2 ha rfl ?_
  have q:dNe (.list []) (.list [])=U7 (.bool false):=lay
  simp [km,eNe,e2,za,q9,zo,zu,zk,lfs,q]
 ·obtain ⟨t0,tr,rfl⟩:=Yd h0
  obtain ⟨l,e⟩:=v (U7 (.par D)) (U7 (.par (.int (f:Int)))) [U7 (.loc (.int (j:Int))),U7 (.own (wa (t0::tr))),x5,x6]
  have q:dNe (.list (wa (t0::tr))) (.list [])=U7 (.bool true):=lay
  have cond:(km (eNe (za 4) (q9 [])) (eLt (jd (zd (qt (n+3)) [(za 2)])) (eC (.int 14)))) [U7 (.par D),U7 (.par (.int (f:Int))),U7 s2,U7 (.loc (.int (j:Int))),U7 (.own (wa (t0::tr))),x5,x6]=U7 (.ok 2 (.bool (decide (((pre k []).map encP).length < 14)))):=by
   have q4:za 4 [U7 (.par D),U7 (.par (.int (f:Int))),U7 s2,U7 (.loc (.int (j:Int))),U7 (.own (wa (t0::tr))),x5,x6]=U7 (.ok 1 (.list (wa (t0::tr)))):=rfl
   generalize wa (t0::tr)=R at *
   generalize (pre k []).map encP=PP at *
   have ii:(decide ((PP.length:Int) < 14))=decide (PP.length < 14):=by
    by_cases z:PP.length < 14
    ·rw [decide_eq_true z,decide_eq_true (by omega)]
    ·rw [decide_eq_false z,decide_eq_false (by omega)]
   simp [km,eNe,e2,q4,q9,zo,zu,zk,lfs,q,eLt,jd,e1,zd,e,hp,jt,fm,eC,dLt,ii]
  by_cases hp14:((pre k []).map encP).length < 14
  ·rw [decide_eq_true hp14] at cond
   have hR:0 < (wa (t0::tr)).length:=by simp [wa]
   have hlt:(kq ns (f+1+j) % ((wa (t0::tr)).length:Int)).toNat < (t0::tr).length:=by
    have h1:=XM (kq ns (f+1+j)) (b:=((wa (t0::tr)).length:Int)) (by omega)
    have h2:=XE (kq ns (f+1+j)) (b:=((wa (t0::tr)).length:Int)) (by omega)
    have h3:(wa (t0::tr)).length=(t0::tr).length:=by simp [wa]
    omega
   obtain ⟨u,hu⟩:∃ u,(t0::tr)[(kq ns (f+1+j) % ((wa (t0::tr)).length:Int)).toNat]? =U7 u:=⟨_,List.getElem?_eq_getElem hlt⟩
   have hg:=hG u (YQ hu)
   obtain ⟨k',hk'⟩:=Xt.mp hg
   have ht:=Jn (n+2) k u.1 u.2 hk (by omega)
   rw [hk'] at ht
   have hat:atP (wa (t0::tr)) (kq ns (f+1+j) % ((wa (t0::tr)).length:Int))=U7 (jv u.1 u.2):=by
    have h1:=XM (kq ns (f+1+j)) (b:=((wa (t0::tr)).length:Int)) (by omega)
    rw [<- Int.toNat_of_nonneg h1]
    exact IW (by simp only [wa,Vu];simp only [wa] at hu;rw [hu];rfl)
   refine ⟨k',.loc (enc k'),U7 (.own (wa (t0::tr))),U7 (.loc (.str u.1)),U7 (.loc (encP u.2)),.inr ⟨u.1,u.2,hk'⟩,.inr rfl,?_⟩
   have hc':z7 (n+3) [D,.int ((f:Int)+1+(j:Int))]=U7 (.ok (.int (kq ns (f+1+j)))):=by
    rw [<- hc];congr 2
   exact Pn _ _ _ _ k k' (wa (t0::tr)) u.1 u.2 D _ _ _ _ _ _ s2 h2 ha hl cond hc' hR hat ht
  ·rw [decide_eq_false hp14] at cond
   exact ⟨k,s2,U7 (.own (wa (t0::tr))),x5,x6,.inl rfl,h2,K6 _ _ _ _ k _ _ _ _ _ _ _ s2 h2 ha hl cond⟩
theorem K9(n:Nat)(ns:List Int)(f:Nat):∀ (js:List Nat) (k:Kd) (x3 x4 x5 x6:Option Slot) (s2:Slot),sE k<=40->42<=n->(s2= .par (enc k)∨s2= .loc (enc k))->
  ∃ (k':Kd) (r:TRow) (s2':Slot) (y3 y4 y5 y6:Option Slot),goK k r=U7 k'/\(s2'= .par (enc k')∨s2'= .loc (enc k'))/\
   qg (zw 3) (otB (qt (n+3)) (wd (n+3)) (z7 (n+3)) (qp (n+3))) (js.map λ(j:Nat)=>Wm (j:Int)) [U7 (.par (.list (ns.map .int))),U7 (.par (.int (f:Int))),U7 s2,x3,x4,x5,x6]=U7 (.next [U7 (.par (.list (ns.map .int))),U7 (.par (.int (f:Int))),U7 s2',y3,y4,y5,y6])
 | [],k,x3,x4,x5,x6,s2,_,_,h2=>⟨k,[],s2,x3,x4,x5,x6,rfl,h2,rfl⟩
 | j::js,k,x3,x4,x5,x6,s2,hs,hn,h2=>by
  have hl:=yo k
  obtain ⟨k1,s1,y4,y5,y6,hk,h2',e⟩:=O1 n ns f j k (by omega) (by omega) x4 x5 x6 s2 h2
  have hk1:∃ r,goK k r=U7 k1:=by
   rcases hk with rfl | ⟨w,p,hw⟩
   ·exact ⟨[],rfl⟩
   ·exact ⟨[(w,p)],MC hw⟩
  obtain ⟨r1,hr1⟩:=hk1
  obtain ⟨k',r,s2',z3,z4,z5,z6,g,h3,e2⟩:=K9 n ns f js k1 (U7 (.loc (.int (j:Int)))) y4 y5 y6 s1 (UU (LM _ _ _ hr1) hs) hn h2'
  refine ⟨k',r1++r,s2',z3,z4,z5,z6,kh hr1 g,h3,?_⟩
  rw [UR,<- e2]
  exact xg rfl e
theorem LS(n:Nat)(ns:List Int)(f:Nat)(k:Kd)(hs:sE k<=40)(hn:42<=n):∃ (k':Kd) (r:TRow),goK k r=U7 k'/\w4 (n+4) [.list (ns.map .int),.int (f:Int),enc k]=U7 (.ok (enc k')):=by
 have c:=i6 (n+1) ns f
 have hm:AL (.int (kq ns f)) (.int 9)=U7 (.int (kq ns f % 9)):=sx (by decide)
 have h9:0<=kq ns f % 9/\kq ns f % 9 < 9:=by omega
 have hb:(kq ns f % 9).natAbs<=big:=by
  have:(9:Nat)<=big:=by decide
  omega
 obtain ⟨k',r,s2',y3,y4,y5,y6,g,h2,e⟩:=K9 n ns f (VM (kq ns f % 9).toNat) k UA UA UA UA (.par (enc k)) hs hn (.inl rfl)
 refine ⟨k',r,g,?_⟩
 have eq:oq (qt (n+3)) (wd (n+3)) (z7 (n+3)) (qp (n+3))=(ze (ye (iR1 (yg (zd (z7 (n+3)) [(za 0),(za 1)]) (eC (.int 9)))) (zw 3) (otB (qt (n+3)) (wd (n+3)) (z7 (n+3)) (qp (n+3)))) (zq (za 2))):=rfl
 have lk:=qb k'
 have hn':fy (kq ns f % 9).toNat=(VM (kq ns f % 9).toNat).map λ(j:Nat)=>Wm (j:Int):=rfl
 generalize Zo (ns.map .int)=D at *
 have s1:ye (iR1 (yg (zd (z7 (n+3)) [(za 0),(za 1)]) (eC (.int 9)))) (zw 3) (otB (qt (n+3)) (wd (n+3)) (z7 (n+3)) (qp (n+3))) [U7 (.par D),U7 (.par (.int (f:Int))),U7 (.par (enc k)),UA,UA,UA,UA]=U7 (.next [U7 (.par D),U7 (.par (.int (f:Int))),U7 s2',y3,y4,y5,y6]):=by
  have q:(iR1 (yg (zd (z7 (n+3)) [(za 0),(za 1)]) (eC (.int 9)))) [U7 (.par D),U7 (.par (.int (f:Int))),U7 (.par (enc k)),UA,UA,UA,UA]=U7 (.ok 2 (fy (kq ns f % 9).toNat)):=by
   simp [iR1,yg,e2,zd,zo,za,eC,zu,zk,c,jt,hm,hb]
  unfold ye
  rw [q,hn']
  exact e
 have s2:zq (za 2) [U7 (.par D),U7 (.par (.int (f:Int))),U7 s2',y3,y4,y5,y6]=U7 (.ret (enc k')):=by
  rcases h2 with rfl | rfl<;>simp [zq,za,zi,lk]
 unfold w4
 refine ky ?_
 show oq (qt (n+3)) (wd (n+3)) (z7 (n+3)) (qp (n+3)) [U7 (.par D),U7 (.par (.int (f:Int))),U7 (.par (enc k)),UA,UA,UA,UA]=_
 rw [eq,zv s1,s2]
theorem MO(a b:List Int):Vf (zt a) (zt b)=(a == b):=by simp [zt,Vf,CY]
theorem DE:∀ a b:List (List Int),VF (a.map zt) (b.map zt)=(a == b)
 | [],[]=>rfl
 | [],_::_=>rfl
 | _::_,[]=>rfl
 | x::xs,y::ys=>by simp only [UR,VF,MO,DE xs ys,List.cons_beq_cons]
theorem DT:∀ a:List (List Int),UP (a.map zt)=true
 | []=>rfl
 | x::xs=>by
  have:=xy x
  simp only [UR,UP,DT xs,Bool.and_true]
  exact this
theorem FK(a b:List (List Int)):yu (wb a) (wb b)=U7 (a == b):=by
 have h1:dh (wb a) (wb b)=true:=by
  have d:=Kb a
  simp only [dh,wb,Vi,DT,XQ,V5,decide_eq_true_eq]
  omega
 unfold wb at *
 simp [yu,h1,Vf,DE]
theorem M7{r:List Int}(h:q0 ltI r=r):Rs r:=by
 have h1:=M4 r
 rw [h] at h1
 refine List.Pairwise.imp (λ{a b} q=>?_) h1
 have q:decide (b < a)=false:=q
 simp only [decide_eq_false_iff_not] at q
 show a<=b
 omega
theorem S4:∀ (r:TRow) (k c:Kd),goK k r=U7 c->nE c<=nE k
 | [],k,c,h=>by cases h;exact UI _
 | t::r,k,c,h=>by
  simp only [goK] at h
  cases e:wu k t.1 t.2 with
  | none=>rw [e] at h;cases h
  | some d=>
   rw [e] at h
   exact UU (S4 r d c h) (Jl e).1
theorem Oa{w:Vk}{x y:Kd}(h:yj w x=U7 y)(o:x.Ok):y.Ok:=by
 unfold yj at h
 split at h
 ·cases x<;>simp only [CQ,reduceCtorEq,V6] at h<;>subst h<;>exact ⟨o.2,o.1⟩
 ·split at h
  ·unfold dw at h
   split at h<;>simp only [reduceCtorEq,V6] at h<;>subst h<;>exact ⟨o.1.1,o.1.2,o.2⟩
  ·split at h
   ·unfold uv at h
    split at h<;>simp only [reduceCtorEq,V6] at h
    subst h
    exact ⟨⟨o.1,o.2.1⟩,o.1,o.2.2⟩
   ·split at h
    ·unfold CD at h
     split at h<;>simp only [reduceCtorEq,V6] at h<;>subst h
     ·exact o.2
     ·trivial
     ·exact o.2
    ·cases h
theorem Ax:∀ (p:List Int) (k x y:Kd),qi k p=U7 x->(x.Ok->y.Ok)->k.Ok->(ki k p y).Ok
 | [],k,x,y,h,e,o=>by cases h;simpa [ki] using e o
 | s::p,k,x,y,h,e,o=>by
  simp only [qi] at h
  cases hs:jn k s with
  | none=>rw [hs] at h;cases h
  | some c=>
   rw [hs] at h
   have h':qi c p=U7 x:=h
   cases k with
   | either a b=>
    simp only [ki]
    by_cases z:s=0
    ·subst z
     have:c=a:=by simpa [jn] using hs.symm
     subst this
     rw [if_pos rfl]
     exact ⟨Ax p c x y h' e o.1,o.2⟩
    ·have:c=b:=by
       unfold jn at hs
       simp only [z,if_false] at hs
       split at hs<;>simp at hs
       exact hs.symm
     subst this
     rw [if_neg z]
     exact ⟨o.1,Ax p c x y h' e o.2⟩
   | both a b=>
    simp only [ki]
    by_cases z:s=0
    ·subst z
     have:c=a:=by simpa [jn] using hs.symm
     subst this
     rw [if_pos rfl]
     exact ⟨Ax p c x y h' e o.1,o.2⟩
    ·have:c=b:=by
       unfold jn at hs
       simp only [z,if_false] at hs
       split at hs<;>simp at hs
       exact hs.symm
     subst this
     rw [if_neg z]
     exact ⟨o.1,Ax p c x y h' e o.2⟩
   | none=>simp [jn] at hs
   | one=>simp [jn] at hs
   | name i=>simp [jn] at hs
theorem L9{k k':Kd}{w:Vk}{p:List Int}(h:wu k w p=U7 k')(o:k.Ok):k'.Ok:=by
 obtain ⟨x,y,hp,hw,rfl⟩:=lj h
 exact Ax p k x y hp (Oa hw) o
theorem Q7:∀ (r:TRow) (k c:Kd),goK k r=U7 c->k.Ok->c.Ok
 | [],k,c,h,o=>by cases h;exact o
 | t::r,k,c,h,o=>by
  simp only [goK] at h
  cases e:wu k t.1 t.2 with
  | none=>rw [e] at h;cases h
  | some d=>
   rw [e] at h
   exact Q7 r d c h (L9 e o)
end KT
namespace KT
open PySem PySem.Spec PyProof.Rows
theorem Of{k c:Kd}{s:Int}(h:jn k s=U7 c):(s=0∨s=1)/\inn k=true/\dIx (enc k) (.int (1+s))=U7 (enc c):=by
 cases k with
 | none=>simp [jn] at h
 | one=>simp [jn] at h
 | name i=>simp [jn] at h
 | either a b=>
  unfold jn at h
  by_cases z:s=0
  ·subst z;simp at h;subst h;exact ⟨.inl rfl,rfl,Fz _ _ _⟩
  ·by_cases o:s=1
   ·subst o;simp at h;subst h;exact ⟨.inr rfl,rfl,F9 _ _ _ _⟩
   ·simp [z,o] at h
 | both a b=>
  unfold jn at h
  by_cases z:s=0
  ·subst z;simp at h;subst h;exact ⟨.inl rfl,rfl,Fz _ _ _⟩
  ·by_cases o:s=1
   ·subst o;simp at h;subst h;exact ⟨.inr rfl,rfl,F9 _ _ _ _⟩
   ·simp [z,o] at h
theorem Lo{k c:Kd}{s:Int}(h:jn k s=U7 c):c.leaves < k.leaves:=by
 cases k with
 | none=>simp [jn] at h
 | one=>simp [jn] at h
 | name i=>simp [jn] at h
 | either a b=>
  have:=a.pos;have:=b.pos
  unfold jn at h
  by_cases z:s=0
  ·subst z;simp at h;subst h;simp only [Kd.leaves];omega
  ·by_cases o:s=1
   ·subst o;simp at h;subst h;simp only [Kd.leaves];omega
   ·simp [z,o] at h
 | both a b=>
  have:=a.pos;have:=b.pos
  unfold jn at h
  by_cases z:s=0
  ·subst z;simp at h;subst h;simp only [Kd.leaves];omega
  ·by_cases o:s=1
   ·subst o;simp at h;subst h;simp only [Kd.leaves];omega
   ·simp [z,o] at h
theorem HI:∀ (p:List Int) (k x:Kd),qi k p=U7 x->p.length < k.leaves
 | [],k,x,_=>k.pos
 | s::p,k,x,h=>by
  simp only [qi] at h
  cases hs:jn k s with
  | none=>rw [hs] at h;cases h
  | some c=>
   rw [hs] at h
   have:=HI p c x h
   have:=Lo hs
   simp only [UM];omega
theorem Ow{s:Int}(h:s=0∨s=1):se (.int s) (.tuple [.int 0,.int 1])=U7 (.bool false):=by
 rcases h with rfl | rfl<;>simp [se,Fu,EM,Vi,UP,V5,Vg,Vf]
noncomputable def goI:FS:=(ze (sIf (eOr (mw (za 4) (zm [(eC (.int 0)),(eC (.int 1))])) (eLt (jd (za 3)) (eC (.int 3)))) (zq (eC .none)) zj) (zl 3 (eIx (za 3) (qh (eC (.int 1)) (za 4)))))
theorem RV(x0 x1 x2 x5:Option Slot){k c:Kd}{s:Int}(h:jn k s=U7 c):goI [x0,x1,x2,U7 (.loc (enc k)),U7 (.loc (.int s)),x5]=U7 (.next [x0,x1,x2,U7 (.loc (enc c)),U7 (.loc (.int s)),x5]):=by
 obtain ⟨h1,h2,h3⟩:=Of h
 have n1:=Ow h1
 have l1:=JN h2
 have lc:=qb c
 simp [goI,ze,sIf,eOr,mw,e2,za,zm,zo,eC,zu,zk,zi,n1,eLt,jd,e1,l1,dLt,zj,zl,eIx,qh,t6,h3,asg,lc]
theorem HU(x0 x1 x2 x5:Option Slot):∀ (p:List Int) (k x:Kd) (x4:Option Slot),qi k p=U7 x->∃ y4,qg (zw 4) goI (p.map .int) [x0,x1,x2,U7 (.loc (enc k)),x4,x5]=U7 (.next [x0,x1,x2,U7 (.loc (enc x)),y4,x5])
 | [],k,x,x4,h=>by cases h;exact ⟨x4,rfl⟩
 | s::p,k,x,x4,h=>by
  simp only [qi] at h
  cases hs:jn k s with
  | none=>rw [hs] at h;cases h
  | some c=>
   rw [hs] at h
   obtain ⟨y4,e⟩:=HU x0 x1 x2 x5 p c x (U7 (.loc (.int s))) h
   refine ⟨y4,?_⟩
   rw [<- e,UR]
   exact xg rfl (RV x0 x1 x2 x5 hs)
noncomputable def goT(gp gh:FC):FS:=(ze (sIf (eOr (f9 (eIs .tuple (za 2))) (eOr (eNe (jd (za 2)) (eC (.int 2))) (f9 (eIs .tuple (eIx (za 2) (eC (.int 1))))))) (zq (eC .none)) zj) (ze (zl 3 (za 0)) (ze (ye (xu (eIx (za 2) (eC (.int 1)))) (zw 4) goI) (ze (zl 5 (zd gh [(za 3),(eIx (za 2) (eC (.int 0)))])) (ze (sIf (Gd (za 5) (eC .none)) (zq (eC .none)) zj) (zl 0 (zd gp [(za 0),(eIx (za 2) (eC (.int 1))),(za 5)])))))))
theorem Mi(k:Kd):Lc (enc k) .none=U7 (.bool false):=by cases k<;>rfl
theorem QI(gp gh:FC)(x1:Option Slot)(s0:Slot)(k x y c:Kd)(w:Vk)(p:List Int)(x3 x4 x5:Option Slot)(h0:s0= .par (enc k)∨s0= .loc (enc k))
  (hp:qi k p=U7 x) (hh:gh [enc x,.str w]=U7 (.ok (enc y))) (hg:gp [enc k,encP p,enc y]=U7 (.ok (enc c))):
  ∃ y3 y4 y5,goT gp gh [U7 s0,x1,U7 (.loc (jv w p)),x3,x4,x5]=U7 (.next [U7 (.loc (enc c)),x1,U7 (.loc (jv w p)),y3,y4,y5]):=by
 have v0:∀ r,∃ l,za 0 (U7 s0::r)=U7 (.ok l (enc k)):=λr=>by rcases h0 with rfl | rfl<;>exact ⟨_,rfl⟩
 have lk:=qb k
 have ly:=qb y
 have lc:=qb c
 have c1:(sIf (eOr (f9 (eIs .tuple (za 2))) (eOr (eNe (jd (za 2)) (eC (.int 2))) (f9 (eIs .tuple (eIx (za 2) (eC (.int 1))))))) (zq (eC .none)) zj) [U7 s0,x1,U7 (.loc (jv w p)),x3,x4,x5]=U7 (.next [U7 s0,x1,U7 (.loc (jv w p)),x3,x4,x5]):=by
  have a1:atP [Vb w,encP p] 1=U7 (encP p):=rfl
  have a2:((2:Int) == 2)=true:=rfl
  simp [sIf,eOr,f9,eIs,e1,za,zk,zi,dIs,p7,jv,eNe,e2,jd,fm,eC,QL,eIx,dIx,a1,encP,zj]
  rfl
 have c3:(zl 3 (za 0)) [U7 s0,x1,U7 (.loc (jv w p)),x3,x4,x5]=U7 (.next [U7 s0,x1,U7 (.loc (jv w p)),U7 (.loc (enc k)),x4,x5]):=by
  obtain ⟨l,e⟩:=v0 [x1,U7 (.loc (jv w p)),x3,x4,x5]
  simp [zl,e,zi,asg,lk]
 obtain ⟨y4,c4'⟩:=HU (U7 s0) x1 (U7 (.loc (jv w p))) x5 p k x x4 hp
 have c4:(ye (xu (eIx (za 2) (eC (.int 1)))) (zw 4) goI) [U7 s0,x1,U7 (.loc (jv w p)),U7 (.loc (enc k)),x4,x5]=U7 (.next [U7 s0,x1,U7 (.loc (jv w p)),U7 (.loc (enc x)),y4,x5]):=by
  have q:(xu (eIx (za 2) (eC (.int 1)))) [U7 s0,x1,U7 (.loc (jv w p)),U7 (.loc (enc k)),x4,x5]=U7 (.ok 2 (p.map .int)):=by
   have a1:atP [Vb w,encP p] 1=U7 (encP p):=rfl
   simp [xu,eIx,e2,za,eC,zk,jv,dIx,a1]
   simp [encP,gk]
  unfold ye
  rw [q]
  exact c4'
 have c5:(zl 5 (zd gh [(za 3),(eIx (za 2) (eC (.int 0)))])) [U7 s0,x1,U7 (.loc (jv w p)),U7 (.loc (enc x)),y4,x5]=U7 (.next [U7 s0,x1,U7 (.loc (jv w p)),U7 (.loc (enc x)),y4,U7 (.loc (enc y))]):=by
  have a0:atP [Vb w,encP p] 0=U7 (.str w):=rfl
  simp [zl,zd,zo,za,eIx,e2,eC,zk,zu,zi,jv,dIx,a0,hh,jt,asg,ly]
 have c6:(sIf (Gd (za 5) (eC .none)) (zq (eC .none)) zj) [U7 s0,x1,U7 (.loc (jv w p)),U7 (.loc (enc x)),y4,U7 (.loc (enc y))]=U7 (.next [U7 s0,x1,U7 (.loc (jv w p)),U7 (.loc (enc x)),y4,U7 (.loc (enc y))]):=by
  simp [sIf,Gd,e2,za,eC,zk,zi,Mi,zj]
 have c7:(zl 0 (zd gp [(za 0),(eIx (za 2) (eC (.int 1))),(za 5)])) [U7 s0,x1,U7 (.loc (jv w p)),U7 (.loc (enc x)),y4,U7 (.loc (enc y))]=U7 (.next [U7 (.loc (enc c)),x1,U7 (.loc (jv w p)),U7 (.loc (enc x)),y4,U7 (.loc (enc y))]):=by
  obtain ⟨l,e⟩:=v0 [x1,U7 (.loc (jv w p)),U7 (.loc (enc x)),y4,U7 (.loc (enc y))]
  have a1:atP [Vb w,encP p] 1=U7 (encP p):=rfl
  have q:(eIx (za 2) (eC (.int 1))) [U7 s0,x1,U7 (.loc (jv w p)),U7 (.loc (enc x)),y4,U7 (.loc (enc y))]=U7 (.ok 1 (encP p)):=by
   simp [eIx,e2,za,eC,zk,jv,dIx,a1]
  have q5:za 5 [U7 s0,x1,U7 (.loc (jv w p)),U7 (.loc (enc x)),y4,U7 (.loc (enc y))]=U7 (.ok 1 (enc y)):=rfl
  simp [zl,zd,zo,e,q,q5,zu,zi,hg,jt,asg,lc]
 exact ⟨_,_,_,by unfold goT;rw [zv c1,zv c3,zv c4,zv c5,zv c6,c7]⟩
theorem CZ(p q:List Int)(w:Vk)(r:TRow):qx p ((w,q)::r)=jv w (p++q)::qx p r:=rfl
theorem Mr(p:List Int):∀ r:TRow,lfs (qx p r)=true
 | []=>rfl
 | (w,q)::r=>by simp only [CZ,lfs,Mr p r,Bool.and_true];simp [jv,lf,lfs,qz]
theorem Jz(n:Nat)(x1:Option Slot):∀ (row:TRow) (k c:Kd) (s0:Slot) (x2 x3 x4 x5:Option Slot),goK k row=U7 c->(s0= .par (enc k)∨s0= .loc (enc k))->sE k<=40->
  ∃ s0' y2 y3 y4 y5,(s0'= .par (enc c)∨s0'= .loc (enc c))/\qg (zw 2) (goT (j3 (n+41)) (jm (n+41))) (qx [] row) [U7 s0,x1,x2,x3,x4,x5]=U7 (.next [U7 s0',x1,y2,y3,y4,y5])
 | [],k,c,s0,x2,x3,x4,x5,h,h0,_=>by cases h;exact ⟨s0,x2,x3,x4,x5,h0,rfl⟩
 | (w,p)::row,k,c,s0,x2,x3,x4,x5,h,h0,hs=>by
  simp only [goK] at h
  cases e:wu k w p with
  | none=>rw [e] at h;cases h
  | some d=>
   rw [e] at h
   obtain ⟨x,y,hp,hh,rfl⟩:=lj e
   have hl:=HI p k x hp
   have hk:k.leaves<=40:=UU (yo k) hs
   have hh':=CS (n+40) w x
   rw [hh] at hh'
   obtain ⟨y3,y4,y5,q⟩:=QI (j3 (n+41)) (jm (n+41)) x1 s0 k x y (ki k p y) w p x3 x4 x5 h0 hp hh' (EL p (n+41) k y x (by omega) (by omega) hp)
   obtain ⟨s0',z2,z3,z4,z5,hz,r⟩:=Jz n x1 row (ki k p y) c (.loc (enc (ki k p y))) (U7 (.loc (jv w p))) y3 y4 y5 h (.inr rfl) (UU (Jl e).2 hs)
   refine ⟨s0',z2,z3,z4,z5,hz,?_⟩
   rw [CZ,<- r]
   exact xg rfl q
theorem Bj(n:Nat)(k c:Kd)(row:TRow)(h:goK k row=U7 c)(hs:sE k<=40):vc (n+42) [enc k,.list (qx [] row)]=U7 (.ok (enc c)):=by
 obtain ⟨s0',y2,y3,y4,y5,hz,r⟩:=Jz n (U7 (.par (.list (qx [] row)))) row k c (.par (enc k)) UA UA UA UA h (.inl rfl) hs
 have e:sh (j3 (n+41)) (jm (n+41))=(ze (sIf (f9 (eIs .list (za 1))) (zq (eC .none)) zj) (ze (yb 1 (zw 2) (goT (j3 (n+41)) (jm (n+41)))) (zq (za 0)))):=rfl
 have hl:lfs (qx [] row)=true:=Mr [] row
 generalize qx [] row=R at *
 have s1:(sIf (f9 (eIs .list (za 1))) (zq (eC .none)) zj) [U7 (.par (enc k)),U7 (.par (.list R)),UA,UA,UA,UA]=U7 (.next [U7 (.par (enc k)),U7 (.par (.list R)),UA,UA,UA,UA]):=by
  simp [sIf,f9,eIs,e1,za,zk,zi,dIs,p7,zj]
 have s2:yb 1 (zw 2) (goT (j3 (n+41)) (jm (n+41))) [U7 (.par (enc k)),U7 (.par (.list R)),UA,UA,UA,UA]=U7 (.next [U7 s0',U7 (.par (.list R)),y2,y3,y4,y5]):=by
  unfold yb
  simp only [UD,UE,hl,if_true]
  exact r
 have lc:=qb c
 have s3:zq (za 0) [U7 s0',U7 (.par (.list R)),y2,y3,y4,y5]=U7 (.ret (enc c)):=by
  rcases hz with rfl | rfl<;>simp [zq,za,zi,lc]
 unfold vc
 refine ky ?_
 show sh (j3 (n+41)) (jm (n+41)) [U7 (.par (enc k)),U7 (.par (.list R)),UA,UA,UA,UA]=_
 rw [e,zv s1,zv s2,s3]
end KT
namespace KT
open PySem
noncomputable def inB:FS:=(zl 3 (eIf (eEq (za 4) (eC (.int 0))) (zm [(eC (.str "name")),(za 5)]) (zm [(eC (.str "both")),(zm [(eC (.str "name")),(za 5)]),(za 3)])))
theorem E1(n:Int):lf (eu n)=true:=rfl
theorem Jy(i:Nat):(((i+1:Nat):Int) == 0)=false:=by simp;omega
theorem Kz(r0 r1 r2 r6:Option Slot):∀ (xs:List Int) (i:Nat) (m:U8) (x4 x5:Option Slot),lf m=true->
  ∃ y4 y5,qg (wc 4 5) inB (w5 (i+1) (xs.map .int)) [r0,r1,r2,U7 (.loc m),x4,x5,r6]=U7 (.next [r0,r1,r2,U7 (.loc ((xs.map eu).foldl (Ak "both") m)),y4,y5,r6])
 | [],i,m,x4,x5,_=>⟨x4,x5,rfl⟩
 | x::xs,i,m,x4,x5,hm=>by
  have hw:=K3 "both" hm (E1 x)
  obtain ⟨y4,y5,e⟩:=Kz r0 r1 r2 r6 xs (i+1) (Ak "both" m (eu x)) (U7 (.loc (.int ((i+1:Nat):Int)))) (U7 (.loc (.int x))) hw
  refine ⟨y4,y5,?_⟩
  have t:inB [r0,r1,r2,U7 (.loc m),U7 (.loc (.int ((i+1:Nat):Int))),U7 (.loc (.int x)),r6]=U7 (.next [r0,r1,r2,U7 (.loc (Ak "both" m (eu x))),U7 (.loc (.int ((i+1:Nat):Int))),U7 (.loc (.int x)),r6]):=by
   have h0:=Jy i
   unfold Ak eu at hw ⊢
   simp only [inB,zl,eIf,eEq,e2,za,eC,zk,UD,UE,nr,h0,Va,zm,zo,zu,zi,dy hw,VA,VB]
  simp only [UR,w5,qg,wc,VA,VB,t,Ws]
  exact e
theorem SU(r0 r1 r2 r6:Option Slot)(r:List Int)(x4 x5:Option Slot):
  ∃ y4 y5,qg (wc 4 5) inB (w5 0 ((r.map Wm).reverse)) [r0,r1,r2,U7 (.loc (.tuple [.str "one"])),x4,x5,r6]=U7 (.next [r0,r1,r2,U7 (.loc (yv r)),y4,y5,r6]):=by
 rw [<- X6]
 generalize hq:r.reverse=q
 have hr:r=q.reverse:=by rw [<- hq,List.reverse_reverse]
 subst hr
 clear hq
 cases q with
 | nil=>exact ⟨x4,x5,rfl⟩
 | cons x xs=>
  obtain ⟨y4,y5,e⟩:=Kz r0 r1 r2 r6 xs 0 (eu x) (U7 (.loc (.int 0))) (U7 (.loc (.int x))) (E1 x)
  refine ⟨y4,y5,?_⟩
  have hk:yv (x::xs).reverse=(xs.map eu).foldl (Ak "both") (eu x):=by
   unfold yv
   rw [N7 _ (by simp),Xo,XJ,X6]
   exact DO "both" (xs.map eu) (eu x)
  rw [hk,<- e]
  have t:inB [r0,r1,r2,U7 (.loc (.tuple [.str "one"])),U7 (.loc (.int 0)),U7 (.loc (.int x)),r6]=U7 (.next [r0,r1,r2,U7 (.loc (eu x)),U7 (.loc (.int 0)),U7 (.loc (.int x)),r6]):=by
   have:=dy (l:=1) (E1 x)
   unfold eu at this ⊢
   simp [inB,zl,eIf,eEq,e2,za,eC,zk,nr,zm,zo,zu,zi,this]
  simp only [UR,w5,qg,wc,VA,VB,XF,t]
noncomputable def Pt:FS:=(ze (zl 3 (zm [(eC (.str "one"))])) (ze (ye (Ba (ag (za 2))) (wc 4 5) inB) (yz 1 (za 3))))
theorem MK(r:List Int):lfs ((r.map Wm).reverse)=true:=by rw [<- X6];exact AG _
theorem RY(r0 r6:Option Slot)(r:List Int)(hr:r.length<=63)(acc:List U8)(ha:acc.length < big)(x3 x4 x5:Option Slot):
  ∃ y4 y5,Pt [r0,U7 (.own acc),U7 (.loc (zt r)),x3,x4,x5,r6]=U7 (.next [r0,U7 (.own (acc++[yv r])),U7 (.loc (zt r)),U7 (.loc (yv r)),y4,y5,r6]):=by
 obtain ⟨y4,y5,e⟩:=SU r0 (U7 (.own acc)) (U7 (.loc (zt r))) r6 r x4 x5
 refine ⟨y4,y5,?_⟩
 have hb:r.length<=big:=by unfold big;omega
 have hl:lf (yv r)=true:=qb _
 have hd:ak (zt r)=U7 (.list ((r.map Wm).reverse)):=by simp [ak,zt,AG,hb]
 simp [Pt,ze,zl,zm,zo,eC,zu,zi,asg,lf,lfs,ye,Ba,ag,e1,za,zk,hd,MK,e,yz,hl,ha]
theorem D3(r0 r6:Option Slot):∀ (rs:List (List Int)) (acc:List U8) (x2 x3 x4 x5:Option Slot),(∀ r∈rs,r.length<=63)->acc.length+rs.length<=5000->
  ∃ y2 y3 y4 y5,qg (zw 2) Pt (rs.map zt) [r0,U7 (.own acc),x2,x3,x4,x5,r6]=U7 (.next [r0,U7 (.own (acc++rs.map yv)),y2,y3,y4,y5,r6])
 | [],acc,x2,x3,x4,x5,_,_=>⟨x2,x3,x4,x5,by simp [qg]⟩
 | r::rs,acc,x2,x3,x4,x5,h,hz=>by
  simp only [UM] at hz
  obtain ⟨u4,u5,t⟩:=RY r0 r6 r (h r (UN ..)) acc (by unfold big;omega) x3 x4 x5
  obtain ⟨y2,y3,y4,y5,e⟩:=D3 r0 r6 rs (acc++[yv r]) (U7 (.loc (zt r))) (U7 (.loc (yv r))) u4 u5 (λz hz=>h z (UQ _ hz)) (by simp;omega)
  refine ⟨y2,y3,y4,y5,?_⟩
  simp only [UR,qg,zw,VA,VB,t]
  rw [e,Vd];rfl
noncomputable def Jj:FS:=(zl 6 (eIf (eEq (za 4) (eC (.int 0))) (za 3) (zm [(eC (.str "either")),(za 3),(za 6)])))
theorem Gb(r0 r1 r2 r5:Option Slot):∀ (ks:List U8) (i:Nat) (m:U8) (x3 x4:Option Slot),lf m=true->lfs ks=true->
  ∃ y3 y4,qg (wc 4 3) Jj (w5 (i+1) ks) [r0,r1,r2,x3,x4,r5,U7 (.loc m)]=U7 (.next [r0,r1,r2,y3,y4,r5,U7 (.loc (ks.foldl (Ak "either") m))])
 | [],i,m,x3,x4,_,_=>⟨x3,x4,rfl⟩
 | k::ks,i,m,x3,x4,hm,hk=>by
  have hk':lf k=true/\lfs ks=true:=by simpa [lfs] using hk
  have hw:=K3 "either" hm hk'.1
  obtain ⟨y3,y4,e⟩:=Gb r0 r1 r2 r5 ks (i+1) (Ak "either" m k) (U7 (.loc k)) (U7 (.loc (.int ((i+1:Nat):Int)))) hw hk'.2
  refine ⟨y3,y4,?_⟩
  have t:Jj [r0,r1,r2,U7 (.loc k),U7 (.loc (.int ((i+1:Nat):Int))),r5,U7 (.loc m)]=U7 (.next [r0,r1,r2,U7 (.loc k),U7 (.loc (.int ((i+1:Nat):Int))),r5,U7 (.loc (Ak "either" m k))]):=by
   have h0:=Jy i
   unfold Ak at hw ⊢
   simp only [Jj,zl,eIf,eEq,e2,za,eC,zk,UD,UE,nr,h0,Va,zm,zo,zu,zi,dy hw,VA,VB]
  simp only [w5,qg,wc,VA,VB,t,Ws]
  exact e
theorem Rc(rs:List (List Int)):lfs ((rs.map yv).reverse)=true:=by rw [<- X6];exact ox _
theorem QS(r0 r1 r2 r5:Option Slot)(rs:List (List Int))(x3 x4:Option Slot):
  ∃ y3 y4,qg (wc 4 3) Jj (w5 0 ((rs.map yv).reverse)) [r0,r1,r2,x3,x4,r5,U7 (.loc (.tuple [.str "none"]))]=U7 (.next [r0,r1,r2,y3,y4,r5,U7 (.loc (enc (pk rs)))]):=by
 rw [<- X6]
 generalize hq:rs.reverse=q
 have hr:rs=q.reverse:=by rw [<- hq,List.reverse_reverse]
 subst hr
 clear hq
 cases q with
 | nil=>exact ⟨x3,x4,rfl⟩
 | cons x xs=>
  have hx:lf (yv x)=true:=qb _
  obtain ⟨y3,y4,e⟩:=Gb r0 r1 r2 r5 (xs.map yv) 0 (yv x) (U7 (.loc (yv x))) (U7 (.loc (.int 0))) hx (ox xs)
  refine ⟨y3,y4,?_⟩
  have hk:enc (pk (x::xs).reverse)=(xs.map yv).foldl (Ak "either") (yv x):=by
   rw [NZ _ (by simp),Xo,XJ,X6]
   exact DO "either" (xs.map yv) (yv x)
  rw [hk,<- e]
  have t:Jj [r0,r1,r2,U7 (.loc (yv x)),U7 (.loc (.int 0)),r5,U7 (.loc (.tuple [.str "none"]))]=U7 (.next [r0,r1,r2,U7 (.loc (yv x)),U7 (.loc (.int 0)),r5,U7 (.loc (yv x))]):=by
   simp [Jj,zl,eIf,eEq,e2,za,eC,zk,nr,zi,dy hx]
  simp only [UR,w5,qg,wc,VA,VB,XF,t]
theorem Le(n:Nat)(rs:List (List Int))(h:∀ r∈rs,r.length<=63)(hl:rs.length<=63):y9 (n+1) [wb rs]=U7 (.ok (enc (pk rs))):=by
 show qj 7 ou _=_
 have shape:ou=(ze (zl 1 (q9 [])) (ze (yb 0 (zw 2) Pt) (ze (zl 6 (zm [(eC (.str "none"))])) (ze (ye (Ba (ag (za 1))) (wc 4 3) Jj) (zq (za 6)))))):=rfl
 rw [shape]
 obtain ⟨y2,y3,y4,y5,e⟩:=D3 (U7 (.par (wb rs))) UA rs [] UA UA UA UA h (by simp;omega)
 rw [XG] at e
 obtain ⟨z3,z4,e'⟩:=QS (U7 (.par (wb rs))) (U7 (.own (rs.map yv))) y2 y5 rs y3 y4
 have hb:rs.length<=big:=by unfold big;omega
 have hd:ak (.list (rs.map yv))=U7 (.list ((rs.map yv).reverse)):=by simp [ak,ox,hb]
 unfold wb at e e' ⊢
 simp [qj,ze,zl,q9,zo,zu,zi,ur (show lfs []=true from rfl),lfs,yb,t5,e,zm,eC,asg,lf,ye,Ba,ag,e1,za,zk,hd,Rc,e',zq,qb]
noncomputable def p0:Kd->Kd
 | .either a b=>.either (p0 a) (p0 b)
 | .both a b=>.both (p0 a) (p0 b)
 | _=>.one
theorem mn:∀ k:Kd,sE (p0 k)=sE k/\nE (p0 k)=nE k/\(p0 k).leaves=k.leaves
 | .none=>⟨rfl,rfl,rfl⟩
 | .one=>⟨rfl,rfl,rfl⟩
 | .name _=>⟨rfl,rfl,rfl⟩
 | .either a b=>by
  obtain ⟨a1,a2,a3⟩:=mn a;obtain ⟨b1,b2,b3⟩:=mn b
  simp only [p0,sE,nE,Kd.leaves,a1,a2,a3,b1,b2,b3,and_self]
 | .both a b=>by
  obtain ⟨a1,a2,a3⟩:=mn a;obtain ⟨b1,b2,b3⟩:=mn b
  simp only [p0,sE,nE,Kd.leaves,a1,a2,a3,b1,b2,b3,and_self]
theorem NK(gl gd:FC)(k:Kd)(c j d0 d1 d2:Int)(hk:inn k=false)(h0:gd [.int c,.int j,.int 6]=U7 (.ok (.int d0)))(h1:gd [.int c,.int (j+1),.int 4]=U7 (.ok (.int d1)))(h2:gd [.int c,.int (j+2),.int 2]=U7 (.ok (.int d2)))(hd1:0<=d1/\d1 < 4)(hd2:0<=d2/\d2 < 2):
  ∃ k',qj 3 (vx gl gd) [enc k,.int c,.int j]=U7 (.ok (enc k'))/\p0 k'=p0 k/\(k.Ok->k'.Ok):=by
 obtain ⟨m,hm,hlt⟩:=Ge hk
 have lk:=qb k
 have hs:p0 k= .one:=by cases k<;>first | rfl | cases hk
 by_cases z:d0=0
 ·subst z
  have q:d2=0∨d2=1:=by omega
  rcases q with rfl | rfl
  ·refine ⟨.one,?_,hs.symm,λ_=>trivial⟩
   simp [qj,vx,ze,sIf,eLt,e2,jd,e1,za,eC,zk,zi,hm,dLt,hlt,eEq,zd,zo,zu,h0,h1,h2,jt,nr,zq,eIx,q9,zm,qh,t6,lf,lfs,dIx,atP,ixP,enc]
  ·refine ⟨.name d1,?_,hs.symm,λ_=>by simp only [Kd.Ok];omega⟩
   simp [qj,vx,ze,sIf,eLt,e2,jd,e1,za,eC,zk,zi,hm,dLt,hlt,eEq,zd,zo,zu,h0,h1,h2,jt,nr,zq,eIx,q9,zm,qh,t6,lf,lfs,dIx,atP,ixP,enc]
 ·refine ⟨k,?_,rfl,id⟩
  have z':(d0 == 0)=false:=by simpa using z
  simp [qj,vx,ze,sIf,eLt,e2,jd,e1,za,eC,zk,zi,hm,dLt,hlt,eEq,zd,zo,zu,h0,jt,nr,z',zj,zq,lk]
theorem ig:∀ (k:Kd) (n:Nat) (c j:Int),k.leaves<=n->∃ k',j6 (n+1) [enc k,.int c,.int j]=U7 (.ok (enc k'))/\p0 k'=p0 k/\(k.Ok->k'.Ok):=by
 intro k
 by_cases hk:inn k=false
 ·intro n c j hn
  obtain ⟨m,rfl⟩:∃ m,n=m+1:=⟨n - 1,by have:=k.pos;omega⟩
  exact NK _ _ k c j _ _ _ hk (oz m c j 6 (by decide)) (oz m c (j+1) 4 (by decide)) (oz m c (j+2) 2 (by decide)) ⟨mm (by decide),mx (by decide)⟩ ⟨mm (by decide),mx (by decide)⟩
 ·have two:∀ (w:Vk) (C:Kd->Kd->Kd) (a b:Kd),(∀ x y,enc (C x y)= .tuple [.str w,enc x,enc y])->∀ (gl gd:FC) (c j:Int) (a' b':Kd),gl [enc a,.int c,.int (2 * j)]=U7 (.ok (enc a'))->gl [enc b,.int c,.int (2 * j+1)]=U7 (.ok (enc b'))->qj 3 (vx gl gd) [enc (C a b),.int c,.int j]=U7 (.ok (enc (C a' b'))):=λw C a b hC gl gd c j a' b' h1 h2=>by
    rw [hC,hC]
    have m1:p9 (.int 2) (.int j)=U7 (.int (2 * j)):=Mw (OY (by decide))
    have a0:atP [Vb w,enc a,enc b] 0=U7 (.str w):=rfl
    have a1:atP [Vb w,enc a,enc b] 1=U7 (enc a):=rfl
    have a2:atP [Vb w,enc a,enc b] 2=U7 (enc b):=rfl
    have la:=qb a'
    have lb':=qb b'
    simp [qj,vx,ze,sIf,eLt,e2,jd,e1,za,eC,zk,zi,fm,dLt,zj,zq,zm,zo,zu,eIx,dIx,a0,a1,a2,zd,vj,m1,qh,t6,h1,h2,jt,lf,lfs,la,lb']
  intro n c j hn
  cases k with
  | none=>exact absurd rfl hk
  | one=>exact absurd rfl hk
  | name i=>exact absurd rfl hk
  | either a b=>
   have pa:=a.pos
   have pb:=b.pos
   simp only [Kd.leaves] at hn
   obtain ⟨m,rfl⟩:∃ m,n=m+1:=⟨n - 1,by omega⟩
   obtain ⟨a',e1,s1,o1⟩:=ig a m c (2 * j) (by omega)
   obtain ⟨b',e2,s2,o2⟩:=ig b m c (2 * j+1) (by omega)
   exact ⟨.either a' b',two "either" .either a b (λ_ _=>rfl) _ _ c j a' b' e1 e2,by simp only [p0,s1,s2],λo=>⟨o1 o.1,o2 o.2⟩⟩
  | both a b=>
   have pa:=a.pos
   have pb:=b.pos
   simp only [Kd.leaves] at hn
   obtain ⟨m,rfl⟩:∃ m,n=m+1:=⟨n - 1,by omega⟩
   obtain ⟨a',e1,s1,o1⟩:=ig a m c (2 * j) (by omega)
   obtain ⟨b',e2,s2,o2⟩:=ig b m c (2 * j+1) (by omega)
   exact ⟨.both a' b',two "both" .both a b (λ_ _=>rfl) _ _ c j a' b' e1 e2,by simp only [p0,s1,s2],λo=>⟨o1 o.1,o2 o.2⟩⟩
termination_by k=>k.leaves
decreasing_by all_goals (simp only [Kd.leaves];omega)
noncomputable def Qg:FE:=(fx (vw (qh (za 1) (za 0))))
theorem QQ(x y:List Int)(h:x.length+y.length < 64):Qg [U7 (.par (zt y)),U7 (.par (zt x))]=U7 (.ok 2 (zt (q0 ltI (x++y)))):=by
 have h1:=H0 x y (by unfold big;omega)
 have h2:=Co (x:=x++y) (by simpa using h)
 simp [Qg,fx,vw,qh,e1,e2,za,zk,h1,h2,HX]
theorem GO(x:List Int):∀ ys:List (List Int),(∀ y∈ys,x.length+y.length < 64)->AN Qg [U7 (.par (zt x))] (ys.map zt)=U7 ((vh x ys).map zt)
 | [],_=>rfl
 | y::ys,h=>by
  have h1:=QQ x y (h y (UN ..))
  have ih:=GO x ys λz hz=>h z (UQ _ hz)
  simp only [UR,AN,h1,lfR,if_true,ih,Va,vh]
noncomputable def OI:FS:=(cx 4 (Ep (xu (za 3)) [5] Qg))
theorem Ka(ys:List (List Int))(hy:ys.length<=18)(r0 r1 r2:Option Slot):∀ (xs acc:List (List Int)) (x5:Option Slot),(∀ x∈xs,∀ y∈ys,x.length+y.length < 64)->acc.length+(xs.length) * 18<=5000->
  ∃ x',qg (zw 5) OI (xs.map zt) [r0,r1,r2,U7 (.own (ys.map zt)),U7 (.own (acc.map zt)),x5]=U7 (.next [r0,r1,r2,U7 (.own (ys.map zt)),U7 (.own ((acc++jw xs ys).map zt)),x'])
 | [],acc,x5,_,_=>⟨x5,by simp [qg,jw]⟩
 | x::xs,acc,x5,h,hz=>by
  simp only [UM] at hz
  have hc:=GO x ys (h x (UN ..))
  have hl:(vh x ys).length=ys.length:=by simp [vh]
  obtain ⟨x',e⟩:=Ka ys hy r0 r1 r2 xs (acc++vh x ys) (U7 (.loc (zt x))) (λz hz=>h z (UQ _ hz)) (by rw [UC,hl];omega)
  refine ⟨x',?_⟩
  have hb:ys.length<=big:=by unfold big;omega
  have hb2:acc.length+ys.length<=big:=by unfold big;omega
  have t:OI [r0,r1,r2,U7 (.own (ys.map zt)),U7 (.own (acc.map zt)),U7 (.loc (zt x))]=U7 (.next [r0,r1,r2,U7 (.own (ys.map zt)),U7 (.own ((acc++vh x ys).map zt)),U7 (.loc (zt x))]):=by
   simp [OI,cx,Ep,xu,za,t5,hb,du,hc,zi,hl,hb2]
  simp only [UR,qg,zw,VA,VB,t]
  rw [e,wk,Vd]
theorem u7:∀ (k:Kd) (n:Nat),k.leaves < n->k.leaves<=63->Fit k->jr n [enc k]=U7 (.ok (wb (ga k)))
 | .none,n+1,_,_,_=>by
  unfold jr
  simp [qj,xi,ze,zl,eIx,e2,za,eC,zk,zi,enc,dIx,atP,ixP,asg,lf,sIf,eEq,dEq,yu,zq,ga,q9,zo,zu,lfs,wb]
 | .one,n+1,_,_,_=>by
  unfold jr
  simp [qj,xi,ze,zl,eIx,e2,za,eC,zk,zi,enc,dIx,atP,ixP,asg,lf,sIf,eEq,dEq,yu,zq,ga,q9,zm,zo,zu,lfs,wb,zt,w08,zj]
 | .name i,n+1,_,_,_=>by
  have e0:∀ xs:List U8,atP (Vb "name"::xs) 0=U7 (.str "name"):=λxs=>by simp [atP,ixP]
  have e1:atP [Vb "name",.int i] 1=U7 (.int i):=rfl
  unfold jr
  simp [qj,xi,ze,zl,eIx,e2,za,eC,zk,zi,enc,dIx,e0,e1,asg,lf,sIf,eEq,dEq,yu,zq,ga,q9,zm,zo,zu,lfs,wb,zt,w09,w10,zj]
 | .either a b,n+1,hn,h8,⟨fa,fb,hab⟩=>by
  have pa:=a.pos
  have pb:=b.pos
  simp only [Kd.leaves] at hn h8
  have ea:=u7 a n (by omega) (by omega) fa
  have eb:=u7 b n (by omega) (by omega) fb
  have la:=G3 a fa
  have lb':=G3 b fb
  have e0:atP [Vb "either",enc a,enc b] 0=U7 (.str "either"):=rfl
  have e1:atP [Vb "either",enc a,enc b] 1=U7 (enc a):=rfl
  have e2':atP [Vb "either",enc a,enc b] 2=U7 (enc b):=rfl
  have had:bz (wb (ga a)) (wb (ga b))=U7 (wb (ga a++ga b)):=by
   have:(ga a).length+(ga b).length<=big:=by unfold big;omega
   simp [bz,wb,t5,this]
  unfold jr
  simp [qj,xi,ze,zl,eIx,e2,za,eC,zk,zi,enc,dIx,e0,e1,e2',asg,lf,sIf,eEq,dEq,yu,zq,zd,zo,zu,ea,eb,jt,w01,w02,w03,zj,qh,had,ga]
 | .both a b,n+1,hn,h8,⟨fa,fb,hab⟩=>by
  have pa:=a.pos
  have pb:=b.pos
  have hbr:=um (.both a b) n (by simp only [Kd.leaves] at hn ⊢;omega)
  simp only [Kd.leaves] at hn h8
  have ea:=u7 a n (by omega) (by omega) fa
  have eb:=u7 b n (by omega) (by omega) fb
  have la:=G3 a fa
  have lb':=G3 b fb
  have e0:atP [Vb "both",enc a,enc b] 0=U7 (.str "both"):=rfl
  have e1:atP [Vb "both",enc a,enc b] 1=U7 (enc a):=rfl
  have e2':atP [Vb "both",enc a,enc b] 2=U7 (enc b):=rfl
  have hE:lf (.tuple [Vb "both",enc a,enc b])=true:=qb (.both a b)
  show qj 6 (xi (jr n) (ql n)) [enc (.both a b)]=_
  simp only [enc] at hbr
  simp only [brn] at hbr
  cases hb:(brn a || brn b) with
  | true=>
   rw [hb] at hbr
   simp [qj,xi,ze,zl,eIx,e2,za,eC,zk,zi,enc,dIx,e0,e1,e2',asg,lf,sIf,eEq,dEq,yu,zq,zd,zo,zu,hbr,jt,w04,w05,w06,w07,zj,ga,hb,q9,lfs,wb]
  | false=>
   rw [hb] at hbr
   obtain ⟨x',el⟩:=Ka (ga b) lb' (U7 (.par (enc (.both a b)))) (U7 (.loc (.str "both"))) (U7 (.loc (.list ((ga a).map zt)))) (ga a) [] UA (λx hx y hy=>by have:=Mc a x hx;have:=Mc b y hy;omega) (by simp;omega)
   have shape:xi (jr n) (ql n)=(ze (zl 1 (eIx (za 0) (eC (.int 0)))) (ze (sIf (eEq (za 1) (eC (.str "none"))) (zq (q9 [])) zj) (ze (sIf (eEq (za 1) (eC (.str "one"))) (zq (q9 [(zm [])])) zj) (ze (sIf (eEq (za 1) (eC (.str "name"))) (zq (q9 [(zm [(eIx (za 0) (eC (.int 1)))])])) zj) (ze (sIf (eEq (za 1) (eC (.str "either"))) (zq (qh (zd (jr n) [(eIx (za 0) (eC (.int 1)))]) (zd (jr n) [(eIx (za 0) (eC (.int 2)))]))) zj) (ze (sIf (zd (ql n) [(za 0)]) (zq (q9 [])) zj) (ze (zl 2 (zd (jr n) [(eIx (za 0) (eC (.int 1)))])) (ze (zl 3 (zd (jr n) [(eIx (za 0) (eC (.int 2)))])) (ze (zl 4 (q9 [])) (ze (yb 2 (zw 5) OI) (zq (za 4)))))))))))):=rfl
   rw [shape]
   simp only [enc,Y9,XG] at el
   simp only [wb] at ea eb
   simp [qj,ze,zl,eIx,e2,za,eC,zk,zi,enc,dIx,e0,e1,e2',OR,ur (t5 _),ur (show lfs []=true from rfl),sIf,eEq,dEq,yu,zq,zd,zo,zu,hbr,ea,eb,jt,w04,w05,w06,w07,zj,ga,hb,q9,lfs,yb,el,wb]
 | .none,0,h,_,_=>by omega
 | .one,0,h,_,_=>by omega
 | .name _,0,h,_,_=>by omega
 | .either a b,0,h,_,_=>by omega
 | .both a b,0,h,_,_=>by omega
theorem Cg(k:Kd)(n:Nat)(hn:k.leaves < n)(h8:k.leaves<=63)(hF:Fit k):wm (n+1) [enc k]=U7 (.ok (wb (lb k))):=by
 show qj 1 (AM (jr n)) [enc k]=_
 have e:=u7 k n hn h8 hF
 have hs:=my (rs:=ga k) (by have:=G3 k hF;omega)
 rw [Pk] at hs
 simp [qj,AM,zq,vw,e1,zd,zo,za,zu,zk,zi,e,jt,hs]
noncomputable def GS:FS:=(yz 3 (fx (vw (qh (za 4) (za 5)))))
theorem RD(r0 r1 r2:Option Slot)(acc:List U8)(x y:List Int)(h:x.length+y.length < 64)(ha:acc.length < big):
  GS [r0,r1,r2,U7 (.own acc),U7 (.loc (zt x)),U7 (.loc (zt y))]=U7 (.next [r0,r1,r2,U7 (.own (acc++[zt (q0 ltI (x++y))])),U7 (.loc (zt x)),U7 (.loc (zt y))]):=by
 have h1:=H0 x y (by unfold big;omega)
 have h2:=Co (x:=x++y) (by simpa using h)
 simp [GS,yz,fx,vw,qh,e1,e2,za,zk,zi,h1,h2,HX,lfR,ha]
theorem Kf(r0 r1 r2:Option Slot)(x:List Int):∀ (ys acc:List (List Int)) (x5:Option Slot),(∀ y∈ys,x.length+y.length < 64)->acc.length+ys.length<=5000->
  ∃ x',qg (zw 5) GS (ys.map zt) [r0,r1,r2,U7 (.own (acc.map zt)),U7 (.loc (zt x)),x5]=U7 (.next [r0,r1,r2,U7 (.own ((acc++vh x ys).map zt)),U7 (.loc (zt x)),x'])
 | [],acc,x5,_,_=>⟨x5,by simp [qg,vh]⟩
 | y::ys,acc,x5,h,hz=>by
  simp only [UM] at hz
  have t:=RD r0 r1 r2 (acc.map zt) x y (h y (UN ..)) (by unfold big;simp;omega)
  obtain ⟨x',e⟩:=Kf r0 r1 r2 x ys (acc++[q0 ltI (x++y)]) (U7 (.loc (zt y))) (λz hz=>h z (UQ _ hz)) (by simp;omega)
  refine ⟨x',?_⟩
  simp only [UR,qg,zw,VA,VB,t]
  rw [show acc.map zt++[zt (q0 ltI (x++y))]=(acc++[q0 ltI (x++y)]).map zt by simp,e]
  simp [vh]
theorem G1(r0 r1:Option Slot)(ys:List (List Int))(hy:ys.length<=18):∀ (xs acc:List (List Int)) (s2 x4 x5:Option Slot),(s2=U7 (.own (ys.map zt))∨s2=U7 (.loc (.list (ys.map zt))))->(∀ x∈xs,∀ y∈ys,x.length+y.length < 64)->acc.length+xs.length * 18<=5000->
  ∃ s2' x4' x5',qg (zw 4) (yb 2 (zw 5) GS) (xs.map zt) [r0,r1,s2,U7 (.own (acc.map zt)),x4,x5]=U7 (.next [r0,r1,s2',U7 (.own ((acc++jw xs ys).map zt)),x4',x5'])
 | [],acc,s2,x4,x5,_,_,_=>⟨s2,x4,x5,by simp [qg,jw]⟩
 | x::xs,acc,s2,x4,x5,hs,h,hz=>by
  simp only [UM] at hz
  have hl:(vh x ys).length=ys.length:=by simp [vh]
  obtain ⟨x',e⟩:=Kf r0 r1 (U7 (.loc (.list (ys.map zt)))) x ys acc x5 (h x (UN ..)) (by omega)
  obtain ⟨s2',x4',x5',e'⟩:=G1 r0 r1 ys hy xs (acc++vh x ys) (U7 (.loc (.list (ys.map zt)))) (U7 (.loc (zt x))) x' (.inr rfl) (λz hz=>h z (UQ _ hz)) (by rw [UC,hl];omega)
  refine ⟨s2',x4',x5',?_⟩
  have t:yb 2 (zw 5) GS [r0,r1,s2,U7 (.own (acc.map zt)),U7 (.loc (zt x)),x5]=U7 (.next [r0,r1,U7 (.loc (.list (ys.map zt))),U7 (.own ((acc++vh x ys).map zt)),U7 (.loc (zt x)),x']):=by
   rcases hs with rfl | rfl
   ·simpa [yb] using e
   ·simpa [yb,t5] using e
  simp only [UR,qg,zw,VA,VB,t]
  rw [e',wk,Vd]
theorem Uq:((2:Int) == 1)=false:=rfl
theorem TH:((3:Int) == 1)=false:=rfl
theorem Tx:((3:Int) == 2)=false:=rfl
theorem Hc(b:Bool):p9 (.list [.tuple []]) (.int (if b=true then 1 else 0))=U7 (.list (if b=true then [.tuple []] else [])):=by
 cases b<;>simp [p9,lfs,lf,big]
theorem g8:∀ (k:Kd) (n:Nat),k.leaves<=n->k.leaves<=63->Fit k->z8 n [enc k]=U7 (.ok (wb (lb k)))
 | .none,n+1,_,_,_=>by
  have hm:=Hc false
  simp only [WA,if_false] at hm
  unfold z8
  simp [qj,vb,ze,sIf,eEq,jd,e1,fm,e2,za,eC,zk,zi,enc,dEq,yu,zq,vj,q9,zm,zo,zu,lf,lfs,G6,eIx,dIx,atP,ixP,w11,KL,hm,wb,lb]
 | .one,n+1,_,_,_=>by
  have hm:=Hc true
  simp only [if_true] at hm
  unfold z8
  simp [qj,vb,ze,sIf,eEq,jd,e1,fm,e2,za,eC,zk,zi,enc,dEq,yu,zq,vj,q9,zm,zo,zu,lf,lfs,G6,eIx,dIx,atP,ixP,KL,hm,wb,zt,lb]
 | .name i,n+1,_,_,_=>by
  have e1':atP [Vb "name",.int i] 1=U7 (.int i):=rfl
  unfold z8
  simp [qj,vb,ze,sIf,eEq,jd,e1,fm,e2,za,eC,zk,zi,enc,dEq,yu,zq,q9,zm,zo,zu,lf,lfs,eIx,dIx,e1',zj,Uq,wb,zt,lb]
 | .either a b,n+1,hn,h8,⟨fa,fb,hab⟩=>by
  have pa:=a.pos
  have pb:=b.pos
  simp only [Kd.leaves] at hn h8
  have ea:=g8 a n (by omega) (by omega) fa
  have eb:=g8 b n (by omega) (by omega) fb
  have la:=nk a fa
  have lb':=nk b fb
  have e0:atP [Vb "either",enc a,enc b] 0=U7 (.str "either"):=rfl
  have e1':atP [Vb "either",enc a,enc b] 1=U7 (enc a):=rfl
  have e2':atP [Vb "either",enc a,enc b] 2=U7 (enc b):=rfl
  have had:bz (.list ((lb a).map zt)) (.list ((lb b).map zt))=U7 (wb (lb a++lb b)):=by
   have:(lb a).length+(lb b).length<=big:=by unfold big;omega
   simp [bz,wb,t5,this]
  have hs:=my (rs:=lb a++lb b) (by simp;omega)
  simp only [wb] at ea eb
  unfold z8
  simp [qj,vb,ze,sIf,eEq,jd,e1,fm,e2,za,eC,zk,zi,enc,dEq,yu,zq,zo,zu,eIx,dIx,e0,e1',e2',zj,TH,Tx,zl,zd,ea,eb,jt,ur (t5 _),vw,qh,had,hs,lb]
 | .both a b,n+1,hn,h8,hF=>by
  obtain ⟨fa,fb,hab⟩:=id hF
  have pa:=a.pos
  have pb:=b.pos
  have h18:=nk (.both a b) hF
  simp only [Kd.leaves] at hn h8
  have ea:=g8 a n (by omega) (by omega) fa
  have eb:=g8 b n (by omega) (by omega) fb
  have la:=nk a fa
  have lb':=nk b fb
  have e0:atP [Vb "both",enc a,enc b] 0=U7 (.str "both"):=rfl
  have e1':atP [Vb "both",enc a,enc b] 1=U7 (enc a):=rfl
  have e2':atP [Vb "both",enc a,enc b] 2=U7 (enc b):=rfl
  simp only [lb,vg] at h18
  have hs:=my (rs:=jw (lb a) (lb b)) (by omega)
  obtain ⟨s2',x4',x5',el⟩:=G1 (U7 (.par (enc (.both a b)))) (U7 (.loc (.list ((lb a).map zt)))) (lb b) lb' (lb a) [] (U7 (.own ((lb b).map zt))) UA UA (.inl rfl) (λx hx y hy=>by have:=ed a x hx;have:=ed b y hy;omega) (by simp;omega)
  simp only [enc,Y9,XG] at el
  simp only [wb] at ea eb hs
  have shape:vb (z8 n)=(ze (sIf (eEq (jd (za 0)) (eC (.int 1))) (zq (vj (q9 [(zm [])]) (G6 (eEq (eIx (za 0) (eC (.int 0))) (eC (.str "one")))))) zj) (ze (sIf (eEq (jd (za 0)) (eC (.int 2))) (zq (q9 [(zm [(eIx (za 0) (eC (.int 1)))])])) zj) (ze (zl 1 (zd (z8 n) [(eIx (za 0) (eC (.int 1)))])) (ze (zl 2 (zd (z8 n) [(eIx (za 0) (eC (.int 2)))])) (ze (sIf (eEq (eIx (za 0) (eC (.int 0))) (eC (.str "either"))) (zq (vw (qh (za 1) (za 2)))) zj) (ze (zl 3 (q9 [])) (ze (yb 1 (zw 4) (yb 2 (zw 5) GS)) (zq (vw (za 3)))))))))):=rfl
  show qj 6 (vb (z8 n)) [enc (.both a b)]=_
  rw [shape]
  have hF:∀ ρ:Rho,ρ[1]? =U7 (U7 (.own ((lb a).map zt)))->yb 1 (zw 4) (yb 2 (zw 5) GS) ρ=qg (zw 4) (yb 2 (zw 5) GS) ((lb a).map zt) (ρ.set 1 (U7 (.loc (.list ((lb a).map zt))))):=λρ h=>by
   rw [yb,h]
  simp [qj,ze,sIf,eEq,jd,e1,fm,e2,za,eC,zk,zi,enc,dEq,yu,zq,zo,zu,eIx,dIx,e0,e1',e2',zj,TH,Tx,zl,zd,ea,eb,jt,ur (t5 _),ur (show lfs []=true from rfl),w07,q9,lfs,hF,el,vw,hs,lb,wb]
 | .none,0,h,_,_=>by simp [Kd.leaves] at h
 | .one,0,h,_,_=>by simp [Kd.leaves] at h
 | .name _,0,h,_,_=>by simp [Kd.leaves] at h
 | .either a b,0,h,_,_=>by have:=a.pos;simp only [Kd.leaves] at h;omega
 | .both a b,0,h,_,_=>by have:=a.pos;simp only [Kd.leaves] at h;omega
theorem NS(n:Nat)(d:U8)(hd:∀ kvs,d≠.dict kvs:=by intro _ h;cases h):w6 (n+1) [d]=U7 (.ok (.bool (p7 .int d && !p7 .bool d))):=by
 unfold w6
 have hi:∀ t,dIs t d=U7 (.bool (p7 t d)):=λt=>by cases d<;>first | rfl | exact absurd rfl (hd _)
 cases h:p7 .int d<;>cases h2:p7 .bool d<;>simp [qj,Bo,zq,km,f9,eIs,e1,hi,za,zk,zi,h,h2,lf]
structure Jd(k:Kd):Prop where
 l:k.leaves<=15
 n:nE k<=12
 s:sE k<=40
 o:k.Ok
theorem Jd.f{k:Kd}(h:Jd k):Fit k:=Nm k (UU h.n (by decide))
theorem neS(w:Vk):dNe (.str w) (.str w)=U7 (.bool false):=by rw [Rv];simp
theorem Qy{c:FE}{a b:FS}{ρ:Rho}{l:Nat}(h:c ρ=U7 (.ok l (.bool false))):sIf c a b ρ=b ρ:=by simp only [sIf,h,zi]
theorem Od{c:FE}{a b:FS}{ρ:Rho}{l:Nat}(h:c ρ=U7 (.ok l (.bool true))):sIf c a b ρ=a ρ:=by simp only [sIf,h,zi]
theorem SV(m:Nat){a b:Kd}(ha:Jd a)(hb:Jd b)(hm:20<=m)(X Y:FS):(ze (zl 2 (zd (wm (m+3)) [(za 0)])) (ze (zl 3 (zd (wm (m+3)) [(za 1)])) (ze (sIf (eEq (za 2) (za 3)) X zj) Y))) [U7 (.par (enc a)),U7 (.par (enc b)),UA,UA]=
  if lb a=lb b then ze X Y [U7 (.par (enc a)),U7 (.par (enc b)),U7 (.own ((lb a).map zt)),U7 (.own ((lb b).map zt))] else Y [U7 (.par (enc a)),U7 (.par (enc b)),U7 (.own ((lb a).map zt)),U7 (.own ((lb b).map zt))]:=by
 have la:=ha.l;have lb':=hb.l
 have ea:wm (m+3) [enc a]=U7 (.ok (wb (lb a))):=Cg a (m+2) (by omega) (by omega) ha.f
 have eb:wm (m+3) [enc b]=U7 (.ok (wb (lb b))):=Cg b (m+2) (by omega) (by omega) hb.f
 have c1:zl 2 (zd (wm (m+3)) [(za 0)]) [U7 (.par (enc a)),U7 (.par (enc b)),UA,UA]=U7 (.next [U7 (.par (enc a)),U7 (.par (enc b)),U7 (.own ((lb a).map zt)),UA]):=by
  simp only [zl,zd,zo,za,UD,UE,zu,ea,jt,zi]
  show (asg 2 (.list ((lb a).map zt))).map _=_
  rw [ur (t5 _)];rfl
 have c2:zl 3 (zd (wm (m+3)) [(za 1)]) [U7 (.par (enc a)),U7 (.par (enc b)),U7 (.own ((lb a).map zt)),UA]=U7 (.next [U7 (.par (enc a)),U7 (.par (enc b)),U7 (.own ((lb a).map zt)),U7 (.own ((lb b).map zt))]):=by
  simp only [zl,zd,zo,za,UD,UE,zu,eb,jt,zi]
  show (asg 2 (.list ((lb b).map zt))).map _=_
  rw [ur (t5 _)];rfl
 have ceq:eEq (za 2) (za 3) [U7 (.par (enc a)),U7 (.par (enc b)),U7 (.own ((lb a).map zt)),U7 (.own ((lb b).map zt))]=U7 (.ok 2 (.bool (lb a == lb b))):=by
  have:=FK (lb a) (lb b)
  unfold wb at this
  simp only [eEq,e2,za,UD,UE,zk,dEq,this,Va]
  rfl
 rw [zv c1,zv c2]
 by_cases h:lb a=lb b
 ·have hb':(lb a == lb b)=true:=by simpa using h
  rw [hb'] at ceq
  rw [if_pos h]
  unfold ze
  rw [Od ceq]
 ·have hb':(lb a == lb b)=false:=by simpa using h
  rw [hb'] at ceq
  rw [if_neg h]
  exact zv (by rw [Qy ceq];rfl)
theorem Gv(n:Nat){a b:Kd}(ha:Jd a)(hb:Jd b)(hn:75<=n)(h:lb a=lb b):∃ r1 r2:TRow,goK a r1=U7 (pk (lb a))/\goK b r2=U7 (pk (lb a))/\r1.length<=70000/\r2.length<=70000/\vm (n+1) [enc a,enc b]=U7 (.ok (OU (.str "same") (qx [] r1) (qx [] r2))):=by
 obtain ⟨m,rfl⟩:∃ m,n=m+3:=⟨n - 3,by omega⟩
 have la:=ha.l;have lb':=hb.l
 obtain ⟨r1,q1,g1,l1⟩:=mf a (m+3) ha.s (nk a ha.f) (by omega)
 obtain ⟨r2,q2,g2,l2⟩:=mf b (m+3) hb.s (nk b hb.f) (by omega)
 rw [<- h] at g2
 refine ⟨r1,r2,g1,g2,l1,l2,?_⟩
 have x1:zd (ji (m+3)) [(za 0)] [U7 (.par (enc a)),U7 (.par (enc b)),U7 (.own ((lb a).map zt)),U7 (.own ((lb b).map zt))]=U7 (.ok 2 (.list (qx [] r1))):=by
  simp only [zd,zo,za,UD,UE,zu,q1,jt]
 have x2:zd (ji (m+3)) [(za 1)] [U7 (.par (enc a)),U7 (.par (enc b)),U7 (.own ((lb a).map zt)),U7 (.own ((lb b).map zt))]=U7 (.ok 2 (.list (qx [] r2))):=by
  simp only [zd,zo,za,UD,UE,zu,q2,jt]
 have hd:Mt (eC (.str "same")) (zd (ji (m+3)) [(za 0)]) (zd (ji (m+3)) [(za 1)]) [U7 (.par (enc a)),U7 (.par (enc b)),U7 (.own ((lb a).map zt)),U7 (.own ((lb b).map zt))]=U7 (.ok 2 (OU (.str "same") (qx [] r1) (qx [] r2))):=by
  simp only [Mt,eC,x1,x2,zk]
  rw [if_pos (by simp [lf,Mr])]
 show qj 4 (GV (ya (m+3)) (ji (m+3)) (wm (m+3))) [enc a,enc b]=_
 refine ky ?_
 show (ze (zl 2 (zd (wm (m+3)) [(za 0)])) (ze (zl 3 (zd (wm (m+3)) [(za 1)])) (ze (sIf (eEq (za 2) (za 3)) (zq (Mt (eC (.str "same")) (zd (ji (m+3)) [(za 0)]) (zd (ji (m+3)) [(za 1)]))) zj) _))) [U7 (.par (enc a)),U7 (.par (enc b)),UA,UA]=_
 rw [SV m ha hb (by omega),if_pos h]
 refine J1 ?_
 simp only [zq,hd,zi]
 rfl
theorem Do(n:Nat){a b:Kd}(ha:Jd a)(hb:Jd b)(hn:75<=n)(h:lb a≠lb b):∃ z:Sz,z.In 0 20/\cnt z a≠cnt z b/\vm (n+1) [enc a,enc b]=U7 (.ok (.tuple [.str "unlike",bx z])):=by
 obtain ⟨m,rfl⟩:∃ m,n=m+3:=⟨n - 3,by omega⟩
 have la:=ha.l;have lb':=hb.l
 have rsa:∀ x∈lb a,Rs x/\x.length<=20:=λx hx=>⟨M7 (Ci a x hx),UU (ed a x hx) (by omega)⟩
 have rsb:∀ x∈lb b,Rs x/\x.length<=20:=λx hx=>⟨M7 (Ci b x hx),UU (ed b x hx) (by omega)⟩
 have l1:=nk a ha.f;have l2:=nk b hb.f
 obtain ⟨ss,h4,h20,hw,q⟩:=Iy m (lb a) (lb b) (by omega) rsa rsb (λp=>h (PH p))
 match ss,h4,h20,hw,q with
 | [s0,s1,s2,s3],_,h20,hw,q=>
  have b0:=h20 s0 (by simp);have b1:=h20 s1 (by simp);have b2:=h20 s2 (by simp);have b3:=h20 s3 (by simp)
  refine ⟨⟨s0,s1,s2,s3⟩,?_,?_,ky ?_⟩
  ·refine ⟨⟨?_,?_⟩,⟨?_,?_⟩,⟨?_,?_⟩,?_,?_⟩<;>dsimp only<;>omega
  ·rw [AD,AD]
   exact Nv _ rfl rfl rfl rfl rsa rsb (AB a ha.o) (AB b hb.o) hw
  show (ze (zl 2 (zd (wm (m+3)) [(za 0)])) (ze (zl 3 (zd (wm (m+3)) [(za 1)])) (ze (sIf (eEq (za 2) (za 3)) _ zj) (zq (zm [(eC (.str "unlike")),(zd (ya (m+3)) [(za 2),(za 3)])]))))) [U7 (.par (enc a)),U7 (.par (enc b)),UA,UA]=_
  rw [SV m ha hb (by omega),if_neg h]
  simp only [zq,zm,zo,eC,zd,za,UD,UE,zu,q,jt,zi]
  rfl
noncomputable def t8:U8:=.tuple [.str "turn",.tuple []]
noncomputable def Mb(gb gg gj gp:FC):FS:=(ze (sIf (eOr (eNe (eIx (za 2) (eC (.int 0))) (eC (.str "same"))) (eNe (jd (za 2)) (eC (.int 3)))) (zq (eC (.bool false))) zj) (ze (zl 3 (zd gp [(zd gb [(za 0)])])) (ze (sIf (eOr (eNe (zd gg [(za 0),(eIx (za 2) (eC (.int 1)))]) (za 3)) (eNe (zd gg [(za 1),(eIx (za 2) (eC (.int 2)))]) (za 3))) (zq (eC (.bool false))) zj) (ze (zl 4 (jd (eIx (za 2) (eC (.int 2))))) (ze (ux true 2 (zm [(eC (.str "turn")),(zm [])])) (ze (sIf (eNe (jd (eIx (za 2) (eC (.int 2)))) (za 4)) (zq (eC (.bool false))) zj) (ze (ux false 2 (zm [(eC (.str "turn")),(zm [])])) (ze (nu 5 (zd gj [(za 0),(za 1)])) (zq (km (eEq (zd gg [(za 0),(eIx (za 5) (eC (.int 1)))]) (za 3)) (eEq (zd gg [(za 1),(eIx (za 5) (eC (.int 2)))]) (za 3))))))))))))
theorem Oh(gb gg gj gp:FC)(a b c:Kd)(R1 R2:List U8)(L:U8)(hj:gj [enc a,enc b]=U7 (.ok (OU (.str "same") R1 R2)))(hb:gb [enc a]=U7 (.ok L))(hp:gp [L]=U7 (.ok (enc c)))(h1:gg [enc a,.list R1]=U7 (.ok (enc c)))(h2:gg [enc b,.list R2]=U7 (.ok (enc c)))
  (hq:yu (enc c) (enc c)=U7 true) (b1:R1.length+1 < big) (b2:R2.length+1 < big) (r6:Option Slot):
  Mb gb gg gj gp [U7 (.par (enc a)),U7 (.par (enc b)),U7 (.duo (.str "same") R1 R2),UA,UA,UA,r6]=U7 (.ret (.bool true)):=by
 have hne:dNe (enc c) (enc c)=U7 (.bool false):=by unfold dNe;rw [hq];rfl
 have heq:dEq (enc c) (enc c)=U7 (.bool true):=by unfold dEq;rw [hq];rfl
 have lc:=qb c
 have x0:∀ (S T:List U8),dIx (.tuple [.str "same",.list S,.list T]) (.int 0)=U7 (.str "same"):=λ_ _=>rfl
 have x1:∀ (S T:List U8),dIx (.tuple [.str "same",.list S,.list T]) (.int 1)=U7 (.list S):=λ_ _=>rfl
 have x2:∀ (S T:List U8),dIx (.tuple [.str "same",.list S,.list T]) (.int 2)=U7 (.list T):=λ_ _=>rfl
 have xl:∀ (S T:List U8),fm (.tuple [.str "same",.list S,.list T])=U7 (.int 3):=λ_ _=>rfl
 have n3:dNe (.int 3) (.int 3)=U7 (.bool false):=rfl
 have nl:∀ i:Int,dNe (.int i) (.int i)=U7 (.bool false):=λi=>by rw [QL];simp
 have c1:(sIf (eOr (eNe (eIx (za 2) (eC (.int 0))) (eC (.str "same"))) (eNe (jd (za 2)) (eC (.int 3)))) (zq (eC (.bool false))) zj) [U7 (.par (enc a)),U7 (.par (enc b)),U7 (.duo (.str "same") R1 R2),UA,UA,UA,r6]=U7 (.next [U7 (.par (enc a)),U7 (.par (enc b)),U7 (.duo (.str "same") R1 R2),UA,UA,UA,r6]):=by
  simp only [sIf,eOr,eNe,e2,eIx,za,eC,jd,e1,zk,zi,UD,UE,x0,xl,neS,n3,Va,zj]
 have c2:(zl 3 (zd gp [(zd gb [(za 0)])])) [U7 (.par (enc a)),U7 (.par (enc b)),U7 (.duo (.str "same") R1 R2),UA,UA,UA,r6]=U7 (.next [U7 (.par (enc a)),U7 (.par (enc b)),U7 (.duo (.str "same") R1 R2),U7 (.loc (enc c)),UA,UA,r6]):=by
  simp [zl,zd,zo,za,zu,zi,hb,hp,jt,asg,lc]
 have c3:(sIf (eOr (eNe (zd gg [(za 0),(eIx (za 2) (eC (.int 1)))]) (za 3)) (eNe (zd gg [(za 1),(eIx (za 2) (eC (.int 2)))]) (za 3))) (zq (eC (.bool false))) zj) [U7 (.par (enc a)),U7 (.par (enc b)),U7 (.duo (.str "same") R1 R2),U7 (.loc (enc c)),UA,UA,r6]=U7 (.next [U7 (.par (enc a)),U7 (.par (enc b)),U7 (.duo (.str "same") R1 R2),U7 (.loc (enc c)),UA,UA,r6]):=by
  simp only [sIf,eOr,eNe,e2,eIx,zd,zo,za,eC,zk,zu,zi,jt,UD,UE,x1,x2,h1,h2,hne,Va,zj]
 have c4:(zl 4 (jd (eIx (za 2) (eC (.int 2))))) [U7 (.par (enc a)),U7 (.par (enc b)),U7 (.duo (.str "same") R1 R2),U7 (.loc (enc c)),UA,UA,r6]=U7 (.next [U7 (.par (enc a)),U7 (.par (enc b)),U7 (.duo (.str "same") R1 R2),U7 (.loc (enc c)),U7 (.loc (.int R2.length)),UA,r6]):=by
  simp [zl,jd,e1,eIx,e2,za,eC,zk,zi,x2,fm,asg,lf]
 have et:∀ ρ:Rho,zm [(eC (.str "turn")),(zm [])] ρ=U7 (.ok 2 t8):=λ_=>rfl
 have lt:lf t8=true:=rfl
 have c5:(ux true 2 (zm [(eC (.str "turn")),(zm [])])) [U7 (.par (enc a)),U7 (.par (enc b)),U7 (.duo (.str "same") R1 R2),U7 (.loc (enc c)),U7 (.loc (.int R2.length)),UA,r6]=U7 (.next [U7 (.par (enc a)),U7 (.par (enc b)),U7 (.duo (.str "same") (R1++[t8]) R2),U7 (.loc (enc c)),U7 (.loc (.int R2.length)),UA,r6]):=by
  simp only [ux,UD,UE,et,zi]
  rw [if_pos (by simp only [lt,XQ,Ve,decide_eq_true_eq];omega)]
  rfl
 have c6:(sIf (eNe (jd (eIx (za 2) (eC (.int 2)))) (za 4)) (zq (eC (.bool false))) zj) [U7 (.par (enc a)),U7 (.par (enc b)),U7 (.duo (.str "same") (R1++[t8]) R2),U7 (.loc (enc c)),U7 (.loc (.int R2.length)),UA,r6]=U7 (.next [U7 (.par (enc a)),U7 (.par (enc b)),U7 (.duo (.str "same") (R1++[t8]) R2),U7 (.loc (enc c)),U7 (.loc (.int R2.length)),UA,r6]):=by
  simp only [sIf,eNe,e2,jd,e1,eIx,za,eC,zk,zi,UD,UE,x2,fm,nl,Va,zj]
 have c7:(ux false 2 (zm [(eC (.str "turn")),(zm [])])) [U7 (.par (enc a)),U7 (.par (enc b)),U7 (.duo (.str "same") (R1++[t8]) R2),U7 (.loc (enc c)),U7 (.loc (.int R2.length)),UA,r6]=U7 (.next [U7 (.par (enc a)),U7 (.par (enc b)),U7 (.duo (.str "same") (R1++[t8]) (R2++[t8])),U7 (.loc (enc c)),U7 (.loc (.int R2.length)),UA,r6]):=by
  simp only [ux,UD,UE,et,zi]
  rw [if_pos (by simp only [lt,XQ,Ve,decide_eq_true_eq,UC,UX];omega)]
  rfl
 have c8:(nu 5 (zd gj [(za 0),(za 1)])) [U7 (.par (enc a)),U7 (.par (enc b)),U7 (.duo (.str "same") (R1++[t8]) (R2++[t8])),U7 (.loc (enc c)),U7 (.loc (.int R2.length)),UA,r6]=U7 (.next [U7 (.par (enc a)),U7 (.par (enc b)),U7 (.duo (.str "same") (R1++[t8]) (R2++[t8])),U7 (.loc (enc c)),U7 (.loc (.int R2.length)),U7 (.duo (.str "same") R1 R2),r6]):=by
  simp only [nu,zd,zo,za,zu,zi,jt,UD,UE,hj]
  rfl
 have c9:(zq (km (eEq (zd gg [(za 0),(eIx (za 5) (eC (.int 1)))]) (za 3)) (eEq (zd gg [(za 1),(eIx (za 5) (eC (.int 2)))]) (za 3)))) [U7 (.par (enc a)),U7 (.par (enc b)),U7 (.duo (.str "same") (R1++[t8]) (R2++[t8])),U7 (.loc (enc c)),U7 (.loc (.int R2.length)),U7 (.duo (.str "same") R1 R2),r6]=U7 (.ret (.bool true)):=by
  simp only [zq,km,eEq,e2,eIx,zd,zo,za,eC,zk,zu,zi,jt,UD,UE,x1,x2,h1,h2,heq,Va]
  rfl
 unfold Mb
 rw [zv c1,zv c2,zv c3,zv c4,zv c5,zv c6,zv c7,zv c8,c9]
noncomputable def On(gw:FC):FS:=(sIf (eOr (f9 (zd gw [(za 6)])) (f9 (CV dLe dLe (eC (.int 0)) (za 6) (eC (.int 20))))) (zq (eC (.bool false))) zj)
noncomputable def rUn(gc gw:FC):FS:=(ze (sIf (eOr (eNe (eIx (za 2) (eC (.int 0))) (eC (.str "unlike"))) (eOr (eNe (jd (za 2)) (eC (.int 2))) (eOr (f9 (eIs .tuple (eIx (za 2) (eC (.int 1))))) (eNe (jd (eIx (za 2) (eC (.int 1)))) (eC (.int 4)))))) (zq (eC (.bool false))) zj) (ze (ye (xu (eIx (za 2) (eC (.int 1)))) (zw 6) (On gw)) (zq (eNe (zd gc [(za 0),(eIx (za 2) (eC (.int 1)))]) (zd gc [(za 1),(eIx (za 2) (eC (.int 1)))])))))
theorem QW(gc gw:FC)(a b:Kd)(z:Sz)(hz:z.In 0 20)(hw:∀ i:Int,gw [.int i]=U7 (.ok (.bool true)))(ca:gc [enc a,bx z]=U7 (.ok (.int (cnt z a))))(cb:gc [enc b,bx z]=U7 (.ok (.int (cnt z b))))(hne:cnt z a≠cnt z b)(r3 r4 r5 r6:Option Slot):
  rUn gc gw [U7 (.par (enc a)),U7 (.par (enc b)),U7 (.loc (.tuple [.str "unlike",bx z])),r3,r4,r5,r6]=U7 (.ret (.bool true)):=by
 have x0:dIx (.tuple [.str "unlike",bx z]) (.int 0)=U7 (.str "unlike"):=rfl
 have x1:dIx (.tuple [.str "unlike",bx z]) (.int 1)=U7 (bx z):=rfl
 have xl:fm (.tuple [.str "unlike",bx z])=U7 (.int 2):=rfl
 have xs:fm (bx z)=U7 (.int 4):=rfl
 have xt:dIs .tuple (bx z)=U7 (.bool true):=rfl
 have n2:dNe (.int 2) (.int 2)=U7 (.bool false):=rfl
 have n4:dNe (.int 4) (.int 4)=U7 (.bool false):=rfl
 have c1:(sIf (eOr (eNe (eIx (za 2) (eC (.int 0))) (eC (.str "unlike"))) (eOr (eNe (jd (za 2)) (eC (.int 2))) (eOr (f9 (eIs .tuple (eIx (za 2) (eC (.int 1))))) (eNe (jd (eIx (za 2) (eC (.int 1)))) (eC (.int 4)))))) (zq (eC (.bool false))) zj) [U7 (.par (enc a)),U7 (.par (enc b)),U7 (.loc (.tuple [.str "unlike",bx z])),r3,r4,r5,r6]=U7 (.next [U7 (.par (enc a)),U7 (.par (enc b)),U7 (.loc (.tuple [.str "unlike",bx z])),r3,r4,r5,r6]):=by
  simp only [sIf,eOr,f9,eIs,eNe,e2,eIx,za,eC,jd,e1,zk,zi,UD,UE,x0,x1,xl,xs,xt,neS,n2,n4,Va,zj,Bool.not_true]
 have bod:∀ (i:Int) (r3 r4 r5:Option Slot),0<=i/\i<=20->On gw [U7 (.par (enc a)),U7 (.par (enc b)),U7 (.loc (.tuple [.str "unlike",bx z])),r3,r4,r5,U7 (.loc (.int i))]=U7 (.next [U7 (.par (enc a)),U7 (.par (enc b)),U7 (.loc (.tuple [.str "unlike",bx z])),r3,r4,r5,U7 (.loc (.int i))]):=λi r3 r4 r5 hi=>by
  have d1:decide (0<=i)=true:=by simpa using hi.1
  have d2:decide (i<=20)=true:=by simpa using hi.2
  simp only [On,sIf,eOr,f9,CV,zd,zo,za,eC,zk,zu,zi,jt,UD,UE,hw,dLe,d1,d2,Va,zj,Bool.not_true]
 have c2:(ye (xu (eIx (za 2) (eC (.int 1)))) (zw 6) (On gw)) [U7 (.par (enc a)),U7 (.par (enc b)),U7 (.loc (.tuple [.str "unlike",bx z])),r3,r4,r5,r6]=U7 (.next [U7 (.par (enc a)),U7 (.par (enc b)),U7 (.loc (.tuple [.str "unlike",bx z])),r3,r4,r5,U7 (.loc (.int z.a3))]):=by
  have hi:(xu (eIx (za 2) (eC (.int 1)))) [U7 (.par (enc a)),U7 (.par (enc b)),U7 (.loc (.tuple [.str "unlike",bx z])),r3,r4,r5,r6]=U7 (.ok 2 [.int z.a0,.int z.a1,.int z.a2,.int z.a3]):=by
   simp only [xu,eIx,e2,za,eC,zk,UD,UE,x1,Va]
   rfl
  unfold ye
  rw [hi]
  show qg (zw 6) _ _ _=_
  rw [xg rfl (bod z.a0 r3 r4 r5 hz.1),xg rfl (bod z.a1 r3 r4 r5 hz.2.1),xg rfl (bod z.a2 r3 r4 r5 hz.2.2.1),xg rfl (bod z.a3 r3 r4 r5 hz.2.2.2)]
  rfl
 have c3:(zq (eNe (zd gc [(za 0),(eIx (za 2) (eC (.int 1)))]) (zd gc [(za 1),(eIx (za 2) (eC (.int 1)))]))) [U7 (.par (enc a)),U7 (.par (enc b)),U7 (.loc (.tuple [.str "unlike",bx z])),r3,r4,r5,U7 (.loc (.int z.a3))]=U7 (.ret (.bool true)):=by
  have hq:dNe (.int (cnt z a)) (.int (cnt z b))=U7 (.bool true):=by rw [QL];simp [hne]
  simp only [zq,eNe,e2,eIx,zd,zo,za,eC,zk,zu,zi,jt,UD,UE,x1,ca,cb,hq,Va]
  rfl
 unfold rUn
 rw [zv c1,zv c2,c3]
theorem N4:∀ k:Kd,Vf (enc k) (enc k)=true
 | .none=>by simp [enc,Vf,VF]
 | .one=>by simp [enc,Vf,VF]
 | .name i=>by simp [enc,Vf,VF]
 | .either a b=>by simp [enc,Vf,VF,N4 a,N4 b]
 | .both a b=>by simp [enc,Vf,VF,N4 a,N4 b]
theorem OZ(k:Kd)(h:sE k<=40):yu (enc k) (enc k)=U7 true:=by
 have hd:(enc k).depth<=60:=UU (aa k) (UU (yo k) (by omega))
 have h1:dh (enc k) (enc k)=true:=by simp [dh,pf,hd]
 have h2:Vf (enc k) (enc k)=true:=N4 k
 cases k<;>simp only [enc] at h1 h2 ⊢<;>simp only [yu,h1,h2,if_true]
theorem HD(n:Nat){a b:Kd}(ha:Jd a)(hb:Jd b)(hn:75<=n):w8 (n+2) [enc a,enc b]=U7 (.ok (.bool true)):=by
 have la:=ha.l;have lb':=hb.l
 have e:m7 (jq (n+1)) (w6 (n+1)) (z8 (n+1)) (vc (n+1)) (vm (n+1)) (y9 (n+1))=(ze (nu 2 (zd (vm (n+1)) [(za 0),(za 1)])) (ze (sIf (eOr (f9 (eIs .tuple (za 2))) (eLt (jd (za 2)) (eC (.int 2)))) (zq (eC (.bool false))) zj) (ze (sIf (eEq (zd (z8 (n+1)) [(za 0)]) (zd (z8 (n+1)) [(za 1)])) (Mb (z8 (n+1)) (vc (n+1)) (vm (n+1)) (y9 (n+1))) zj) (rUn (jq (n+1)) (w6 (n+1)))))):=rfl
 have ea:=g8 a (n+1) (by omega) (by omega) ha.f
 have eb:=g8 b (n+1) (by omega) (by omega) hb.f
 have hq:dEq (wb (lb a)) (wb (lb b))=U7 (.bool (lb a == lb b)):=by unfold dEq;rw [FK];rfl
 unfold w8
 refine ky ?_
 show m7 (jq (n+1)) (w6 (n+1)) (z8 (n+1)) (vc (n+1)) (vm (n+1)) (y9 (n+1)) [U7 (.par (enc a)),U7 (.par (enc b)),UA,UA,UA,UA,UA]=_
 rw [e]
 by_cases h:lb a=lb b
 ·obtain ⟨r1,r2,g1,g2,l1,l2,q⟩:=Gv n ha hb hn h
  have c1:nu 2 (zd (vm (n+1)) [(za 0),(za 1)]) [U7 (.par (enc a)),U7 (.par (enc b)),UA,UA,UA,UA,UA]=U7 (.next [U7 (.par (enc a)),U7 (.par (enc b)),U7 (.duo (.str "same") (qx [] r1) (qx [] r2)),UA,UA,UA,UA]):=by
   simp only [nu,zd,zo,za,zu,zi,jt,UD,UE,q]
   rfl
  have hrow:∀ r∈lb a,r.length<=63:=λr hr=>by have:=ed a r hr;omega
  have hpl:=Le n (lb a) hrow (by have:=nk a ha.f;omega)
  obtain ⟨m,rfl⟩:∃ m,n=m+41:=⟨n - 41,by omega⟩
  have k1:=Bj m a (pk (lb a)) r1 g1 ha.s
  have k2:=Bj m b (pk (lb a)) r2 g2 hb.s
  have hs2:sE (pk (lb a))<=40:=UU (LM _ _ _ g1) ha.s
  have big0:big=100000:=rfl
  have w1:=yc [] r1;have w2:=yc [] r2
  generalize qx [] r1=R1 at *
  generalize qx [] r2=R2 at *
  have c2:(sIf (eOr (f9 (eIs .tuple (za 2))) (eLt (jd (za 2)) (eC (.int 2)))) (zq (eC (.bool false))) zj) [U7 (.par (enc a)),U7 (.par (enc b)),U7 (.duo (.str "same") R1 R2),UA,UA,UA,UA]=U7 (.next [U7 (.par (enc a)),U7 (.par (enc b)),U7 (.duo (.str "same") R1 R2),UA,UA,UA,UA]):=rfl
  have c3:=Oh (z8 (m+41+1)) (vc (m+41+1)) (vm (m+41+1)) (y9 (m+41+1)) a b (pk (lb a)) R1 R2 (wb (lb a)) q ea hpl k1 k2 (OZ _ hs2) (by omega) (by omega) UA
  rw [zv c1,zv c2]
  refine J1 ?_
  have hb':(lb a == lb b)=true:=by simpa using h
  rw [hb'] at hq
  have ce:eEq (zd (z8 (m+41+1)) [(za 0)]) (zd (z8 (m+41+1)) [(za 1)]) [U7 (.par (enc a)),U7 (.par (enc b)),U7 (.duo (.str "same") R1 R2),UA,UA,UA,UA]=U7 (.ok 2 (.bool true)):=by
   simp only [eEq,e2,zd,zo,za,zk,zu,jt,UD,UE,ea,eb,hq,Va]
   rfl
  rw [Od ce]
  exact c3
 ·obtain ⟨z,hz,hne,q⟩:=Do n ha hb hn h
  have c1:nu 2 (zd (vm (n+1)) [(za 0),(za 1)]) [U7 (.par (enc a)),U7 (.par (enc b)),UA,UA,UA,UA,UA]=U7 (.next [U7 (.par (enc a)),U7 (.par (enc b)),U7 (.loc (.tuple [.str "unlike",bx z])),UA,UA,UA,UA]):=by
   simp only [nu,zd,zo,za,zu,zi,jt,UD,UE,q]
   rfl
  have c2:(sIf (eOr (f9 (eIs .tuple (za 2))) (eLt (jd (za 2)) (eC (.int 2)))) (zq (eC (.bool false))) zj) [U7 (.par (enc a)),U7 (.par (enc b)),U7 (.loc (.tuple [.str "unlike",bx z])),UA,UA,UA,UA]=U7 (.next [U7 (.par (enc a)),U7 (.par (enc b)),U7 (.loc (.tuple [.str "unlike",bx z])),UA,UA,UA,UA]):=rfl
  have hb':(lb a == lb b)=false:=by simpa using h
  rw [hb'] at hq
  have ce:eEq (zd (z8 (n+1)) [(za 0)]) (zd (z8 (n+1)) [(za 1)]) [U7 (.par (enc a)),U7 (.par (enc b)),U7 (.loc (.tuple [.str "unlike",bx z])),UA,UA,UA,UA]=U7 (.ok 2 (.bool false)):=by
   simp only [eEq,e2,zd,zo,za,zk,zu,jt,UD,UE,ea,eb,hq,Va]
   rfl
  have hw:∀ i:Int,w6 (n+1) [.int i]=U7 (.ok (.bool true)):=λi=>NS n (.int i)
  rw [zv c1,zv c2,zv (show _=U7 (RS.next _) from Qy ce)]
  exact QW (jq (n+1)) (w6 (n+1)) a b z hz hw (eh hz a (n+1) (by omega) (by omega) ha.o) (eh hz b (n+1) (by omega) (by omega) hb.o) hne UA UA UA UA
noncomputable def xx(k:Kd):Nat->Kd
 | 0=>k
 | m+1=>.either k (xx k m)
theorem DH(k:Kd)(r1:Option Slot):∀ (ds:List U8) (m:Nat) (r3:Option Slot),∃ r3',qg (zw 3) (zl 2 (zm [(eC (.str "either")),(za 0),(za 2)])) ds [U7 (.par (enc k)),r1,U7 (.loc (enc (xx k m))),r3]=U7 (.next [U7 (.par (enc k)),r1,U7 (.loc (enc (xx k (m+ds.length)))),r3'])
 | [],m,r3=>⟨r3,rfl⟩
 | d::ds,m,r3=>by
  obtain ⟨r3',q⟩:=DH k r1 ds (m+1) (U7 (.loc d))
  refine ⟨r3',?_⟩
  have s:(zl 2 (zm [(eC (.str "either")),(za 0),(za 2)])) [U7 (.par (enc k)),r1,U7 (.loc (enc (xx k m))),U7 (.loc d)]=U7 (.next [U7 (.par (enc k)),r1,U7 (.loc (enc (xx k (m+1)))),U7 (.loc d)]):=by
   have l1:=qb (xx k (m+1))
   simp only [xx,enc] at l1
   simp [zl,zm,zo,za,eC,zu,zi,asg,l1,xx,enc]
  rw [xg rfl s,q,UM,Nat.add_assoc,Nat.add_comm 1]
theorem JC(n:Nat)(k:Kd)(m:Nat)(hm:m<=1000):v8 (n+1) [enc k,.int ((m+1:Nat):Int)]=U7 (.ok (enc (xx k m))):=by
 have lk:=qb k
 have ls:=qb (xx k m)
 obtain ⟨r3,q⟩:=DH k (U7 (.par (.int ((m+1:Nat):Int)))) (fy m) 0 UA
 rw [show (fy m).length=m by simp [fy],Nat.zero_add] at q
 have c1:zl 2 (za 0) [U7 (.par (enc k)),U7 (.par (.int ((m+1:Nat):Int))),UA,UA]=U7 (.next [U7 (.par (enc k)),U7 (.par (.int ((m+1:Nat):Int))),U7 (.loc (enc (xx k 0))),UA]):=by
  simp [zl,za,zi,asg,lk,xx]
 have c2:ye (iR1 (iz (za 1) (eC (.int 1)))) (zw 3) (zl 2 (zm [(eC (.str "either")),(za 0),(za 2)])) [U7 (.par (enc k)),U7 (.par (.int ((m+1:Nat):Int))),U7 (.loc (enc (xx k 0))),UA]=U7 (.next [U7 (.par (enc k)),U7 (.par (.int ((m+1:Nat):Int))),U7 (.loc (enc (xx k m))),r3]):=by
  have hi:iR1 (iz (za 1) (eC (.int 1))) [U7 (.par (enc k)),U7 (.par (.int ((m+1:Nat):Int))),U7 (.loc (enc (xx k 0))),UA]=U7 (.ok 2 (fy m)):=by
   have e:((m+1:Nat):Int) - 1=(m:Int):=by omega
   have hb:((m:Int)).natAbs<=big:=by have:big=100000:=rfl;omega
   simp only [iR1,iz,e2,za,eC,zk,UD,UE,IP,e,Va,hb,if_true,Int.toNat_natCast]
  unfold ye
  rw [hi]
  exact q
 unfold v8
 refine ky ?_
 show (ze (zl 2 (za 0)) (ze (ye (iR1 (iz (za 1) (eC (.int 1)))) (zw 3) (zl 2 (zm [(eC (.str "either")),(za 0),(za 2)]))) (zq (za 2)))) [U7 (.par (enc k)),U7 (.par (.int ((m+1:Nat):Int))),UA,UA]=_
 rw [zv c1,zv c2]
 simp [zq,za,zi,ls]
noncomputable def sqK(i:Int):Kd:=.both (.name i) (.name i)
noncomputable def Ia(i:Int):Kd:=.both (sqK i) (.either (sqK i) (xx .one 10))
noncomputable def KD(i:Int):Kd:=.both (xx (.name i) 5) (.either (sqK i) .one)
theorem Sn(n:Nat)(i:Int):vp (n+2) [enc (.name i)]=U7 (.ok (.tuple [enc (Ia i),enc (KD i)])):=by
 have s1:=JC n .one 10 (by decide)
 have s2:=JC n (.name i) 5 (by decide)
 simp only [Yt,XF] at s1 s2
 have l1:=qb (sqK i);have l2:=qb (Ia i);have l3:=qb (KD i)
 have eo:enc .one= .tuple [.str "one"]:=rfl
 have e1':enc (sqK i)= .tuple [.str "both",enc (.name i),enc (.name i)]:=rfl
 have e2':enc (Ia i)= .tuple [.str "both",enc (sqK i),.tuple [.str "either",enc (sqK i),enc (xx .one 10)]]:=rfl
 have e3':enc (KD i)= .tuple [.str "both",enc (xx (.name i) 5),.tuple [.str "either",enc (sqK i),enc .one]]:=rfl
 rw [eo] at s1
 have c1:zl 1 (zm [(eC (.str "both")),(za 0),(za 0)]) [U7 (.par (enc (.name i))),UA,UA]=U7 (.next [U7 (.par (enc (.name i))),U7 (.loc (enc (sqK i))),UA]):=by
  rw [e1'] at l1 ⊢
  simp only [zl,zm,zo,za,eC,zu,zi,UD,UE,asg,l1,if_true,Va]
  rfl
 have c2:zl 2 (zm [(eC (.str "both")),(za 1),(zm [(eC (.str "either")),(za 1),(zd (v8 (n+1)) [(zm [(eC (.str "one"))]),(eC (.int 11))])])]) [U7 (.par (enc (.name i))),U7 (.loc (enc (sqK i))),UA]=U7 (.next [U7 (.par (enc (.name i))),U7 (.loc (enc (sqK i))),U7 (.loc (enc (Ia i)))]):=by
  rw [e2'] at l2 ⊢
  simp only [zl,zm,zo,za,eC,zd,zu,zi,UD,UE,s1,jt,asg,l2,if_true,Va]
  rfl
 unfold vp
 refine ky ?_
 show (ze (zl 1 (zm [(eC (.str "both")),(za 0),(za 0)])) (ze (zl 2 (zm [(eC (.str "both")),(za 1),(zm [(eC (.str "either")),(za 1),(zd (v8 (n+1)) [(zm [(eC (.str "one"))]),(eC (.int 11))])])])) (zq (zm [(za 2),(zm [(eC (.str "both")),(zd (v8 (n+1)) [(za 0),(eC (.int 6))]),(zm [(eC (.str "either")),(za 1),(zm [(eC (.str "one"))])])])])))) [U7 (.par (enc (.name i))),UA,UA]=_
 rw [zv c1,zv c2,e3',eo]
 rw [e3',eo] at l3
 simp only [zq,zm,zo,za,eC,zd,zu,zi,UD,UE,s2,jt]
 rw [if_pos (by simp [lf,lfs,l2,l3])]
theorem OK{i:Int}(h0:0<=i)(h3:i<=3):Jd (Ia i):=⟨UI 15,UI 12,by show 37<=40;decide,⟨⟨h0,h3⟩,h0,h3⟩,⟨⟨h0,h3⟩,h0,h3⟩,by simp [xx,Kd.Ok]⟩
theorem PU{i:Int}(h0:0<=i)(h3:i<=3):Jd (KD i):=⟨by show 9<=15;decide,UI 12,by show 30<=40;decide,by simp [xx,Kd.Ok,h0,h3],⟨⟨h0,h3⟩,h0,h3⟩,trivial⟩
theorem NA(ns:List Int)(_:ns.length<=63):Er 80 [.list (ns.map .int)]=U7 (.ok (.bool true)):=by
 show qj 4 (Kx (w8 79) (z7 79) (vp 79) (jj 79) (j6 79) (w4 79)) [.list (ns.map .int)]=_
 have c0:=i6 77 ns 0
 have c1:=i6 77 ns 1
 have c12:=i6 77 ns 12
 have c13:=i6 77 ns 13
 have c14:=i6 77 ns 14
 simp only [Yt,XF] at c0 c1 c12 c13 c14
 generalize kq ns 0=v0 at c0
 generalize kq ns 1=v1 at c1
 generalize kq ns 12=v12 at c12
 generalize kq ns 13=v13 at c13
 generalize kq ns 14=v14 at c14
 obtain ⟨a,ek,oa,la⟩:=BA 8 78 v0 (1+v1 % 5) 1 (by omega) (by omega)
 obtain ⟨c,ec,oc,lc⟩:=BA 8 78 v12 (1+v13 % 5) 1 (by omega) (by omega)
 have hl5:a.leaves<=5:=by omega
 have hc5:c.leaves<=5:=by omega
 have tb5:∀ i:Nat,i<=5->TS i<=14/\TN i<=6:=by
  intro i h
  have:i=0∨i=1∨i=2∨i=3∨i=4∨i=5:=by omega
  rcases this with rfl | rfl | rfl | rfl | rfl | rfl<;>decide
 have jOf:∀ k:Kd,sE k<=14->nE k<=6->k.Ok->Jd k:=λk h1 h2 h3=>⟨by have:=yo k;omega,by omega,by omega,h3⟩
 have sa:sE a<=14:=UU (Ga a (by omega)).2 (tb5 _ hl5).1
 have na:nE a<=6:=UU (Ga a (by omega)).1 (tb5 _ hl5).2
 have sc:sE c<=14:=UU (Ga c (by omega)).2 (tb5 _ hc5).1
 have nc:nE c<=6:=UU (Ga c (by omega)).1 (tb5 _ hc5).2
 obtain ⟨b0,r,g,eo⟩:=LS 75 ns 2 a (by omega) (by omega)
 simp only [Yt,XF] at eo
 have sb0:sE b0<=14:=UU (LM _ _ _ g) sa
 have nb0:nE b0<=6:=UU (S4 _ _ _ g) na
 have ob0:b0.Ok:=Q7 r a b0 g oa
 have lb0:=yo b0
 obtain ⟨b1,el,hsh,ob1⟩:=ig b0 78 v12 1 (by omega)
 have sb1:sE b1<=14:=by rw [<- (mn b1).1,hsh,(mn b0).1];exact sb0
 have nb1:nE b1<=6:=by rw [<- (mn b1).2.1,hsh,(mn b0).2.1];exact nb0
 simp only [Yt] at el ek ec
 have ja:=jOf a sa na oa
 have jc:=jOf c sc nc oc
 have jb0:=jOf b0 sb0 nb0 ob0
 have jb1:=jOf b1 sb1 nb1 (ob1 ob0)
 have mod5:AL (.int v1) (.int 5)=U7 (.int (v1 % 5)):=sx (by decide)
 have mod5':AL (.int v13) (.int 5)=U7 (.int (v13 % 5)):=sx (by decide)
 have div5:IA (.int v1) (.int 5)=U7 (.int (v1 / 5)):=MZ (by decide) (by decide)
 have mod4:AL (.int (v1 / 5)) (.int 4)=U7 (.int (v1 / 5 % 4)):=sx (by decide)
 have mod8:AL (.int v14) (.int 8)=U7 (.int (v14 % 8)):=sx (by decide)
 have div8:IA (.int v14) (.int 8)=U7 (.int (v14 / 8)):=MZ (by decide) (by decide)
 have mod4':AL (.int (v14 / 8)) (.int 4)=U7 (.int (v14 / 8 % 4)):=sx (by decide)
 have lfa:=qb a;have lfb0:=qb b0;have lfb1:=qb b1;have lfc:=qb c
 have e:Kx (w8 79) (z7 79) (vp 79) (jj 79) (j6 79) (w4 79)=(ze (zl 1 (zd (jj 79) [(zd (z7 79) [(za 0),(eC (.int 0))]),(qh (eC (.int 1)) (yg (zd (z7 79) [(za 0),(eC (.int 1))]) (eC (.int 5)))),(eC (.int 1))])) (ze (zl 2 (zd (w4 79) [(za 0),(eC (.int 2)),(za 1)])) (ze (zl 3 (yg (sv (zd (z7 79) [(za 0),(eC (.int 1))]) (eC (.int 5))) (eC (.int 4)))) (ze (sIf (eGt (za 3) (eC (.int 1))) (zl 2 (zd (j6 79) [(za 2),(zd (z7 79) [(za 0),(eC (.int 12))]),(eC (.int 1))])) zj) (ze (sIf (eEq (za 3) (eC (.int 3))) (zl 2 (zd (jj 79) [(zd (z7 79) [(za 0),(eC (.int 12))]),(qh (eC (.int 1)) (yg (zd (z7 79) [(za 0),(eC (.int 13))]) (eC (.int 5)))),(eC (.int 1))])) zj) (ze (sIf (eEq (yg (zd (z7 79) [(za 0),(eC (.int 14))]) (eC (.int 8))) (eC (.int 1))) (bo (wc 1 2) (zd (vp 79) [(zm [(eC (.str "name")),(yg (sv (zd (z7 79) [(za 0),(eC (.int 14))]) (eC (.int 8))) (eC (.int 4)))])])) zj) (zq (km (zd (w8 79) [(za 1),(za 2)]) (zd (w8 79) [(za 2),(za 1)]))))))))):=rfl
 generalize Zo (ns.map .int)=D at *
 have s1:zl 1 (zd (jj 79) [(zd (z7 79) [(za 0),(eC (.int 0))]),(qh (eC (.int 1)) (yg (zd (z7 79) [(za 0),(eC (.int 1))]) (eC (.int 5)))),(eC (.int 1))]) [U7 (.par D),UA,UA,UA]=U7 (.next [U7 (.par D),U7 (.loc (enc a)),UA,UA]):=by
  simp [zl,zd,zo,za,eC,zu,zk,zi,c0,c1,jt,qh,yg,e2,mod5,t6,ek,asg,lfa]
 have s2:zl 2 (zd (w4 79) [(za 0),(eC (.int 2)),(za 1)]) [U7 (.par D),U7 (.loc (enc a)),UA,UA]=U7 (.next [U7 (.par D),U7 (.loc (enc a)),U7 (.loc (enc b0)),UA]):=by
  simp [zl,zd,zo,za,eC,zu,zi,eo,jt,asg,lfb0]
 have s3:zl 3 (yg (sv (zd (z7 79) [(za 0),(eC (.int 1))]) (eC (.int 5))) (eC (.int 4))) [U7 (.par D),U7 (.loc (enc a)),U7 (.loc (enc b0)),UA]=U7 (.next [U7 (.par D),U7 (.loc (enc a)),U7 (.loc (enc b0)),U7 (.loc (.int (v1 / 5 % 4)))]):=by
  simp [zl,zd,zo,za,eC,zu,zk,zi,c1,jt,sv,yg,e2,div5,mod4,asg,lf]
 generalize v1 / 5 % 4=M at s3
 have s4:∃ b:Kd,Jd b/\sIf (eGt (za 3) (eC (.int 1))) (zl 2 (zd (j6 79) [(za 2),(zd (z7 79) [(za 0),(eC (.int 12))]),(eC (.int 1))])) zj [U7 (.par D),U7 (.loc (enc a)),U7 (.loc (enc b0)),U7 (.loc (.int M))]=U7 (.next [U7 (.par D),U7 (.loc (enc a)),U7 (.loc (enc b)),U7 (.loc (.int M))]):=by
  cases q:(decide ((1:Int) < M)) with
  | true=>exact ⟨b1,jb1,by simp only [sIf,eGt,e2,za,eC,zk,zi,UD,UE,dGt,q,Va];simp [zl,zd,zo,za,eC,zu,zi,c12,jt,el,asg,lfb1]⟩
  | false=>exact ⟨b0,jb0,by simp only [sIf,eGt,e2,za,eC,zk,zi,UD,UE,dGt,q,Va,zj]⟩
 obtain ⟨b2,jb2,s4⟩:=s4
 have s5:∃ b:Kd,Jd b/\sIf (eEq (za 3) (eC (.int 3))) (zl 2 (zd (jj 79) [(zd (z7 79) [(za 0),(eC (.int 12))]),(qh (eC (.int 1)) (yg (zd (z7 79) [(za 0),(eC (.int 13))]) (eC (.int 5)))),(eC (.int 1))])) zj [U7 (.par D),U7 (.loc (enc a)),U7 (.loc (enc b2)),U7 (.loc (.int M))]=U7 (.next [U7 (.par D),U7 (.loc (enc a)),U7 (.loc (enc b)),U7 (.loc (.int M))]):=by
  cases q:(M == (3:Int)) with
  | true=>exact ⟨c,jc,by simp only [sIf,eEq,e2,za,eC,zk,zi,UD,UE,nr,q,Va];simp [zl,zd,zo,za,eC,zu,zk,zi,c12,c13,jt,qh,yg,e2,mod5',t6,ec,asg,lfc]⟩
  | false=>exact ⟨b2,jb2,by simp only [sIf,eEq,e2,za,eC,zk,zi,UD,UE,nr,q,Va,zj]⟩
 obtain ⟨b,jb,s5⟩:=s5
 have s6:∃ x y:Kd,Jd x/\Jd y/\sIf (eEq (yg (zd (z7 79) [(za 0),(eC (.int 14))]) (eC (.int 8))) (eC (.int 1))) (bo (wc 1 2) (zd (vp 79) [(zm [(eC (.str "name")),(yg (sv (zd (z7 79) [(za 0),(eC (.int 14))]) (eC (.int 8))) (eC (.int 4)))])])) zj [U7 (.par D),U7 (.loc (enc a)),U7 (.loc (enc b)),U7 (.loc (.int M))]=U7 (.next [U7 (.par D),U7 (.loc (enc x)),U7 (.loc (enc y)),U7 (.loc (.int M))]):=by
  cases q:(v14 % 8 == (1:Int)) with
  | true=>
   have hf:=Sn 77 (v14 / 8 % 4)
   simp only [Yt] at hf
   have l1:=qb (Ia (v14 / 8 % 4));have l2:=qb (KD (v14 / 8 % 4))
   refine ⟨Ia (v14 / 8 % 4),KD (v14 / 8 % 4),OK (by omega) (by omega),PU (by omega) (by omega),?_⟩
   rw [show enc (.name (v14 / 8 % 4))= .tuple [.str "name",.int (v14 / 8 % 4)] from rfl] at hf
   simp only [sIf,eEq,yg,sv,e2,zd,zo,za,eC,zk,zu,zi,jt,UD,UE,c14,mod8,nr,q,Va]
   simp only [bo,zm,yg,sv,e2,zd,zo,za,eC,zk,zu,zi,jt,UD,UE,c14,div8,mod4',Va,hf,wc]
   rw [if_pos (by simp [lf,lfs,l1,l2])]
   rfl
  | false=>exact ⟨a,b,ja,jb,by simp only [sIf,eEq,yg,e2,zd,zo,za,eC,zk,zu,zi,jt,UD,UE,c14,mod8,nr,q,Va,zj]⟩
 obtain ⟨x,y,jx,jy,s6⟩:=s6
 have h1:=HD 77 jx jy (by decide)
 have h2:=HD 77 jy jx (by decide)
 simp only [Yt] at h1 h2
 refine ky ?_
 show Kx (w8 79) (z7 79) (vp 79) (jj 79) (j6 79) (w4 79) [U7 (.par D),UA,UA,UA]=_
 rw [e,zv s1,zv s2,zv s3,zv s4,zv s5,zv s6]
 simp only [zq,km,zd,zo,za,zk,zu,zi,jt,UD,UE,h1,h2]
 rfl
end KT
namespace KT
open PySem PySem.Spec PyProof.Rows L2
structure TxtF(K:UF)(mg:Vk->Option UB):Prop where
 t_law_count:FunT K mg "_law_count" b7 ["kind","sizes"]
 t_law_whole:FunT K mg "_law_whole" bq ["found"]
 t_law_bundles:FunT K mg "_law_bundles" fk ["kind"]
 t_law_put:FunT K mg "_law_put" i9 ["kind","path","piece"]
 t_law_here:FunT K mg "_law_here" dg ["kind","word"]
 t_law_gone:FunT K mg "_law_gone" cm ["kind","row"]
 t_without_noughts:FunT K mg "without_noughts" vy ["terms"]
 t_with_size:FunT K mg "with_size" bj ["terms","name","size"]
 t_difference:FunT K mg "difference" uu ["ones","others"]
 t_parting_sizes:FunT K mg "parting_sizes" xm ["ones","others"]
 t_merged:FunT K mg "merged" pd ["first","second","path","row"]
 t_in_line:FunT K mg "in_line" lz ["tree","path","row"]
 t_is_barren:FunT K mg "is_barren" br ["kind"]
 t_barren_tree:FunT K mg "barren_tree" f7 ["kind","path","row"]
 t_spread_tree:FunT K mg "spread_tree" fj ["first","second","path","row"]
 t_both_of_trees:FunT K mg "both_of_trees" xn ["first","second","path","row"]
 t_factors_in_line:FunT K mg "factors_in_line" vt ["kind","path","row"]
 t_product_tree:FunT K mg "product_tree" gq ["kind","path","row"]
 t_tree_of:FunT K mg "tree_of" i5 ["kind","path","row"]
 t_row_to_plain:FunT K mg "row_to_plain" gn ["kind"]
 t_gathered:FunT K mg "gathered" cw ["kind"]
 t_bundles:FunT K mg "bundles" ir ["kind"]
 t_judged:FunT K mg "judged" o6 ["one","other"]
 t_law_plain:FunT K mg "_law_plain" bw ["rows"]
 t_law_right:FunT K mg "_law_right" bh ["one","other"]
 t_law_stir:FunT K mg "_law_stir" cj ["cell"]
 t_law_cell:FunT K mg "_law_cell" de ["script","k"]
 t_law_some:FunT K mg "_law_some" cz ["kind","many"]
 t_law_far:FunT K mg "_law_far" i3 ["name"]
 t_law_draw:FunT K mg "_law_draw" ax ["cell","k","bound"]
 t_law_kind:FunT K mg "_law_kind" aw ["cell","leaves","k"]
 t_law_leafed:FunT K mg "_law_leafed" uz ["kind","cell","k"]
 t_law_part:FunT K mg "_law_part" cg ["kind","path"]
 t_law_paths:FunT K mg "_law_paths" bu ["kind"]
 t_law_turned:FunT K mg "_law_turned" uy ["kind","word","path"]
 t_law_all_turnings:FunT K mg "_law_all_turnings" ve ["kind"]
 t_law_other:FunT K mg "_law_other" bt ["script","first","kind"]
 t_law:FunT K mg "law" mq ["script"]
structure ClsF(K:UF)(mg:Vk->Option UB)(cv:Nat->UB)(pp:Params):Prop where
 nought:True
 KT_NAMES:KTup K mg "NAMES" (.tuple [.int 0,.int 1,.int 2,.int 3])
 N_sorted:mg "sorted" =UA
 N_dict:mg "dict" =UA
structure AllF(P:Vn)(w:Vz)(K:UF)(mg:Vk->Option UB)(base:V1)(cv:Nat->UB)(n:Nat):Prop where
 f_law_count:FnF (CX1 P w) P w K mg base cv n "_law_count" 2 (jq n)
 f_law_whole:FnF (CX1 P w) P w K mg base cv n "_law_whole" 1 (w6 n)
 f_law_bundles:FnF (CX1 P w) P w K mg base cv n "_law_bundles" 1 (z8 n)
 f_law_put:FnF (CX1 P w) P w K mg base cv n "_law_put" 3 (j3 n)
 f_law_here:FnF (CX1 P w) P w K mg base cv n "_law_here" 2 (jm n)
 f_law_gone:FnF (CX1 P w) P w K mg base cv n "_law_gone" 2 (vc n)
 f_without_noughts:FnF (CX1 P w) P w K mg base cv n "without_noughts" 1 (qy n)
 f_with_size:FnF (CX1 P w) P w K mg base cv n "with_size" 3 (jf n)
 f_difference:FnF (CX1 P w) P w K mg base cv n "difference" 2 (yq n)
 f_parting_sizes:FnF (CX1 P w) P w K mg base cv n "parting_sizes" 2 (ya n)
 f_merged:FnR (CX1 P w) P w K mg base cv n "merged" 4 (j9 n)
 f_in_line:FnR (CX1 P w) P w K mg base cv n "in_line" 3 (vo n)
 f_is_barren:FnF (CX1 P w) P w K mg base cv n "is_barren" 1 (ql n)
 f_barren_tree:FnR (CX1 P w) P w K mg base cv n "barren_tree" 3 (ke n)
 f_spread_tree:FnR (CX1 P w) P w K mg base cv n "spread_tree" 4 (jk n)
 f_both_of_trees:FnR (CX1 P w) P w K mg base cv n "both_of_trees" 4 (m_both_of_trees n)
 f_factors_in_line:FnR (CX1 P w) P w K mg base cv n "factors_in_line" 3 (qm n)
 f_product_tree:FnR (CX1 P w) P w K mg base cv n "product_tree" 3 (vk n)
 f_tree_of:FnR (CX1 P w) P w K mg base cv n "tree_of" 3 (m_tree_of n)
 f_row_to_plain:FnF (CX1 P w) P w K mg base cv n "row_to_plain" 1 (ji n)
 f_gathered:FnF (CX1 P w) P w K mg base cv n "gathered" 1 (jr n)
 f_bundles:FnF (CX1 P w) P w K mg base cv n "bundles" 1 (wm n)
 f_judged:FnF (CX1 P w) P w K mg base cv n "judged" 2 (vm n)
 f_law_plain:FnF (CX1 P w) P w K mg base cv n "_law_plain" 1 (y9 n)
 f_law_right:FnF (CX1 P w) P w K mg base cv n "_law_right" 2 (w8 n)
 f_law_stir:FnF (CX1 P w) P w K mg base cv n "_law_stir" 1 (uj n)
 f_law_cell:FnF (CX1 P w) P w K mg base cv n "_law_cell" 2 (z7 n)
 f_law_some:FnF (CX1 P w) P w K mg base cv n "_law_some" 2 (v8 n)
 f_law_far:FnF (CX1 P w) P w K mg base cv n "_law_far" 1 (vp n)
 f_law_draw:FnF (CX1 P w) P w K mg base cv n "_law_draw" 3 (xf n)
 f_law_kind:FnF (CX1 P w) P w K mg base cv n "_law_kind" 3 (jj n)
 f_law_leafed:FnF (CX1 P w) P w K mg base cv n "_law_leafed" 3 (j6 n)
 f_law_part:FnF (CX1 P w) P w K mg base cv n "_law_part" 2 (j0 n)
 f_law_paths:FnF (CX1 P w) P w K mg base cv n "_law_paths" 1 (qt n)
 f_law_turned:FnF (CX1 P w) P w K mg base cv n "_law_turned" 3 (wd n)
 f_law_all_turnings:FnF (CX1 P w) P w K mg base cv n "_law_all_turnings" 1 (qp n)
 f_law_other:FnF (CX1 P w) P w K mg base cv n "_law_other" 3 (w4 n)
 f_law:FnF (CX1 P w) P w K mg base cv n "law" 1 (Er n)
section
variable{P:Vn}{w:Vz}{K:UF}{mg:Vk->Option UB}{base:V1}{cv:Nat->UB}
theorem Sy(T:TxtF K mg):AllF P w K mg base cv 0:=⟨fh T.t_law_count,fh T.t_law_whole,fh T.t_law_bundles,fh T.t_law_put,fh T.t_law_here,fh T.t_law_gone,fh T.t_without_noughts,fh T.t_with_size,fh T.t_difference,fh T.t_parting_sizes,GN T.t_merged,GN T.t_in_line,fh T.t_is_barren,GN T.t_barren_tree,GN T.t_spread_tree,GN T.t_both_of_trees,GN T.t_factors_in_line,GN T.t_product_tree,GN T.t_tree_of,fh T.t_row_to_plain,fh T.t_gathered,fh T.t_bundles,fh T.t_judged,fh T.t_law_plain,fh T.t_law_right,fh T.t_law_stir,fh T.t_law_cell,fh T.t_law_some,fh T.t_law_far,fh T.t_law_draw,fh T.t_law_kind,fh T.t_law_leafed,fh T.t_law_part,fh T.t_law_paths,fh T.t_law_turned,fh T.t_law_all_turnings,fh T.t_law_other,fh T.t_law⟩
theorem Ta{n:Nat}(M:MF mg)(T:TxtF K mg)(C:ClsF K mg cv w.params)(A:AllF P w K mg base cv n):AllF P w K mg base cv (n+1):=
 ⟨fg T.t_law_count λf fd F=>Eu M F A.f_law_count,
 fg T.t_law_whole λf fd F=>FA M F,
 fg T.t_law_bundles λf fd F=>CK M F A.f_law_bundles C.N_sorted,
 fg T.t_law_put λf fd F=>ID M F A.f_law_put,
 fg T.t_law_here λf fd F=>GQ M F,
 fg T.t_law_gone λf fd F=>Hr M F A.f_law_put A.f_law_here,
 fg T.t_without_noughts λf fd F=>su M F C.N_dict,
 fg T.t_with_size λf fd F=>Fs M F A.f_without_noughts,
 fg T.t_difference λf fd F=>Ds M F A.f_without_noughts,
 fg T.t_parting_sizes λf fd F=>A6 M F A.f_with_size A.f_difference C.KT_NAMES,
 Gy T.t_merged λf fd F=>Lj M F,
 Gy T.t_in_line λf fd F=>Iz M F A.f_merged A.f_in_line,
 fg T.t_is_barren λf fd F=>EA M F A.f_is_barren,
 Gy T.t_barren_tree λf fd F=>C1 M F A.f_is_barren A.f_tree_of,
 Gy T.t_spread_tree λf fd F=>BU M F A.f_both_of_trees,
 Gy T.t_both_of_trees λf fd F=>AX M F A.f_merged A.f_spread_tree,
 Gy T.t_factors_in_line λf fd F=>sq M F A.f_merged A.f_factors_in_line,
 Gy T.t_product_tree λf fd F=>Bs M F A.f_both_of_trees A.f_tree_of A.f_factors_in_line,
 Gy T.t_tree_of λf fd F=>Im M F A.f_tree_of A.f_is_barren A.f_barren_tree A.f_product_tree,
 fg T.t_row_to_plain λf fd F=>Bv M F A.f_in_line A.f_tree_of,
 fg T.t_gathered λf fd F=>HS M F A.f_gathered A.f_is_barren C.N_sorted,
 fg T.t_bundles λf fd F=>IB M F A.f_gathered C.N_sorted,
 fg T.t_judged λf fd F=>L6 M F A.f_parting_sizes A.f_row_to_plain A.f_bundles,
 fg T.t_law_plain λf fd F=>Fn M F,
 fg T.t_law_right λf fd F=>ER M F A.f_law_count A.f_law_whole A.f_law_bundles A.f_law_gone A.f_judged A.f_law_plain,
 fg T.t_law_stir λf fd F=>HF M F,
 fg T.t_law_cell λf fd F=>HK M F A.f_law_stir,
 fg T.t_law_some λf fd F=>GJ M F,
 fg T.t_law_far λf fd F=>Jp M F A.f_law_some,
 fg T.t_law_draw λf fd F=>Hb M F,
 fg T.t_law_kind λf fd F=>HP M F A.f_law_kind A.f_law_draw,
 fg T.t_law_leafed λf fd F=>Dk M F A.f_law_leafed A.f_law_draw,
 fg T.t_law_part λf fd F=>Hq M F,
 fg T.t_law_paths λf fd F=>E3 M F A.f_law_part,
 fg T.t_law_turned λf fd F=>Dj M F A.f_law_put A.f_law_here A.f_law_part A.f_law_paths,
 fg T.t_law_all_turnings λf fd F=>p6 M F A.f_law_here A.f_law_part A.f_law_paths,
 fg T.t_law_other λf fd F=>EK M F A.f_law_paths A.f_law_turned A.f_law_cell A.f_law_all_turnings,
 fg T.t_law λf fd F=>Nb M F A.f_law_right A.f_law_cell A.f_law_far A.f_law_kind A.f_law_leafed A.f_law_other⟩
theorem Q0(M:MF mg)(T:TxtF K mg)(C:ClsF K mg cv w.params):∀ n,AllF P w K mg base cv n
 | 0=>Sy T
 | n+1=>Ta M T C (Q0 M T C n)
theorem QJ{f:UL}{fd:Yn}(M:MF mg)(T:TxtF K mg)(C:ClsF K mg cv w.params)(F:Fun K "law" "law" mq f fd):FnOk P w K mg base (CX1 P w) 80 f fd ["script"] (spD cv 1 (Er 80)):=
 have A:=Q0 (P:=P) (w:=w) (base:=base) M T C 79
 Nb M F A.f_law_right A.f_law_cell A.f_law_far A.f_law_kind A.f_law_leafed A.f_law_other
noncomputable def FD(K:UF)(x:Vk)(st:VW):Prop:=∃ (f:UL) (od an:Option UL) (sl:Array (Option UB)) (oc kV dc pm cd ct:UB),Xp K V2 x=U7 (U7 (.ref f))/\
 K.lookup f=U7 ⟨oc,od,.func (Wh x x (xo st) (vz st) (zx st) .none kV dc pm an cd ct),sl⟩/\XZ K cd x=true/\X2 K (.ref f)=true
theorem wq{x:Vk}{st:VW}{f:UL}{od an:Option UL}{sl:Array (Option UB)}{oc kV dc pm cd ct:UB}(a:Xp K V2 x=U7 (U7 (.ref f)))
 (l:K.lookup f=U7 ⟨oc,od,.func (Wh x x (xo st) (vz st) (zx st) .none kV dc pm an cd ct),sl⟩) (c:XZ K cd x=true) (k:X2 K (.ref f)=true):FD K x st:=⟨f,od,an,sl,oc,kV,dc,pm,cd,ct,a,l,c,k⟩
theorem ES{h:V1}{x:Vk}{st:VW}{ps:List Vk}(X:K.In h)(G:h.Ns V2 mg)(d:FD K x st)
  (hb:∀ (kV doc pm:UB) (an:Option UL) (cdv ct:UB) (us:List UB),us.length=ps.length->Zh (Wh x x (xo st) (vz st) (zx st) .none kV doc pm an cdv ct) ⟨us,[]⟩=pure (ps.zip us)):FunT K mg x st ps:=
 let ⟨_,_,_,_,_,_,_,_,_,_,a,l,c,k⟩:=d
 Pm X G a l c k hb
theorem uq{h:V1}{x y0:Vk}{st:VW}(X:K.In h)(G:h.Ns V2 mg)(d:FD K x st)(H:∀ (kV doc pm:UB) (an:Option UL) (cdv ct a0:UB),Zh (Wh x x (xo st) (vz st) (zx st) .none kV doc pm an cdv ct) ⟨[a0],[]⟩=pure ([y0].zip [a0])):FunT K mg x st [y0]:=
 ES X G d λkV doc pm an cdv ct us hl=>let ⟨a0,e⟩:=Tp hl;e ▸ H kV doc pm an cdv ct a0
theorem ef{h:V1}{x y0 y1:Vk}{st:VW}(X:K.In h)(G:h.Ns V2 mg)(d:FD K x st)(H:∀ (kV doc pm:UB) (an:Option UL) (cdv ct a0 a1:UB),Zh (Wh x x (xo st) (vz st) (zx st) .none kV doc pm an cdv ct) ⟨[a0,a1],[]⟩=pure ([y0,y1].zip [a0,a1])):FunT K mg x st [y0,y1]:=
 ES X G d λkV doc pm an cdv ct us hl=>let ⟨a0,a1,e⟩:=Tu hl;e ▸ H kV doc pm an cdv ct a0 a1
theorem bb{h:V1}{x y0 y1 y2:Vk}{st:VW}(X:K.In h)(G:h.Ns V2 mg)(d:FD K x st)(H:∀ (kV doc pm:UB) (an:Option UL) (cdv ct a0 a1 a2:UB),Zh (Wh x x (xo st) (vz st) (zx st) .none kV doc pm an cdv ct) ⟨[a0,a1,a2],[]⟩=pure ([y0,y1,y2].zip [a0,a1,a2])):FunT K mg x st [y0,y1,y2]:=
 ES X G d λkV doc pm an cdv ct us hl=>let ⟨a0,a1,a2,e⟩:=SZ hl;e ▸ H kV doc pm an cdv ct a0 a1 a2
theorem IS{h:V1}{x y0 y1 y2 y3:Vk}{st:VW}(X:K.In h)(G:h.Ns V2 mg)(d:FD K x st)(H:∀ (kV doc pm:UB) (an:Option UL) (cdv ct a0 a1 a2 a3:UB),Zh (Wh x x (xo st) (vz st) (zx st) .none kV doc pm an cdv ct) ⟨[a0,a1,a2,a3],[]⟩=pure ([y0,y1,y2,y3].zip [a0,a1,a2,a3])):FunT K mg x st [y0,y1,y2,y3]:=
 ES X G d λkV doc pm an cdv ct us hl=>let ⟨a0,a1,a2,a3,e⟩:=TZ hl;e ▸ H kV doc pm an cdv ct a0 a1 a2 a3
set_option maxHeartbeats 0 in
theorem R3{h:V1}(X:K.In h)(G:h.Ns V2 mg)
  (d1:FD K "_law_count" b7)
  (d2:FD K "_law_whole" bq)
  (d3:FD K "_law_bundles" fk)
  (d4:FD K "_law_put" i9)
  (d5:FD K "_law_here" dg)
  (d6:FD K "_law_gone" cm)
  (d7:FD K "without_noughts" vy)
  (d8:FD K "with_size" bj)
  (d9:FD K "difference" uu)
  (d10:FD K "parting_sizes" xm)
  (d11:FD K "merged" pd)
  (d12:FD K "in_line" lz)
  (d13:FD K "is_barren" br)
  (d14:FD K "barren_tree" f7)
  (d15:FD K "spread_tree" fj)
  (d16:FD K "both_of_trees" xn)
  (d17:FD K "factors_in_line" vt)
  (d18:FD K "product_tree" gq)
  (d19:FD K "tree_of" i5)
  (d20:FD K "row_to_plain" gn)
  (d21:FD K "gathered" cw)
  (d22:FD K "bundles" ir)
  (d23:FD K "judged" o6)
  (d24:FD K "_law_plain" bw)
  (d25:FD K "_law_right" bh)
  (d26:FD K "_law_stir" cj)
  (d27:FD K "_law_cell" de)
  (d28:FD K "_law_some" cz)
  (d29:FD K "_law_far" i3)
  (d30:FD K "_law_draw" ax)
  (d31:FD K "_law_kind" aw)
  (d32:FD K "_law_leafed" uz)
  (d33:FD K "_law_part" cg)
  (d34:FD K "_law_paths" bu)
  (d35:FD K "_law_turned" uy)
  (d36:FD K "_law_all_turnings" ve)
  (d37:FD K "_law_other" bt)
  (d38:FD K "law" mq)
  (zM:(["len","int","bool","str","tuple","list","isinstance","range","enumerate","zip","reversed"]:List Vk).all (λx=>Xp K V2 x == U7 UA)=true) (zTNAMES:NV K "NAMES" (.tuple [.int 0,.int 1,.int 2,.int 3])=true) (zNsorted:Xp K V2 "sorted" =U7 UA) (zNdict:Xp K V2 "dict" =U7 UA):
  FunT K mg "law" mq ["script"]/\∀ f fd,Fun K "law" "law" mq f fd->∀ base:V1,FnOk P w K mg base (CX1 P w) 80 f fd ["script"] (spD (OP K) 1 (Er 80)):=by
 have T:TxtF K mg:=⟨ef X G d1 λ_ _ _ _ _ _ _ _=>rfl,uq X G d2 λ_ _ _ _ _ _ _=>rfl,uq X G d3 λ_ _ _ _ _ _ _=>rfl,bb X G d4 λ_ _ _ _ _ _ _ _ _=>rfl,ef X G d5 λ_ _ _ _ _ _ _ _=>rfl,ef X G d6 λ_ _ _ _ _ _ _ _=>rfl,uq X G d7 λ_ _ _ _ _ _ _=>rfl,bb X G d8 λ_ _ _ _ _ _ _ _ _=>rfl,ef X G d9 λ_ _ _ _ _ _ _ _=>rfl,ef X G d10 λ_ _ _ _ _ _ _ _=>rfl,IS X G d11 λ_ _ _ _ _ _ _ _ _ _=>rfl,bb X G d12 λ_ _ _ _ _ _ _ _ _=>rfl,uq X G d13 λ_ _ _ _ _ _ _=>rfl,bb X G d14 λ_ _ _ _ _ _ _ _ _=>rfl,IS X G d15 λ_ _ _ _ _ _ _ _ _ _=>rfl,IS X G d16 λ_ _ _ _ _ _ _ _ _ _=>rfl,bb X G d17 λ_ _ _ _ _ _ _ _ _=>rfl,bb X G d18 λ_ _ _ _ _ _ _ _ _=>rfl,bb X G d19 λ_ _ _ _ _ _ _ _ _=>rfl,uq X G d20 λ_ _ _ _ _ _ _=>rfl,uq X G d21 λ_ _ _ _ _ _ _=>rfl,uq X G d22 λ_ _ _ _ _ _ _=>rfl,ef X G d23 λ_ _ _ _ _ _ _ _=>rfl,uq X G d24 λ_ _ _ _ _ _ _=>rfl,ef X G d25 λ_ _ _ _ _ _ _ _=>rfl,uq X G d26 λ_ _ _ _ _ _ _=>rfl,ef X G d27 λ_ _ _ _ _ _ _ _=>rfl,ef X G d28 λ_ _ _ _ _ _ _ _=>rfl,uq X G d29 λ_ _ _ _ _ _ _=>rfl,bb X G d30 λ_ _ _ _ _ _ _ _ _=>rfl,bb X G d31 λ_ _ _ _ _ _ _ _ _=>rfl,bb X G d32 λ_ _ _ _ _ _ _ _ _=>rfl,ef X G d33 λ_ _ _ _ _ _ _ _=>rfl,uq X G d34 λ_ _ _ _ _ _ _=>rfl,bb X G d35 λ_ _ _ _ _ _ _ _ _=>rfl,uq X G d36 λ_ _ _ _ _ _ _=>rfl,bb X G d37 λ_ _ _ _ _ _ _ _ _=>rfl,uq X G d38 λ_ _ _ _ _ _ _=>rfl⟩
 have M:MF mg:=SE X G zM
 have C:ClsF K mg (OP K) w.params:=⟨trivial,Oy X G zTNAMES,V9 X G zNsorted,V9 X G zNdict⟩
 exact ⟨T.t_law,λf fd F base=>QJ M T C F⟩
end
end KT
open PySem PySem.W PyProof.Rows
namespace PySem.W.Fast
def tw10881873367945205989:Unit:=()
theorem te7970432727500241973:True:=trivial
def tw10131991474898807888:Unit:=()
def tw7720011608312355076:PySem.Program:=PySem.Challenge.pw_kindturn_k12_whole_judged
theorem te7720011608312355076:PySem.Challenge.pw_kindturn_k12_whole_judged=tw7720011608312355076:=rfl
def tw8102476265054982197:Unit:=()
def tw7415216231423757562:Unit:=()
def tw9799305485567222047:Unit:=()
def tw17501407117747934816:Unit:=()
def tw13167632323065825780:Unit:=()
def tw8213264524879276318:Unit:=()
def tw3645804982334960077:Unit:=()
def tw2430000600775868505:Unit:=()
def tw2742763868445678922:Unit:=()
def tw16940019449802257688:Unit:=()
def tw14002522028895686311:Unit:=()
def tw3800053219595606176:Unit:=()
def tw15619067363044481928:Unit:=()
def tw6339047276641832283:Unit:=()
def tw9533376593287318661:Unit:=()
def tw9953067411197127616:Unit:=()
def tw8370041076642575726:Unit:=()
def tw10493398045012365297:Unit:=()
def tw894653479817747235:Unit:=()
def tw4356898355369850552:Unit:=()
def tw3812061093943395116:Unit:=()
def tw16173360759519659102:Unit:=()
def tw1945019161971023187:Unit:=()
def tw5340339421345639413:Unit:=()
def tw3507201820787343557:Unit:=()
def tw12778362634304618996:Unit:=()
def tw10597569063249671917:Unit:=()
def tw11549393124070733784:Unit:=()
def tw4165381500975948955:Unit:=()
def tw11693995735478964750:Unit:=()
def tw12456048383684538919:Unit:=()
def tw14793518485849118333:Unit:=()
def tw2025377016776893410:Unit:=()
def tw6546540816831540207:Unit:=()
def tw13732485510687503700:Unit:=()
def tw13908370440013155505:Unit:=()
def tw1706893910400465644:Unit:=()
def tw13745951807333780842:Unit:=()
def tw5389135424941899609:Unit:=()
def tw4251911407303808013:Unit:=()
def tw15810006626373095315:Unit:=()
def tw11111574387663930520:Unit:=()
def tw12591372453519081154:Unit:=()
def tw10038884495633216427:Unit:=()
def tw8972231688136525323:Unit:=()
def tw9114468565774621981:Unit:=()
def tw561164209592814673:Unit:=()
def tw12718081480918670022:Unit:=()
def tw4931396865335254037:Unit:=()
def tw13159457145875908573:Unit:=()
def tw3197788351937466125:Unit:=()
def tw5825385562221405911:Unit:=()
def tw1611338868428658609:Unit:=()
def tw3852802424629791166:Unit:=()
def tw16454111438154821224:Unit:=()
def tw9835650640229934273:Unit:=()
def tw4563965562159600870:Unit:=()
def tw1209744018347230944:Unit:=()
def tw7690786117541205431:Unit:=()
def tw3729599165962534452:Unit:=()
def tw14623854808980268315:Unit:=()
def tw7495389052664590834:Unit:=()
def tw12253502448947395420:Unit:=()
def tw16760115535515584273:Unit:=()
def tw319755009297943994:Unit:=()
def tw13234844482667400696:Unit:=()
def tw13463853996134809872:Unit:=()
def tw5744971429494375495:Unit:=()
def tw12633192417931665496:Unit:=()
def tw12313730191092423147:Unit:=()
def tw13409018118167735830:Unit:=()
def tw4632542803137480992:Unit:=()
def tw2003531658277841728:Unit:=()
def tw17791022802842543273:Unit:=()
def tw9588015823625660339:Unit:=()
def tw5378423832420265110:Unit:=()
def tw708158600085375032:Unit:=()
def tw4289915841076548932:Unit:=()
def tw16113300345931966583:Unit:=()
def tw6025233443005165717:Unit:=()
def tw10350256087875063798:Unit:=()
def tw8114181145544426804:Unit:=()
def tw10208980226957679475:Unit:=()
def tw11814107032797270686:Unit:=()
def tw16026006861230639073:Unit:=()
def tw2314388031435319081:Unit:=()
def tw16865824206764578727:Unit:=()
def tw17910361738518315433:Unit:=()
def tw16423395678913565806:Unit:=()
end PySem.W.Fast
set_option maxRecDepth 100000 in
set_option maxHeartbeats 0 in
theorem PySem.Challenge.cw_kindturn_k12_whole_judged_holds : PySem.Challenge.rw_kindturn_k12_whole_judged.Holds := by
 w_on;o_law;k_head;(case hw=>w_witness2)
 k_fill
 refine KT.Up (l:=PySem.Challenge.rw_kindturn_k12_whole_judged) (g:=KT.Er 80) (N:=80) (st:=KT.mq) rfl rfl ⟨rfl,by decide,by decide⟩ (λw h Y=>PySem.W.kIn_of Y) rfl ?F ?L λns hns=>KT.NA ns hns
 case L=>intro w;kernel_rfl
 case F=>
  intro w mg h KX G
  refine' KT.R3 KX G (KT.wq ?a1 ?l1 ?c1 ?k1) (KT.wq ?a2 ?l2 ?c2 ?k2) (KT.wq ?a3 ?l3 ?c3 ?k3) (KT.wq ?a4 ?l4 ?c4 ?k4) (KT.wq ?a5 ?l5 ?c5 ?k5) (KT.wq ?a6 ?l6 ?c6 ?k6) (KT.wq ?a7 ?l7 ?c7 ?k7) (KT.wq ?a8 ?l8 ?c8 ?k8) (KT.wq ?a9 ?l9 ?c9 ?k9) (KT.wq ?a10 ?l10 ?c10 ?k10) (KT.wq ?a11 ?l11 ?c11 ?k11) (KT.wq ?a12 ?l12 ?c12 ?k12) (KT.wq ?a13 ?l13 ?c13 ?k13) (KT.wq ?a14 ?l14 ?c14 ?k14) (KT.wq ?a15 ?l15 ?c15 ?k15) (KT.wq ?a16 ?l16 ?c16 ?k16) (KT.wq ?a17 ?l17 ?c17 ?k17) (KT.wq ?a18 ?l18 ?c18 ?k18) (KT.wq ?a19 ?l19 ?c19 ?k19) (KT.wq ?a20 ?l20 ?c20 ?k20) (KT.wq ?a21 ?l21 ?c21 ?k21) (KT.wq ?a22 ?l22 ?c22 ?k22) (KT.wq ?a23 ?l23 ?c23 ?k23) (KT.wq ?a24 ?l24 ?c24 ?k24) (KT.wq ?a25 ?l25 ?c25 ?k25) (KT.wq ?a26 ?l26 ?c26 ?k26) (KT.wq ?a27 ?l27 ?c27 ?k27) (KT.wq ?a28 ?l28 ?c28 ?k28) (KT.wq ?a29 ?l29 ?c29 ?k29) (KT.wq ?a30 ?l30 ?c30 ?k30) (KT.wq ?a31 ?l31 ?c31 ?k31) (KT.wq ?a32 ?l32 ?c32 ?k32) (KT.wq ?a33 ?l33 ?c33 ?k33) (KT.wq ?a34 ?l34 ?c34 ?k34) (KT.wq ?a35 ?l35 ?c35 ?k35) (KT.wq ?a36 ?l36 ?c36 ?k36) (KT.wq ?a37 ?l37 ?c37 ?k37) (KT.wq ?a38 ?l38 ?c38 ?k38) ?zM ?zTNAMES ?zNsorted ?zNdict
  (case a1=>k_is);(case l1=>k_is);(case c1=>k_is);(case k1=>k_is)
  (case a2=>k_is);(case l2=>k_is);(case c2=>k_is);(case k2=>k_is)
  (case a3=>k_is);(case l3=>k_is);(case c3=>k_is);(case k3=>k_is)
  (case a4=>k_is);(case l4=>k_is);(case c4=>k_is);(case k4=>k_is)
  (case a5=>k_is);(case l5=>k_is);(case c5=>k_is);(case k5=>k_is)
  (case a6=>k_is);(case l6=>k_is);(case c6=>k_is);(case k6=>k_is)
  (case a7=>k_is);(case l7=>k_is);(case c7=>k_is);(case k7=>k_is)
  (case a8=>k_is);(case l8=>k_is);(case c8=>k_is);(case k8=>k_is)
  (case a9=>k_is);(case l9=>k_is);(case c9=>k_is);(case k9=>k_is)
  (case a10=>k_is);(case l10=>k_is);(case c10=>k_is);(case k10=>k_is)
  (case a11=>k_is);(case l11=>k_is);(case c11=>k_is);(case k11=>k_is)
  (case a12=>k_is);(case l12=>k_is);(case c12=>k_is);(case k12=>k_is)
  (case a13=>k_is);(case l13=>k_is);(case c13=>k_is);(case k13=>k_is)
  (case a14=>k_is);(case l14=>k_is);(case c14=>k_is);(case k14=>k_is)
  (case a15=>k_is);(case l15=>k_is);(case c15=>k_is);(case k15=>k_is)
  (case a16=>k_is);(case l16=>k_is);(case c16=>k_is);(case k16=>k_is)
  (case a17=>k_is);(case l17=>k_is);(case c17=>k_is);(case k17=>k_is)
  (case a18=>k_is);(case l18=>k_is);(case c18=>k_is);(case k18=>k_is)
  (case a19=>k_is);(case l19=>k_is);(case c19=>k_is);(case k19=>k_is)
  (case a20=>k_is);(case l20=>k_is);(case c20=>k_is);(case k20=>k_is)
  (case a21=>k_is);(case l21=>k_is);(case c21=>k_is);(case k21=>k_is)
  (case a22=>k_is);(case l22=>k_is);(case c22=>k_is);(case k22=>k_is)
  (case a23=>k_is);(case l23=>k_is);(case c23=>k_is);(case k23=>k_is)
  (case a24=>k_is);(case l24=>k_is);(case c24=>k_is);(case k24=>k_is)
  (case a25=>k_is);(case l25=>k_is);(case c25=>k_is);(case k25=>k_is)
  (case a26=>k_is);(case l26=>k_is);(case c26=>k_is);(case k26=>k_is)
  (case a27=>k_is);(case l27=>k_is);(case c27=>k_is);(case k27=>k_is)
  (case a28=>k_is);(case l28=>k_is);(case c28=>k_is);(case k28=>k_is)
  (case a29=>k_is);(case l29=>k_is);(case c29=>k_is);(case k29=>k_is)
  (case a30=>k_is);(case l30=>k_is);(case c30=>k_is);(case k30=>k_is)
  (case a31=>k_is);(case l31=>k_is);(case c31=>k_is);(case k31=>k_is)
  (case a32=>k_is);(case l32=>k_is);(case c32=>k_is);(case k32=>k_is)
  (case a33=>k_is);(case l33=>k_is);(case c33=>k_is);(case k33=>k_is)
  (case a34=>k_is);(case l34=>k_is);(case c34=>k_is);(case k34=>k_is)
  (case a35=>k_is);(case l35=>k_is);(case c35=>k_is);(case k35=>k_is)
  (case a36=>k_is);(case l36=>k_is);(case c36=>k_is);(case k36=>k_is)
  (case a37=>k_is);(case l37=>k_is);(case c37=>k_is);(case k37=>k_is)
  (case a38=>k_is);(case l38=>k_is);(case c38=>k_is);(case k38=>k_is)
  (case zM=>kernel_rfl)
  (case zTNAMES=>kernel_rfl)
  (case zNsorted=>kernel_rfl)
  (case zNdict=>kernel_rfl)
