import PyProof.Rows.All
import Wide.All
import OpenK.AllK
import Wide.FinOn
import PyProof.EqAt
import PyProof.EqKinds
import PyProof.TupleCall
import PyProof.TupleKey
import PyProof.P3Eq
import PyProof.P3Statements
import KE.KSortTup
import PyProof.StrLoop
import PyProof.StrWalks
import PyProof.StrBlockI
import PyProof.StrCalls
import Lean
import PySem.Challenge.RW_kindturn_k13_whole_sent
open Option renaming some→YW,none→YY,bind_some→ZH,map_some→aH,isSome_iff_exists→dS,isSome→eA,map→fW
open PySem renaming PyData→YX,Value→YZ,wpAny_bind→Zc,Shared→Zd,starEach→Zf,Addr→Zh,wpAny_pure→Zr,sizeLine→Zx,wpAny→Z0,Str→Z3,Program→Z8,model→ZD,mainGlobals→ZF,Heap→ZM,World→ZN,wpAny_loadPart'→ZT,Expr→ZY,Around→aC,backTo→aF,Stmt→aG,compareOp→aL,Builtin→aT,eval→bB,bootBuiltins→bE,wpAny_callSpecial?_slot→bG,wpAny_newObj_type→bM,Obj→bX,NameKind→bY,wpAny_field→bZ,swapsWith→cB,sysModules→cD,mem_of_lookup→cF,attributeBase→cI,wpAny_call_entry→cL,binaryOp→cN,wpAny_Call_Name_kw→cP,call_meets→cQ,wpAny_passesOwn→dD,wpAny_ite_false→dI,wpAny_truthy_bool→dJ,behindInMarks→dR,wpAny_holding→dU,cLine→eD,Pos→eE,PassesOwn→eP,foldedSetIterable→eU,wpAny_mono→fB,Keyword→fL,FuncData→fR,sliceBounds→gA,keywordEach→gB,wpAny_setField→gK,assignEach→gP,wpAny_execs_nil→iD,codeAny_mono→iK,bindArgs→iO,backToKw→iX,IsPart→jA,Scope→jC
open List renaming length_append→Za,getElem?_eq_some_iff→Zi,length_cons→Zj,size_toArray→Zl,length_singleton→Zy,mem_cons_self→Zz,replicate→Z1,mem_cons_of_mem→Z5,append_assoc→Z6,length_map→Z9,map_cons→ZC,getElem?_map→ZG,length_nil→ZJ,append_nil→ZL,mem_cons→ZP,getElem?_cons_succ→ZQ,range→ZR,getElem?_cons_zero→ZU,mem_append_right→ZV,getElem?_append_right→aK,getElem?_append_left→aM,toArray→aN,mem_append→aO,replicate_succ→aR,mem_map→aV,length_eq_zero_iff→aX,mem_singleton→bF,filterMap_cons→bP,zip_cons_cons→bT,lookup_cons→bU,getLast?_eq_getLast→bW,flatten_cons→cC,map_congr_left→cG,length_take→cM,set_cons_succ→cT,set_cons_zero→cU,pairwise_cons→cW,perm_append_comm→cY,drop_eq_getElem_cons→dA,getLast?_eq_getElem?→dC,nodup_cons→dE,find?_cons→dF,nil_append→dG,length→eJ,length_range→eW,mem_append_left→eZ,getElem?_set_ne→fA,exists_cons_of_ne_nil→fH,length_pos_iff→fQ,any_cons→fU,getElem?_replicate→fX,mem_range→gF,getElem?_set_self→gG,getLast?_map→gM,flatMap_cons→gN,all_eq_true→gT,cons_append→gU,mem_of_getElem?→hV,map_nil→iJ,foldl→iP,nodup_nil→iU
open PySem.W renaming Frag→Zb,mg_none_of→aB,kitOne→aD,kia_one→aP,fnOf→aU,nsIn→bO,findIn→cO,keepIn→eF,codeIn→fD,mroIn→gX,mg_of→gZ,hideAll_none→hU,kitCls→iS
open Nat renaming le_refl→Ze,le_trans→Zo,le_of_add_right_le→Zq,lt_of_lt_of_le→Zt,le_of_add_left_le→Z2,le_of_lt→ZX,ne_of_lt→aE,le_add_left→aQ,mul_le_mul_left→aS,zero_le→aY,lt_irrefl→bC,pow_le_pow_right→bH,le_of_succ_le_succ→bJ,mul_add→bQ,mul_le_mul_right→cA,not_lt_zero→cE,mul_comm→dO,ble_eq→dX,le_add_right→eG,blt→eV,add_mul→fE,mul_le_mul→fG,succ_le_succ→fM,eq_of_beq_eq_true→gO,le_of_not_lt→gR,add_assoc→gV,ne_of_gt→iH,le_of_eq→iL,beq→iM
open PySem.PyData renaming canLayAll0→Zg,eqv→Zm,depthAll→Zs,str→Zu,canLay0→Zw,depth→ZA,eqvAll→ZW,strOk→aJ,int→eB,list→gD,tuple→jB
open PySem.Heap renaming get?_push_of_some→Zk,lt_size→Z7,get?_push_size→ZK,get?_update_other→bA,get?_update_self→eR,SameBut→fJ,size_push→iT
open Bool renaming and_eq_true→Zn,false_ne_true→Zv,false_eq_true→Z4,true_and→bI,or_eq_true→dH,not_true→gW,false_or→gY,or_eq_false_iff→iB,eq_iff_iff→iE,false_and→iN,not_false→iV
open Or renaming inr→ZE,inl→ZZ
open PySem.Value renaming none→ZI,ref→aA,type→bK,builtin→dQ,notImplemented→iA
open Option.some renaming injEq→ZO,inj→ZS
open PyProof.Rows renaming slot_tuple_getitem→aI,callWith_type1→cH,IntsAre→dM,seqObj→fP,boot_tuple→gC,boot_list→gJ,SortKind→gL,kindOf→gQ,AllBare→iG,envOfC→iZ,KeyOrd→jD
open PySem.F renaming plainAttrs_list→aW,slot_tuple_iterator_next→cS,slot_list_append→dY,type_list_append→dZ,slot_tuple_lt→eQ,args_tuple_add_2→fT,args_tuple_lt_2→fY,entry_tuple_add→fZ,slot_tuple_hash→gE,entry_tuple_lt→gH,slot_tuple_add→gI,slot_int_rmul→iF
open PySem.PyData.tuple renaming injEq→aZ
open PySem.Builtin.List renaming listTooLong→bD
open False renaming elim→bL
open Array renaming getElem?_eq_some_iff→bN,getElem?_toList→bS,getD_eq_getD_getElem?→eX
open List.cons renaming injEq→bR
open PyProof.Rows.KeyOrd renaming kle_trans→bV,kle_refl→eN
open PySem.Obj renaming mapFields→cJ,data_mapFields→cR,isFreed_of_fields→cX,mapSeq→iQ
open PySem.NameKind renaming free→cK
open PySem.Builtin.Slice renaming slicePlaces→cZ,sliceAdjust→fO
open PySem.Builtin.SmallTypes renaming nextOf→dB
open Function renaming comp_def→dP
open PySem.Builtin.Tuple renaming tupleExact→dW,tupleItemsOf→eY,tupleHashOf→fN
open Classical renaming choose→eI,choose_spec→eS
open True renaming intro→eK
open Int renaming emod_lt_of_pos→eL,emod_nonneg→eO,le_of_lt_add_one→fI
open ForInStep renaming yield→eM
open Ne renaming symm→eT
open PySem.Str renaming ofString→fK
open PySem.AutoSeq1 renaming sub_tuple_tuple→fS,idx_int→gS
open Array.Perm renaming refl→fV
open Sum renaming inl→iW
open PySem.Spec renaming same→iY
set_option genSizeOfSpec false
set_option Elab.async false
set_option linter.all false
set_option maxRecDepth 100000
theorem qz{c:Prop}{_:Decidable c}(h:¬c){α}{t e:α}:(if c then t else e)=e:=if_neg h
theorem jn{c:Prop}{_:Decidable c}(h:c){α}{t e:α}:(if c then t else e)=t:=if_pos h
noncomputable section
namespace KN
open PySem
mutual
noncomputable def kD:YX->Bool
 | .int _=>true
 | .str s=>aJ s
 | .tuple ds=>kDs ds
 | _=>false
noncomputable def kDs:List YX->Bool
 | []=>true
 | d::ds=>kD d && kDs ds
end
mutual
noncomputable def NH(h:ZM):YX->YZ->Prop
 | .int i,v=>∃ t,v= .int i t
 | .str x,v=>∃ t,v= .str x t
 | .tuple ds,v=>∃ (a:Zh) (o:bX) (its:Array YZ) (n:Nat),v= .ref a/\h.get? a=YW o/\o.cls= .type "tuple"/\o.data= .seq its n/\NHs h ds its.toList
 | _,_=>False
noncomputable def NHs(h:ZM):List YX->List YZ->Prop
 | [],vs=>vs=[]
 | d::ds,vs=>∃ v r,vs=v::r/\NH h d v/\NHs h ds r
end
mutual
noncomputable def GM(w:ZN):YX->Int
 | .int i=>hashInt i
 | .str s=>hashStr w s
 | .tuple ds=>reduceHash (fN (hashDs w ds))
 | _=>0
noncomputable def hashDs(w:ZN):List YX->List Int
 | []=>[]
 | d::ds=>GM w d::hashDs w ds
end
mutual
noncomputable def CM:YX->Nat
 | .int _=>1
 | .str _=>1
 | .tuple ds=>drawsDs ds+1
 | _=>0
noncomputable def drawsDs:List YX->Nat
 | []=>0
 | d::ds=>CM d+drawsDs ds
end
mutual
theorem NH.inj{h:ZM}:∀ (x y:YX) (v:YZ),NH h x v->NH h y v->x=y
 | .int i,.int j,v,⟨t,e⟩,⟨u,e'⟩=>by subst e;injection e' with e1 _;rw [e1]
 | .int i,.str _,v,⟨t,e⟩,⟨u,e'⟩=>by subst e;cases e'
 | .int i,.tuple _,v,⟨t,e⟩,⟨_,_,_,_,e',_⟩=>by subst e;cases e'
 | .str i,.int j,v,⟨t,e⟩,⟨u,e'⟩=>by subst e;cases e'
 | .str i,.str _,v,⟨t,e⟩,⟨u,e'⟩=>by subst e;injection e' with e1 _;rw [e1]
 | .str i,.tuple _,v,⟨t,e⟩,⟨_,_,_,_,e',_⟩=>by subst e;cases e'
 | .tuple _,.int j,v,⟨_,_,_,_,e,_⟩,⟨u,e'⟩=>by subst e;cases e'
 | .tuple _,.str _,v,⟨_,_,_,_,e,_⟩,⟨u,e'⟩=>by subst e;cases e'
 | .tuple xs,.tuple ys,v,⟨a,o,its,n,e,ho,_,hd,r⟩,⟨a',o',its',n',e',ho',_,hd',r'⟩=>by
  subst e
  injection e' with e1
  subst e1
  rw [ho] at ho'
  cases ho'
  rw [hd] at hd'
  injection hd' with e2 _
  subst e2
  rw [NHs.inj xs ys _ r r']
 | .none,_,_,h,_=>h.elim
 | .bool _,_,_,h,_=>h.elim
 | .list _,_,_,h,_=>h.elim
 | .dict _,_,_,h,_=>h.elim
 | .int _,.none,_,_,h=>h.elim
 | .int _,.bool _,_,_,h=>h.elim
 | .int _,.list _,_,_,h=>h.elim
 | .int _,.dict _,_,_,h=>h.elim
 | .str _,.none,_,_,h=>h.elim
 | .str _,.bool _,_,_,h=>h.elim
 | .str _,.list _,_,_,h=>h.elim
 | .str _,.dict _,_,_,h=>h.elim
 | .tuple _,.none,_,_,h=>h.elim
 | .tuple _,.bool _,_,_,h=>h.elim
 | .tuple _,.list _,_,_,h=>h.elim
 | .tuple _,.dict _,_,_,h=>h.elim
theorem NHs.inj{h:ZM}:∀ (x y:List YX) (v:List YZ),NHs h x v->NHs h y v->x=y
 | [],[],_,_,_=>rfl
 | [],_::_,v,e,⟨_,_,e',_⟩=>by cases (show v=[] from e);cases e'
 | _::_,[],v,⟨_,_,e',_⟩,e=>by cases (show v=[] from e);cases e'
 | x::xs,y::ys,v,⟨u,r,e,h1,h2⟩,⟨u',r',e',h1',h2'⟩=>by
  subst e
  injection e' with e1 e2
  subst e1 e2
  rw [NH.inj x y u h1 h1',NHs.inj xs ys r h2 h2']
end
mutual
theorem NH.keeps{h h':ZM}(k:∀ a o its n,h.get? a=YW o->o.data= .seq its n->h'.get? a=YW o):∀ (d:YX) (v:YZ),NH h d v->NH h' d v
 | .int _,_,x=>x
 | .str _,_,x=>x
 | .tuple ds,_,⟨a,o,its,n,e,ho,hc,hd,r⟩=>⟨a,o,its,n,e,k a o its n ho hd,hc,hd,NHs.keeps k ds _ r⟩
 | .none,_,x=>x.elim
 | .bool _,_,x=>x.elim
 | .list _,_,x=>x.elim
 | .dict _,_,x=>x.elim
theorem NHs.keeps{h h':ZM}(k:∀ a o its n,h.get? a=YW o->o.data= .seq its n->h'.get? a=YW o):∀ (d:List YX) (v:List YZ),NHs h d v->NHs h' d v
 | [],_,x=>x
 | d::ds,_,⟨u,r,e,h1,h2⟩=>⟨u,r,e,NH.keeps k d u h1,NHs.keeps k ds r h2⟩
end
mutual
theorem NH.reads{h:ZM}:∀ (d:YX) (v:YZ),NH h d v->∃ as,Reads h v d as
 | .int i,_,⟨t,e⟩=>by subst e;exact ⟨_,.int i t⟩
 | .str i,_,⟨t,e⟩=>by subst e;exact ⟨_,.str i t⟩
 | .tuple ds,_,⟨a,o,its,n,e,ho,hc,hd,r⟩=>by
  subst e
  obtain ⟨as,q⟩:=NHs.reads ds _ r
  exact ⟨_,.tuple ho hc hd q⟩
 | .none,_,x=>x.elim
 | .bool _,_,x=>x.elim
 | .list _,_,x=>x.elim
 | .dict _,_,x=>x.elim
theorem NHs.reads{h:ZM}:∀ (d:List YX) (v:List YZ),NHs h d v->∃ as,ReadsAll h v d as
 | [],v,e=>by cases (show v=[] from e);exact ⟨_,.nil⟩
 | d::ds,_,⟨u,r,e,h1,h2⟩=>by
  subst e
  obtain ⟨as,q⟩:=NH.reads d u h1
  obtain ⟨bs,q'⟩:=NHs.reads ds r h2
  exact ⟨_,.cons q q'⟩
end
mutual
theorem kD_lay:∀ d:YX,kD d=true->d.canLay0=true
 | .int _,_=>rfl
 | .str s,h=>by simpa [Zw,kD] using h
 | .tuple ds,h=>by simpa [Zw] using kDs_lay ds (by simpa [kD] using h)
 | .none,h=>by simp [kD] at h
 | .bool _,h=>by simp [kD] at h
 | .list _,h=>by simp [kD] at h
 | .dict _,h=>by simp [kD] at h
theorem kDs_lay:∀ ds:List YX,kDs ds=true->Zg ds=true
 | [],_=>rfl
 | d::ds,h=>by
  have h':kD d=true/\kDs ds=true:=by simpa [kDs] using h
  simp [Zg,kD_lay d h'.1,kDs_lay ds h'.2]
end
mutual
theorem kD_eqv:∀ x y:YX,kD x=true->kD y=true->(Zm x y=true↔x=y)
 | .int i,.int j,_,_=>by simp [Zm]
 | .int i,.str j,_,_=>by simp [Zm]
 | .int i,.tuple j,_,_=>by simp [Zm]
 | .str i,.int j,_,_=>by simp [Zm]
 | .str i,.str j,_,_=>by simp [Zm]
 | .str i,.tuple j,_,_=>by simp [Zm]
 | .tuple i,.int j,_,_=>by simp [Zm]
 | .tuple i,.str j,_,_=>by simp [Zm]
 | .tuple i,.tuple j,h,h'=>by
  have:=kDs_eqv i j (by simpa [kD] using h) (by simpa [kD] using h')
  simp [Zm,this]
 | .none,_,h,_=>by simp [kD] at h
 | .bool _,_,h,_=>by simp [kD] at h
 | .list _,_,h,_=>by simp [kD] at h
 | .dict _,_,h,_=>by simp [kD] at h
 | .int _,.none,_,h=>by simp [kD] at h
 | .int _,.bool _,_,h=>by simp [kD] at h
 | .int _,.list _,_,h=>by simp [kD] at h
 | .int _,.dict _,_,h=>by simp [kD] at h
 | .str _,.none,_,h=>by simp [kD] at h
 | .str _,.bool _,_,h=>by simp [kD] at h
 | .str _,.list _,_,h=>by simp [kD] at h
 | .str _,.dict _,_,h=>by simp [kD] at h
 | .tuple _,.none,_,h=>by simp [kD] at h
 | .tuple _,.bool _,_,h=>by simp [kD] at h
 | .tuple _,.list _,_,h=>by simp [kD] at h
 | .tuple _,.dict _,_,h=>by simp [kD] at h
theorem kDs_eqv:∀ x y:List YX,kDs x=true->kDs y=true->(ZW x y=true↔x=y)
 | [],[],_,_=>by simp [ZW]
 | [],_::_,_,_=>by simp [ZW]
 | _::_,[],_,_=>by simp [ZW]
 | x::xs,y::ys,h,h'=>by
  have a:kD x=true/\kDs xs=true:=by simpa [kDs] using h
  have b:kD y=true/\kDs ys=true:=by simpa [kDs] using h'
  simp [ZW,kD_eqv x y a.1 b.1,kDs_eqv xs ys a.2 b.2]
end
section
variable{prog:Z8}{w:ZN}{E:YZ->Zd->Prop}
mutual
theorem ME:∀ (d:YX) (A:aC) (s:Zd) (v:YZ) (Q:Int->Zd->Prop),A.units+d.depth < eD->NH s.heap d v->Q (GM w d) {s with toks:=s.toks+CM d}->Z0 (ZD prog w) A (pyHash v) Q E s
 | .int i,A,s,v,Q,_,⟨t,e⟩,h=>by subst e;exact wpAny_pyHash_int h
 | .str i,A,s,v,Q,_,⟨t,e⟩,h=>by subst e;exact wpAny_pyHash_str h
 | .tuple ds,A,s,v,Q,hu,⟨a,o,its,n,e,ho,hc,hd,r⟩,h=>by
  subst e
  have hT:s.TypeIs (.ref a) "tuple":=⟨o,ho,hc⟩
  have hu0:A.units < eD:=by omega
  unfold pyHash
  first | unfold pyHashByItsType | skip
  first | refine Zc (wpAny_cRoomFor_or (.inr hu0) ?_) | skip
  refine Zc (wpAny_specialOf hT gE.lookup ?_);show Z0 _ _ (if (YW (dQ "tuple.__hash__") == YW ZI)=true then _ else _) Q E s
  rw [qz (by rw [beq_builtin_none];exact Zv)];refine Zc (wpAny_specialOf hT gE.lookup ?_)
  show Z0 _ _ (callSpecialIfBoundUnlessNone? (.ref a) "__hash__" _ >>= _) Q E s;refine Zc (wpAny_callSpecialIfBoundUnlessNone?_slot hT gE (cL gE hT F.entry_tuple_hash ?_ (F.args_tuple_hash_1 _)))
  show Z0 _ _ (eY (.ref a) >>= _) _ _ s;refine Zc (wpAny_tupleItemsOf ho hd ?_)
  refine Zc ?_
  rw [<- Array.forIn_toList]
  refine hashes_ok ds A.in1 s its.toList #[] _ (by show A.units+1+_ < eD;simp only [ZA] at hu;omega) r ?_
  have e0:((#[]:Array Int)++(hashDs w ds).toArray).toList=hashDs w ds:=by simp
  show Z0 _ _ (retInt (fN ((#[]:Array Int)++(hashDs w ds).toArray).toList)) _ _ _
  rw [e0]
  refine wpAny_ret_mkInt ?_
  simp only [GM,CM] at h
  generalize hx:fN (hashDs w ds)=x at h
  show Z0 _ _ (if (decide (-(2:Int) ^ 63<=x) && decide (x < 2 ^ 63))=true then _ else _) Q E _
  unfold reduceHash at h
  by_cases hr:(decide (-(2:Int) ^ 63<=x) && decide (x < 2 ^ 63))=true
  ·rw [jn hr] at h ⊢
   exact Zr (by simpa [gV] using h)
  ·rw [qz hr] at h ⊢
   exact Zc (wpAny_rule (Zr (by simpa [gV] using h)))
 | .none,_,_,_,_,_,x,_=>x.elim
 | .bool _,_,_,_,_,_,x,_=>x.elim
 | .list _,_,_,_,_,_,x,_=>x.elim
 | .dict _,_,_,_,_,_,x,_=>x.elim
theorem hashes_ok:∀ (ds:List YX) (A:aC) (s:Zd) (vs:List YZ) (b:Array Int) (Q:Array Int->Zd->Prop),A.units+Zs ds < eD->NHs s.heap ds vs->
  Q (b++(hashDs w ds).toArray) {s with toks:=s.toks+drawsDs ds}->
  Z0 (ZD prog w) A (forIn vs b λx (r:Array Int)=>do
   let h <- pyHash x
   pure PUnit.unit
   pure (eM (r.push h))) Q E s
 | [],A,s,vs,b,Q,_,e,h=>by
  cases (show vs=[] from e)
  rw [List.forIn_nil]
  exact Zr (by simpa [hashDs,drawsDs] using h)
 | d::ds,A,s,vs,b,Q,hu,⟨v,r,e,h1,h2⟩,h=>by
  subst e
  rw [List.forIn_cons]
  have hm:Zs (d::ds)=max d.depth (Zs ds):=rfl
  rw [hm] at hu
  refine Zc (Zc (ME d A s v _ (by omega) h1 ?_))
  refine Zc (Zr (Zr ?_))
  refine hashes_ok ds A {s with toks:=s.toks+CM d} r (b.push (GM w d)) Q (by omega) h2 ?_
  have e1:b++(hashDs w (d::ds)).toArray=b.push (GM w d)++(hashDs w ds).toArray:=by simp [hashDs]
  have e2:s.toks+drawsDs (d::ds)=s.toks+CM d+drawsDs ds:=by simp [drawsDs,gV]
  rw [e1,e2] at h
  exact h
end
theorem GN(n:Nat){v:YZ}(h:carriedByValue v=true):eqIsQuiet n v=pure true:=by
 cases v with
 | ref a=>simp [carriedByValue] at h
 | _=>first | rfl | simp [eqIsQuiet] | (unfold eqIsQuiet;rfl)
mutual
theorem Ja:∀ (d:YX) (n:Nat) (A:aC) (s:Zd) (v:YZ) (Q:Bool->Zd->Prop),d.depth<=n->NH s.heap d v->Q true s->Z0 (ZD prog w) A (eqIsQuiet n v) Q E s
 | .int i,n,A,s,v,Q,_,⟨t,e⟩,h=>by subst e;rw [GN n rfl];exact Zr h
 | .str i,n,A,s,v,Q,_,⟨t,e⟩,h=>by subst e;rw [GN n rfl];exact Zr h
 | .tuple ds,0,A,s,v,Q,hn,_,_=>by simp [ZA] at hn
 | .tuple ds,n+1,A,s,v,Q,hn,⟨a,o,its,m,e,ho,hc,hd,r⟩,h=>by
  subst e
  have hT:s.TypeIs (.ref a) "tuple":=⟨o,ho,hc⟩
  unfold eqIsQuiet
  refine Zc (wpAny_specialOf hT F.slot_tuple_eq.lookup ?_);show Z0 _ _ (isInstance (.ref a) (.type "tuple") >>= _) _ _ s
  refine Zc (wpAny_isInstance hT isSubtype_tuple_tuple ?_);simp only [gW,Z4,if_false]
  refine Zc (wpAny_seqItems ho hd (Zc ?_));show Z0 _ _ (forIn its _ _) _ _ s
  rw [<- Array.forIn_toList]
  exact quiets_ok ds n A s its.toList _ (by simp only [ZA] at hn;exact bJ ‹_›) r (Zr h)
 | .none,_,_,_,_,_,_,x,_=>x.elim
 | .bool _,_,_,_,_,_,_,x,_=>x.elim
 | .list _,_,_,_,_,_,_,x,_=>x.elim
 | .dict _,_,_,_,_,_,_,x,_=>x.elim
theorem quiets_ok:∀ (ds:List YX) (n:Nat) (A:aC) (s:Zd) (vs:List YZ) (Q:Option Bool×PUnit->Zd->Prop),Zs ds<=n->NHs s.heap ds vs->Q (YY,()) s->
  Z0 (ZD prog w) A (forIn vs (YY,()) λy (r:Option Bool×PUnit)=>do
   let b <- eqIsQuiet n y
   if (!b)=true then pure (ForInStep.done (YW false,())) else do
    pure PUnit.unit
    pure (eM (YY,()))) Q E s
 | [],n,A,s,vs,Q,_,e,h=>by
  cases (show vs=[] from e)
  rw [List.forIn_nil]
  exact Zr h
 | d::ds,n,A,s,vs,Q,hn,⟨v,r,e,h1,h2⟩,h=>by
  subst e
  rw [List.forIn_cons]
  have hm:Zs (d::ds)=max d.depth (Zs ds):=rfl
  rw [hm] at hn
  refine Zc (Zc (Ja d n A s v _ (by omega) h1 ?_))
  simp only [gW,Z4,if_false]
  exact Zr (quiets_ok ds n A s r Q (by omega) h2 h)
end
end
noncomputable def isK(d:YX):Prop:=(∃ ds,d= .tuple ds)/\kD d=true/\d.depth<=8
noncomputable instance decD:DecidableEq YX:=λa b=>Classical.propDecidable (a=b)
noncomputable def nestKind(prog:Z8)(w:ZN):HeapKind prog w YX where
 is:=λh d a=>isK d/\NH h d (.ref a)
 hash:=GM w
 draws:=CM
 room:=λA=>A.units+8 < eD
 inj:=λhx hy=>NH.inj _ _ _ hx.2 hy.2
 keeps:=λ{h h' k a d o es ep} x ho hd hs=>⟨x.1,NH.keeps (λb ob its n hb hdb=>(hs.2 b (λz=>by
  subst z
  rw [ho] at hb
  cases hb
  rw [hd] at hdb
  cases hdb)).trans hb) _ _ x.2⟩
 pyHash:=λ{A E s k a Q} hu hk h=>ME k A s _ Q (by have:=hk.1.2.2;omega) hk.2 h
 eqBool:=λ{A E s x y a b Q} hu hx hy h=>by
  obtain ⟨as,ra⟩:=NH.reads _ _ hx.2
  obtain ⟨bs,rb⟩:=NH.reads _ _ hy.2
  refine SeqAt.eqAt_reads x y A s _ _ as bs ra rb (kD_lay _ hx.1.2.1) (kD_lay _ hy.1.2.1) (by have:=hx.1.2.2;omega) prog w E Q ?_
  have e:Zm x y=decide (x=y):=by
   have:=kD_eqv x y hx.1.2.1 hy.1.2.1
   by_cases q:x=y
   ·rw [decide_eq_true q];exact this.mpr q
   ·rw [decide_eq_false q]
    cases z:Zm x y with
    | true=>exact absurd (this.mp z) q
    | false=>rfl
  rw [e]
  exact h
 quiet:=λ{A E s k a Q} hk h=>Ja k 8 A s _ Q hk.1.2.2 hk.2 h
end KN
namespace L2
open PySem PySem.Spec PyProof.Rows
abbrev i4:=Sum Int Z3
noncomputable def GC:i4->YZ->Bool
 | .inl k,v=>YZ.isInt k v
 | .inr x,v=>YZ.isStrOf x v
noncomputable def X5(w:ZN):i4->Int
 | .inl k=>hashInt k
 | .inr x=>hashStr w x
theorem km:∀ {k:i4} {v:YZ},GC k v=true->(∃ i t,k=iW i/\v=YZ.int i t)∨(∃ x t,k=Sum.inr x/\v=YZ.str x t)
 | .inl i,v,h=>by
  obtain ⟨t,e⟩:=YZ.isInt_shape (k:=i) (v:=v) h
  exact .inl ⟨i,t,rfl,e⟩
 | .inr x,v,h=>by
  obtain ⟨t,e⟩:=YZ.isStrOf_shape (x:=x) (v:=v) h
  exact .inr ⟨x,t,rfl,e⟩
theorem Nd(i:Int)(t:Tok):GC (.inl i) (.int i t)=true:=by simp [GC,YZ.isInt]
theorem NN(x:Z3)(t:Tok):GC (.inr x) (.str x t)=true:=by simp [GC,YZ.isStrOf]
theorem Ui(a b:Int):decide ((iW a:i4)=iW b)=(a == b):=by
 by_cases e:a=b
 ·subst e;simp
 ·have h:¬ (iW a:i4)=iW b:=λq=>e (iW.inj q)
  rw [decide_eq_false h]
  exact (beq_eq_false_iff_ne.mpr e).symm
theorem TC(a b:Z3):decide ((Sum.inr a:i4)=Sum.inr b)=decide (a=b):=by
 by_cases e:a=b
 ·subst e;simp
 ·have h:¬ (Sum.inr a:i4)=Sum.inr b:=λq=>e (Sum.inr.inj q)
  rw [decide_eq_false h,decide_eq_false e]
theorem Ul(a:Int)(b:Z3):decide ((iW a:i4)=Sum.inr b)=false:=decide_eq_false (λq=>nomatch q)
theorem T7(a:Z3)(b:Int):decide ((Sum.inr a:i4)=iW b)=false:=decide_eq_false (λq=>nomatch q)
noncomputable def uy(prog:Z8)(w:ZN):PySem.KeyKind prog w i4 where
 is:=GC
 hash:=X5 w
 inj:=λv a b ha hb=>by
  rcases km ha with ⟨i,t,rfl,rfl⟩ | ⟨x,t,rfl,rfl⟩
  ·rcases km hb with ⟨j,u,rfl,e⟩ | ⟨y,u,rfl,e⟩
   ·injection e with e1 _;rw [e1]
   ·exact nomatch e
  ·rcases km hb with ⟨j,u,rfl,e⟩ | ⟨y,u,rfl,e⟩
   ·exact nomatch e
   ·injection e with e1 _;rw [e1]
 byValue:=λk v h=>by
  rcases km h with ⟨i,t,rfl,rfl⟩ | ⟨x,t,rfl,rfl⟩<;>rfl
 pyHash:=λhv h=>by
  rcases km hv with ⟨i,t,rfl,rfl⟩ | ⟨x,t,rfl,rfl⟩
  ·exact wpAny_pyHash_int h
  ·exact wpAny_pyHash_str h
 eqBool:=λhu hv h=>by
  rcases km hu with ⟨i,t,rfl,rfl⟩ | ⟨x,t,rfl,rfl⟩
  ·rcases km hv with ⟨j,u,rfl,rfl⟩ | ⟨y,u,rfl,rfl⟩
   ·rw [Ui] at h;exact wpAny_eqBool_int h
   ·rw [Ul] at h;exact SeqAt.EqAt.int_str i t y u _ _ _ _ h
  ·rcases km hv with ⟨j,u,rfl,rfl⟩ | ⟨y,u,rfl,rfl⟩
   ·rw [T7] at h;exact SeqAt.EqAt.str_int x t j u _ _ _ _ h
   ·rw [TC] at h;exact wpAny_eqBool_str h
 «strs»:=λk x t v h=>by
  rcases km h with ⟨i,u,rfl,e⟩ | ⟨y,u,rfl,e⟩
  ·exact nomatch e
  ·injection e with e1 _
   subst e1
   cases v<;>rfl
theorem IA(prog:Z8)(w:ZN)(i:Int)(t:Tok):(uy prog w).is (.inl i) (.int i t)=true:=Nd i t
theorem JN(prog:Z8)(w:ZN)(x:Z3)(t:Tok):(uy prog w).is (.inr x) (.str x t)=true:=NN x t
end L2
namespace L2
open PySem PySem.Spec PyProof.Rows
inductive V where
 | non | bl (b:Bool) | int (i:Int) | str (x:Z3) | byt (b:Array UInt8) | flt (b:UInt64) | ref (a:Zh) | ty (n:String)
 deriving DecidableEq
noncomputable def RelV:V->YZ->Prop
 | .non,u=>u=ZI
 | .bl b,u=>u=YZ.bool b
 | .int i,u=>∃ t,u=YZ.int i t
 | .str x,u=>∃ t,u=YZ.str x t
 | .byt b,u=>∃ t,u=YZ.bytes b t
 | .flt b,u=>∃ t,u=YZ.float b t
 | .ref a,u=>u=aA a
 | .ty n,u=>u=bK n
abbrev Vals:List V->List YZ->Prop:=Paired RelV
theorem Vals.length{xs:List V}{us:List YZ}(r:Vals xs us):xs.length=us.length:=Paired.length r
theorem Vals.get:∀ {xs:List V} {us:List YZ} {i:Nat} {x:V},Vals xs us->xs[i]? =YW x->∃ u,us[i]? =YW u/\RelV x u
 | _,_,_,_,.nil,e=>by simp at e
 | _,_,0,_,.cons r _,e=>by simp at e;subst e;exact ⟨_,rfl,r⟩
 | _,_,i+1,x,.cons _ t,e=>by
  obtain ⟨u,h1,h2⟩:=Vals.get (i:=i) (x:=x) t (by simpa using e)
  exact ⟨u,by simpa using h1,h2⟩
theorem Vals.append:∀ {xs ys:List V} {us ws:List YZ},Vals xs us->Vals ys ws->Vals (xs++ys) (us++ws)
 | _,_,_,_,.nil,s=>s
 | _,_,_,_,.cons r t,s=>.cons r (Vals.append t s)
theorem Vals.take:∀ {xs:List V} {us:List YZ} (n:Nat),Vals xs us->Vals (xs.take n) (us.take n)
 | _,_,0,_=>.nil
 | _,_,_+1,.nil=>.nil
 | _,_,n+1,.cons r t=>.cons r (Vals.take n t)
theorem Vals.drop:∀ {xs:List V} {us:List YZ} (n:Nat),Vals xs us->Vals (xs.drop n) (us.drop n)
 | _,_,0,r=>r
 | _,_,_+1,.nil=>.nil
 | _,_,n+1,.cons _ t=>Vals.drop n t
noncomputable def RelO:Option V->Option YZ->Prop
 | some v,YW u=>RelV v u
 | none,YY=>True
 | _,_=>False
noncomputable def KV{κ:Type}:List (κ×V)->List (κ×YZ)->Prop:=Paired λ(p:κ×V) (q:κ×YZ)=>p.1=q.1/\RelV p.2 q.2
noncomputable def kV:i4->V
 | .inl i=>.int i
 | .inr x=>.str x
inductive HO where
 /-- a list -/
 | lst (xs:List V)
 /-- a tuple (never changes) -/
 | tup (xs:List V)
 /-- a dict whose keys are ints and texts;one whose keys are tuples of ints and texts (the empty one is both) -/
 | dK (kvs:List (i4×V)) | dT (kvs:List (List i4×V))
 | dN (ks:List YX)
 /-- a set of ints:its members,its size -/
 | set (S:Int->Bool) (n:Nat)
 /-- an instance of the class at C,its dict at dx,its attributes -/
 | ins (C dx:Zh) (fs:List (Z3×V))
 /-- the dict of the instance at x -/
 | own (x:Zh)
 /-- the dict of an exception -/
 | xd (fs:List (Z3×V))
 /-- a bound method,f of x -/
 | met (f x:Zh)
 /-- a range object lo,lo+1,.. below hi -/
 | rng (lo hi:Int)
 /-- a thing that is known to the object (the script;a dict while a loop walks it):read,never written while it is so -/
 | frz (o:bX) (u:HO)
 /-- a code object's table -/
 | tbl (ps:Array YZ)
 /-- any other thing,by what is true of its one object (a def of one's own:SetO a S n:=HO.ext λh=>..) -/
 | ext (φ:ZM->Prop)
abbrev Hp:=Zh->Option HO
noncomputable def upd(H:Hp)(a:Zh)(o:HO):Hp:=λb=>if b=a then YW o else H b
theorem qr{H:Hp}{a:Zh}{o:HO}:upd H a o a=YW o:=by unfold upd;rw [jn rfl]
theorem qb{H:Hp}{a b:Zh}{o:HO}(h:b≠a):upd H a o b=H b:=by unfold upd;rw [qz h]
theorem VZ{H:Hp}{a b:Zh}{o u:HO}(h:H a=YW o)(h':H b=YW u)(d:o≠u):a≠b:=by
 intro e;subst e;rw [h] at h';exact d (ZS h')
theorem jq{H:Hp}{a b:Zh}{o:HO}(h:H a=YW o)(h':H b=YY):a≠b:=by
 intro e;subst e;rw [h] at h';cases h'
mutual
noncomputable def NR(H:Hp):YX->V->Prop
 | .int i,v=>v= .int i
 | .str x,v=>v= .str x
 | .tuple ds,v=>∃ a vs,v= .ref a/\(H a=YW (.tup vs)∨∃ o,H a=YW (.frz o (.tup vs)))/\NRs H ds vs
 | _,_=>False
noncomputable def NRs(H:Hp):List YX->List V->Prop
 | [],vs=>vs=[]
 | d::ds,vs=>∃ v r,vs=v::r/\NR H d v/\NRs H ds r
end
mutual
theorem NR.mono{H H':Hp}(ht:∀ b xs,H b=YW (.tup xs)->H' b=YW (.tup xs))(hf:∀ b o u,H b=YW (.frz o u)->H' b=YW (.frz o u)):∀ (d:YX) (v:V),NR H d v->NR H' d v
 | .int _,_,x=>x
 | .str _,_,x=>x
 | .tuple ds,_,⟨a,vs,e,h,r⟩=>⟨a,vs,e,h.imp (ht _ _) (λ⟨o,q⟩=>⟨o,hf _ _ _ q⟩),NRs.mono ht hf ds vs r⟩
 | .none,_,x=>x.elim
 | .bool _,_,x=>x.elim
 | .list _,_,x=>x.elim
 | .dict _,_,x=>x.elim
theorem NRs.mono{H H':Hp}(ht:∀ b xs,H b=YW (.tup xs)->H' b=YW (.tup xs))(hf:∀ b o u,H b=YW (.frz o u)->H' b=YW (.frz o u)):∀ (d:List YX) (v:List V),NRs H d v->NRs H' d v
 | [],_,x=>x
 | d::ds,_,⟨v,r,e,h,t⟩=>⟨v,r,e,NR.mono ht hf d v h,NRs.mono ht hf ds r t⟩
end
section
variable(P:Z8)(w:ZN)
noncomputable def ObjOk(H:Hp)(h:ZM)(a:Zh):HO->Prop
 | .lst xs=>xs.length<=Zx/\∃ (its:List YZ) (n:Nat),Vals xs its/\h.get? a=YW {cls:=.type "list",data:=.seq its.toArray n}
 | .tup xs=>xs.length<=Zx/\∃ its:List YZ,Vals xs its/\IsTup h a its.toArray
 | .dK kvs=>kvs.length<=Zx/\(a == cD)=false/\∃ vs,KV kvs vs/\h.DictOf (uy P w) a vs
 | .dT kvs=>kvs.length<=Zx/\(a == cD)=false/\∃ xs:List (List i4×Zh×YZ),
  Paired (λ(p:List i4×V) (q:List i4×Zh×YZ)=>p.1=q.1/\H q.2.1=YW (.tup (p.1.map kV))/\RelV p.2 q.2.2) kvs xs/\
  ∃ o es ep,h.get? a=YW o/\o.ExactDict/\o.data= .dict es ep/\es.toList=xs.map (entryOfKey (tupleKind (uy P w)))/\(xs.map (·.1)).Nodup
 | .dN ks=>ks.length<=Zx/\(a == cD)=false/\∃ xs:List (YX×Zh×YZ),xs.map (·.1)=ks/\(∀ x∈xs,KN.isK x.1/\NR H x.1 (.ref x.2.1))/\
  ∃ o es ep,h.get? a=YW o/\o.ExactDict/\o.data= .dict es ep/\es.toList=xs.map (entryOfKey (KN.nestKind P w))/\(xs.map (·.1)).Nodup
 | .set S n=>h.SetOf (intKind P w) a S n
 | .ins C dx fs=>H dx=YW (.own a)/\fs.length<=1000/\dx≠a/\h.get? a=YW (PySem.W.instObj C dx)/\
  ∃ mA,h.Ns1 dx mA/\(∀ f,RelO (fs.lookup f) (mA f))/\PySem.Within mA (fs.map (·.1))
 | .own _=>∃ o,h.get? a=YW o
 | .xd fs=>∃ mA,h.Ns1 a mA/\∀ f,RelO (fs.lookup f) (mA f)
 | .rng lo hi=>∃ t u v,h.get? a=YW {cls:=.type "range",data:=.fields #[.int lo t,.int hi u,.int 1 v]}
 | .frz o u=>h.get? a=YW o/\ObjOk H h a u
 | .tbl ps=>h.get? a=YW {cls:=.none,data:=.fields ps}
 | .met f x=>h.get? a=YW (PySem.W.methodObj (.ref f) (.ref x))
 | .ext φ=>φ h/\(∃ o,h.get? a=YW o)/\∀ h1 h2:ZM,φ h1->(∀ o,h1.get? a=YW o->h2.get? a=YW o)->φ h2
noncomputable def HOk(H:Hp)(h:ZM):Prop:=∀ a o,H a=YW o->ObjOk P w H h a o
end
section
variable{P:Z8}{w:ZN}{H H':Hp}{h h':ZM}{a:Zh}{o:HO}
theorem ObjOk.lt(x:ObjOk P w H h a o):a < h.objs.size:=by
 cases o with
 | lst xs=>obtain ⟨_,_,_,_,e⟩:=x;exact Z7 e
 | tup xs=>obtain ⟨_,_,_,p⟩:=x;exact p.lt
 | dK kvs=>obtain ⟨_,_,_,_,o,_,_,e,_⟩:=x;exact Z7 e
 | dT kvs=>obtain ⟨_,_,_,_,o,_,_,e,_⟩:=x;exact Z7 e
 | dN ks=>obtain ⟨_,_,_,_,_,o,_,_,e,_⟩:=x;exact Z7 e
 | set S n=>obtain ⟨o,_,_,_,e,_⟩:=x;exact Z7 e
 | ins C dx fs=>obtain ⟨_,_,_,e,_⟩:=x;exact Z7 e
 | own y=>obtain ⟨_,e⟩:=x;exact Z7 e
 | xd fs=>obtain ⟨_,⟨_,_,_,e,_⟩,_⟩:=x;exact Z7 e
 | rng lo hi=>obtain ⟨_,_,_,e⟩:=x;exact Z7 e
 | frz ob u=>obtain ⟨e,_⟩:=x;exact Z7 e
 | tbl ps=>exact Z7 (show h.get? a=YW _ from x)
 | met f y=>exact Z7 (show h.get? a=YW _ from x)
 | ext φ=>obtain ⟨_,⟨_,e⟩,_⟩:=x;exact Z7 e
theorem Paired.mapP{α β:Type}{F G:α->β->Prop}:∀ {l₁:List α} {l₂:List β},Paired F l₁ l₂->(∀ a b,F a b->G a b)->Paired G l₁ l₂
 | _,_,.nil,_=>.nil
 | _,_,.cons r t,f=>.cons (f _ _ r) (Paired.mapP t f)
theorem ObjOk.stay(x:ObjOk P w H h a o)(k:∀ b u,(b=a∨H b=YW (.own a))->h.get? b=YW u->h'.get? b=YW u)
  (ho:∀ b,H b=YW (.own a)->H' b=YW (.own a)) (ht:∀ b xs,H b=YW (.tup xs)->H' b=YW (.tup xs))
  (hf:∀ b o u,H b=YW (.frz o u)->H' b=YW (.frz o u):=by first | exact λ_ _ _ q=>q | exact λ_ _ _ q=>(qb (jq q (by assumption))).trans q):ObjOk P w H' h' a o:=by
 induction o with
 | lst xs=>obtain ⟨z,its,n,r,e⟩:=x;exact ⟨z,its,n,r,k _ _ (.inl rfl) e⟩
 | tup xs=>obtain ⟨z,its,r,ob,e,c⟩:=x;exact ⟨z,its,r,ob,k _ _ (.inl rfl) e,c⟩
 | dK kvs=>obtain ⟨z,y,vs,r,ob,es,ep,e,c⟩:=x;exact ⟨z,y,vs,r,ob,es,ep,k _ _ (.inl rfl) e,c⟩
 | dT kvs=>
  obtain ⟨z,y,xs,r,ob,es,ep,e,c⟩:=x
  exact ⟨z,y,xs,Paired.mapP r λp q z=>⟨z.1,ht _ _ z.2.1,z.2.2⟩,ob,es,ep,k _ _ (.inl rfl) e,c⟩
 | dN ks=>
  obtain ⟨z,y,xs,r1,r2,ob,es,ep,e,c⟩:=x
  exact ⟨z,y,xs,r1,λq hq=>⟨(r2 q hq).1,NR.mono ht hf _ _ (r2 q hq).2⟩,ob,es,ep,k _ _ (.inl rfl) e,c⟩
 | set S n=>obtain ⟨ob,es,ep,t,e,c⟩:=x;exact ⟨ob,es,ep,t,k _ _ (.inl rfl) e,c⟩
 | ins C dx fs=>
  obtain ⟨d,z,ne,e,mA,⟨od,es,ep,e2,c⟩,r⟩:=x
  exact ⟨ho _ d,z,ne,k _ _ (.inl rfl) e,mA,⟨od,es,ep,k _ _ (.inr d) e2,c⟩,r⟩
 | own y=>obtain ⟨ob,e⟩:=x;exact ⟨ob,k _ _ (.inl rfl) e⟩
 | xd fs=>obtain ⟨mA,⟨od,es,ep,e,c⟩,r⟩:=x;exact ⟨mA,⟨od,es,ep,k _ _ (.inl rfl) e,c⟩,r⟩
 | rng lo hi=>obtain ⟨t,u,v,e⟩:=x;exact ⟨t,u,v,k _ _ (.inl rfl) e⟩
 | frz ob u ih=>obtain ⟨e,q⟩:=x;exact ⟨k _ _ (.inl rfl) e,ih q⟩
 | tbl ps=>
  have e:h.get? a=YW {cls:=.none,data:=.fields ps}:=x
  show h'.get? a=YW {cls:=.none,data:=.fields ps}
  exact k a _ (.inl rfl) e
 | met f y=>
  have e:h.get? a=YW (PySem.W.methodObj (.ref f) (.ref y)):=x
  show h'.get? a=YW (PySem.W.methodObj (.ref f) (.ref y))
  exact k a _ (.inl rfl) e
 | ext φ=>obtain ⟨p,⟨o,e⟩,st⟩:=x;exact ⟨st _ _ p λo q=>k _ _ (.inl rfl) q,⟨o,k _ _ (.inl rfl) e⟩,st⟩
theorem HOk.lt(x:HOk P w H h)(e:H a=YW o):a < h.objs.size:=(x a o e).lt
theorem HOk.fresh(x:HOk P w H h)(e:h.objs.size<=a):H a=YY:=by
 cases q:H a with
 | none=>rfl
 | some u=>exact absurd (Zt (x.lt q) e) (bC _)
theorem HOk.kept(x:HOk P w H h)(k:∀ b u,h.get? b=YW u->h'.get? b=YW u):HOk P w H h':=λa o e=>
 (x a o e).stay (λb u _ q=>k b u q) (λ_ q=>q) λ_ _ q=>q
theorem HOk.laid(x:HOk P w H h)(k:∀ b u,h.get? b=YW u->h'.get? b=YW u)(hp:h.objs.size<=a)(new:ObjOk P w (upd H a o) h' a o):HOk P w (upd H a o) h':=λb u e=>by
 have hn:=x.fresh hp
 by_cases hb:b=a
 ·subst hb;rw [qr] at e;cases e;exact new
 ·rw [qb hb] at e
  exact (x b u e).stay (λc v _ q=>k c v q) (λc q=>by rw [qb (jq q hn)];exact q) λc xs q=>by rw [qb (jq q hn)];exact q
end
noncomputable def Rd(H:Hp)(a:Zh)(u:HO):Prop:=H a=YW u∨∃ o,H a=YW (.frz o u)
theorem Rd.ok{P:Z8}{w:ZN}{H:Hp}{h:ZM}{a:Zh}{u:HO}(r:Rd H a u)(x:HOk P w H h):ObjOk P w H h a u:=by
 rcases r with r | ⟨o,r⟩
 ·exact x a u r
 ·obtain ⟨_,q⟩:=x a _ r
  exact q
noncomputable def WT:Option HO->Prop
 | some (.lst _)=>True
 | some (.dK _)=>True
 | some (.dT _)=>True
 | some (.dN _)=>True
 | some (.set _ _)=>True
 | some (.ins _ _ _)=>True
 | some (.ext _)=>True
 | _=>False
section
variable{P:Z8}{w:ZN}{H:Hp}{h h':ZM}{x e:Zh}{o':HO}
theorem HOk.write(ok:HOk P w H h)(mu:WT (H x))(he:e=x∨H e=YW (.own x))(k:∀ b u,b≠e->h.get? b=YW u->h'.get? b=YW u)(heo:∃ u,h'.get? e=YW u)
  (new:ObjOk P w (upd H x o') h' x o'):HOk P w (upd H x o') h':=λb u q=>by
 have nown:∀ c y,H c=YW (.own y)->c≠x:=λc y r z=>by subst z;rw [r] at mu;exact mu
 have ntup:∀ c xs,H c=YW (.tup xs)->c≠x:=λc xs r z=>by subst z;rw [r] at mu;exact mu
 by_cases hb:b=x
 ·subst hb;rw [qr] at q;cases q;exact new
 ·rw [qb hb] at q
  by_cases hbe:b=e
  ·have q':H b=YW (.own x):=by
     rcases he with z | z
     ·exact absurd (hbe.trans z) hb
     ·rw [hbe];exact z
   rw [q] at q';cases q'
   obtain ⟨v,hv⟩:=heo
   exact ⟨v,by rw [hbe];exact hv⟩
  ·refine (ok b u q).stay (λc v hc r=>k c v ?_ r) (λc r=>by rw [qb (nown c b r)];exact r) (λc xs r=>by rw [qb (ntup c xs r)];exact r) (λc o u r=>by rw [qb (λz=>by subst z;rw [r] at mu;exact mu)];exact r)
   rcases hc with rfl | hc
   ·exact hbe
   ·rintro rfl
    rcases he with z | z
    ·exact nown c b hc z
    ·rw [hc] at z;cases z;exact hb rfl
end
structure Un(fs ex:List Zh)(H H':Hp)(h h':ZM):Prop where
 keep:∀ b o,h.get? b=YW o->H b=YY->b∉fs->b∉ex->h'.get? b=YW o
 slot:∀ b o,h.get? b=YW o->H b=YY->b∈fs->b∉ex->∃ sl,h'.get? b=YW {o with slots:=sl}
 free:∀ b o,h.get? b=YW o->H b=YY->b∉ex->H' b=YY
 there:∀ b o,h.get? b=YW o->b∉ex->∃ o',h'.get? b=YW o'
 tups:∀ b xs,H b=YW (.tup xs)->H' b=YW (.tup xs)
 frzs:∀ b o u,H b=YW (.frz o u)->H' b=YW (.frz o u)
 tbls:∀ b ps,H b=YW (.tbl ps)->∃ more,H' b=YW (.tbl (ps++more))
section
variable{fs fs' ex ex':List Zh}{H H1 H2:Hp}{h h1 h2 h':ZM}{a x e:Zh}{o:HO}
theorem Un.any(u:Un fs ex H H1 h h1){b:Zh}{ob:bX}(q:h.get? b=YW ob)(n:H b=YY)(hx:b∉ex):∃ sl,h1.get? b=YW {ob with slots:=sl}:=by
 by_cases hb:b∈fs
 ·exact u.slot b ob q n hb hx
 ·exact ⟨ob.slots,u.keep b ob q n hb hx⟩
theorem Un.trans(a:Un fs ex H H1 h h1)(b:Un fs ex H1 H2 h1 h2):Un fs ex H H2 h h2 where
 keep:=λc ob q n hc hx=>b.keep c ob (a.keep c ob q n hc hx) (a.free c ob q n hx) hc hx
 slot:=λc ob q n hc hx=>by
  obtain ⟨sl,e1⟩:=a.slot c ob q n hc hx
  obtain ⟨sl',e2⟩:=b.slot c _ e1 (a.free c ob q n hx) hc hx
  exact ⟨sl',e2⟩
 free:=λc ob q n hx=>by
  obtain ⟨o',e1⟩:=a.there c ob q hx
  exact b.free c o' e1 (a.free c ob q n hx) hx
 there:=λc ob q hx=>by
  obtain ⟨o',e1⟩:=a.there c ob q hx
  exact b.there c o' e1 hx
 tups:=λc xs q=>b.tups c xs (a.tups c xs q)
 frzs:=λc ob xs q=>b.frzs c ob xs (a.frzs c ob xs q)
 tbls:=λc ps q=>by
  obtain ⟨m1,e1⟩:=a.tbls c ps q
  obtain ⟨m2,e2⟩:=b.tbls c _ e1
  exact ⟨m1++m2,by rw [e2,Array.append_assoc]⟩
theorem Un.kept(k:∀ b u,h.get? b=YW u->h'.get? b=YW u):Un fs ex H H h h':=
 ⟨λb ob q _ _ _=>k b ob q,λb ob q _ _ _=>⟨ob.slots,k b ob q⟩,λ_ _ _ n _=>n,λb ob q _=>⟨ob,k b ob q⟩,λ_ _ q=>q,λ_ _ _ q=>q,λ_ ps q=>⟨#[],by rw [q];simp⟩⟩
theorem Un.refl:Un fs ex H H h h:=Un.kept λ_ _ q=>q
theorem Un.laid(k:∀ b u,h.get? b=YW u->h'.get? b=YW u)(hp:h.objs.size<=a)(hn:H a=YY):Un fs ex H (upd H a o) h h' where
 keep:=λb u q _ _ _=>k b u q
 slot:=λb u q _ _ _=>⟨u.slots,k b u q⟩
 free:=λb u q n _=>by rw [qb (aE (Zt (Z7 q) hp))];exact n
 there:=λb u q _=>⟨u,k b u q⟩
 tups:=λb xs q=>by rw [qb (jq q hn)];exact q
 frzs:=λb u xs q=>by rw [qb (jq q hn)];exact q
 tbls:=λb ps q=>⟨#[],by rw [qb (jq q hn),q];simp⟩
theorem Un.write(mu:WT (H x))(he:e=x∨H e=YW (.own x))(k:∀ b u,b≠e->h.get? b=YW u->h'.get? b=YW u)(heo:∃ u,h'.get? e=YW u):Un fs ex H (upd H x o) h h':=by
 have hx:∀ b,H b=YY->b≠x:=λb n z=>by subst z;rw [n] at mu;exact mu
 have hb:∀ b,H b=YY->b≠e:=λb n z=>by
  subst z
  rcases he with r | r
  ·exact hx b n r
  ·rw [n] at r;cases r
 have hm:∀ b u,H b=YW u->¬ WT (YW u)->b≠x:=λb u q nm z=>by subst z;rw [q] at mu;exact nm mu
 refine ⟨λb u q n _ _=>k b u (hb b n) q,λb u q n _ _=>⟨u.slots,k b u (hb b n) q⟩,λb u q n _=>by rw [qb (hx b n)];exact n,λb u q _=>?_,
  λb xs q=>by rw [qb (hm b _ q λz=>z)];exact q,λb u xs q=>by rw [qb (hm b _ q λz=>z)];exact q,λb ps q=>⟨#[],by rw [qb (hm b _ q λz=>z),q];simp⟩⟩
 by_cases hbe:b=e
 ·subst hbe;exact heo
 ·exact ⟨u,k b u hbe q⟩
theorem Un.mono(u:Un fs ex H H1 h h1)(hs:∀ b∈fs,b∈fs')(hx:∀ b∈ex,b∈ex'):Un fs' ex' H H1 h h1:=
 ⟨λb ob q n hb he=>u.keep b ob q n (λz=>hb (hs b z)) λz=>he (hx b z),λ_ _ q n _ he=>u.any q n λz=>he (hx _ z),λb ob q n he=>u.free b ob q n λz=>he (hx b z),λb ob q he=>u.there b ob q λz=>he (hx b z),u.tups,u.frzs,u.tbls⟩
end
noncomputable def X1(h:ZM)(H:Hp):List Zh:=(ZR h.objs.size).filter λa=>(H a).isSome
noncomputable def FU(h:ZM)(H:Hp):ZM:=PySem.W.hideAll h (X1 h H)
theorem Ni(h:ZM)(H:Hp):(FU h H).objs.size=h.objs.size:=PySem.W.hideAll_size _ _
theorem OW{h:ZM}{H:Hp}{b:Zh}{o:bX}(e:h.get? b=YW o)(n:H b=YY):(FU h H).get? b=YW o:=
 PySem.W.hideAll_get _ e λhm=>by
  have q:(H b).isSome=true:=(List.mem_filter.mp hm).2
  rw [n] at q;simp at q
theorem R0{h:ZM}{H:Hp}{b:Zh}{o:bX}(e:(FU h H).get? b=YW o):h.get? b=YW o/\H b=YY:=by
 have e':h.get? b=YW o:=PySem.W.of_hideAll (X1 h H) e
 refine ⟨e',?_⟩
 cases q:H b with
 | none=>rfl
 | some x=>
  have hm:b∈X1 h H:=List.mem_filter.mpr ⟨gF.mpr (Z7 e'),by simp [q]⟩
  have z:(FU h H).get? b=YY:=hU (X1 h H) hm
  rw [z] at e;cases e
end L2
namespace L2
open PySem PySem.Spec PyProof.Rows
structure Mod(K:Zb)(mg:Z3->Option YZ)(base:ZM):Prop where
 kin:K.In base
 glob:base.Ns ZF mg
 blt:∃ mb,base.Ns builtinsNs mb/\∀ x:Z3,x≠"__name__"->mb x=bE x
 nolimit:base.NoLimit
structure Cx where
 prog:Z8
 w:ZN
 K:Zb
 mg:Z3->Option YZ
 base:ZM
 A:aC
 N:List Z3
 s₀:Zd
 H₀:Hp
 env:Env
 lj:List Env
 stack:List Env
 ex:List Zh
 fn:Z3->Bool
 lu:Bool
 pn:List (Zh×bX)
 xe:YZ->Zd->Prop
noncomputable def sf(l:List Env):List Zh:=l.filterMap (·.frame)
abbrev Cx.fs(X:Cx):List Zh:=sf X.lj
noncomputable def DS(sc:jC)(x:Z3):Prop:=sc.names.lookup x=YW .local∨sc.names.lookup x=YW .cell∨sc.names.lookup x=YW .free
noncomputable def Oi(sc:jC)(x:Z3):Prop:=sc.names.lookup x=YW .local∨sc.names.lookup x=YW .cell
noncomputable def Yb(env:Env)(h:ZM)(m:Z3->Option YZ)(x:Z3)(u:YZ):Prop:=
 (env.kindOf x=YW .local/\m x=YW u)∨((env.kindOf x=YW .cell∨env.kindOf x=YW .free)/\∃ c,env.cells.lookup x=YW c/\h.IsCell c (YW u))
noncomputable def Yw:YZ->Option V
 | .int i _=>YW (.int i)
 | .str x _=>YW (.str x)
 | _=>YY
noncomputable def Rg:List YZ->Option (List V)
 | []=>YW []
 | v::r=>match Yw v,Rg r with
  | some x,YW xs=>YW (x::xs)
  | _,_=>YY
noncomputable def Vq:bX->Option (List V)
 | ⟨.type c,_,.seq its _,_⟩=>if c= "tuple"/\its.size<=Zx then Rg its.toList else YY
 | _=>YY
noncomputable def Sb(K:Zb)(H:Hp)(b:Zh)(o:bX):Prop:=(H b=YY∨∃ u,H b=YW (.frz o u))/\∀ vs,K.lookup b=YW o->Vq o=YW vs->H b=YW (.frz o (.tup vs))
theorem JK:∀ {us:List YZ} {vs:List V},Rg us=YW vs->Vals vs us
 | [],vs,e=>by cases e;exact .nil
 | u::us,vs,e=>by
  unfold Rg at e
  split at e
  ·rename_i x xs h1 h2
   cases e
   refine .cons ?_ (JK h2)
   unfold Yw at h1
   split at h1
   ·cases h1;exact ⟨_,rfl⟩
   ·cases h1;exact ⟨_,rfl⟩
   ·cases h1
  ·cases e
theorem UT{P:Z8}{w:ZN}{H:Hp}{h:ZM}{b:Zh}{o:bX}{vs:List V}(e:h.get? b=YW o)(q:Vq o=YW vs):ObjOk P w H h b (.tup vs):=by
 unfold Vq at q
 split at q
 ·rename_i c dd its n sl
  split at q
  ·rename_i hc
   obtain ⟨rfl,hz⟩:=hc
   have r:=JK q
   have hl:vs.length<=Zx:=by rw [r.length];simpa using hz
   exact ⟨hl,its.toList,r,_,e,rfl,n,by simp⟩
  ·cases q
 ·cases q
structure Cx.Ok(X:Cx):Prop where
 mod:Mod X.K X.mg X.base
 kind:X.env.scope.kind= .function
 glob:X.env.globals=ZF
 blt:X.env.builtins=builtinsNs
 above:X.s₀.heap.objs.size<=X.env.locals
 inj:∀ x y c,X.env.cells.lookup x=YW c->X.env.cells.lookup y=YW c->x=y
 has:∀ x,(X.env.kindOf x=YW .cell∨X.env.kindOf x=YW .free)->∃ c,X.env.cells.lookup x=YW c
 cab:∀ x c,X.fn x=true->X.env.cells.lookup x=YW c->X.s₀.heap.objs.size<=c
 hd:X.lu=true->X.A.handled=YY
 frames:X.A.frames=YW X.stack
 stk:X.stack=X.lj∨(X.stack=X.env::X.lj/\X.env.frame=YW X.env.locals)
 exf:∀ b∈X.ex,b≠X.env.locals/\∀ x c,X.env.cells.lookup x=YW c->c≠b
 bs:∀ b o,X.base.get? b=YW o->X.s₀.heap.get? b=YW o/\Sb X.K X.H₀ b o
 bsz:X.base.objs.size<=X.s₀.heap.objs.size
 noex:∀ b o,X.base.get? b=YW o->b∉X.ex
 exfs:∀ b∈X.ex,b∉X.fs
 funs:X.s₀.heap.FunFrames X.base X.lj
 frf:∀ b∈X.fs,X.H₀ b=YY
structure Inv(X:Cx)(lh:List (Zh×bX))(σ:List (Option V))(H:Hp)(s:Zd):Prop where
 ok:X.Ok
 os:s.os=X.s₀.os
 bare:iG s.gens
 base:Un X.fs X.ex X.H₀ H X.s₀.heap s.heap
 loc:∃ m,s.heap.Ns X.env.locals m/\∀ (i:Nat) (x:Z3) (v:V),X.N[i]? =YW x->σ[i]? =YW (YW v)->DS X.env.scope x->∃ u,RelV v u/\Yb X.env s.heap m x u
 cell:∀ x c,X.env.cells.lookup x=YW c->∃ v,s.heap.IsCell c v
 free:H X.env.locals=YY
 freeC:∀ x c,X.env.cells.lookup x=YW c->H c=YY
 pin:∀ p∈X.pn++lh,s.heap.get? p.1=YW p.2/\H p.1=YY/\p.1≠X.env.locals/\p.1∉X.fs/\∀ v,p.2.data≠.cell v
 hok:HOk X.prog X.w H s.heap
 len:σ.length=X.N.length
section
variable{X:Cx}{lh:List (Zh×bX)}{σ:List (Option V)}{H H':Hp}{s:Zd}{h':ZM}
theorem Cx.Ok.nofr(ok:X.Ok){b:Zh}{o:bX}(e:X.base.get? b=YW o):b∉X.fs:=λhb=>by
 have:=(ok.funs.mem hb).1
 rw [e] at this;cases this
theorem Inv.bs(I:Inv X lh σ H s):∀ b o,X.base.get? b=YW o->s.heap.get? b=YW o/\Sb X.K H b o:=λb o e=>by
 obtain ⟨h1,h2,h3⟩:=I.ok.bs b o e
 have h4:∀ vs,X.K.lookup b=YW o->Vq o=YW vs->H b=YW (.frz o (.tup vs)):=λvs k q=>I.base.frzs b o _ (h3 vs k q)
 rcases h2 with h2 | ⟨u,h2⟩
 ·exact ⟨I.base.keep b o h1 h2 (I.ok.nofr e) (I.ok.noex b o e),.inl (I.base.free b o h1 h2 (I.ok.noex b o e)),h4⟩
 ·have q:=I.base.frzs b o u h2
  exact ⟨(I.hok b _ q).1,.inr ⟨u,q⟩,h4⟩
theorem Inv.bk(I:Inv X lh σ H s):∀ b o,X.base.get? b=YW o->s.heap.get? b=YW o:=λb o e=>(I.bs b o e).1
theorem Inv.mod(I:Inv X lh σ H s):Mod X.K X.mg X.base:=I.ok.mod
theorem Inv.kIn(I:Inv X lh σ H s):X.K.In s.heap:=I.ok.mod.kin.keeps I.bk
theorem Inv.lt(I:Inv X lh σ H s):X.env.locals < s.heap.objs.size:=let ⟨_,hn,_⟩:=I.loc;hn.lt
theorem Inv.sz(I:Inv X lh σ H s):X.s₀.heap.objs.size<=s.heap.objs.size:=Zo I.ok.above (ZX I.lt)
theorem Inv.nofs(I:Inv X lh σ H s){a:Zh}(h:s.heap.objs.size<=a):a∉X.fs:=λhb=>by
 obtain ⟨_,o,ho,_⟩:=I.ok.funs.mem hb
 exact absurd (Zt (Z7 ho) (Zo I.sz h)) (bC _)
theorem Inv.cne(I:Inv X lh σ H s):∀ x c,X.env.cells.lookup x=YW c->c≠X.env.locals:=λx c e z=>by
 obtain ⟨v,o,ho,hd⟩:=I.cell x c e
 obtain ⟨m,⟨o',es,ep,ho',hd',_⟩,_⟩:=I.loc
 rw [z,ho'] at ho;cases ho;rw [hd'] at hd;cases hd
theorem Inv.funs(I:Inv X lh σ H s):s.heap.FunFrames X.base X.lj:=by
 have all:∀ (l:List Env),(∀ b∈sf l,b∈X.fs)->X.s₀.heap.FunFrames X.base l->s.heap.FunFrames X.base l:=by
  intro l
  induction l with
  | nil=>intro _ _;trivial
  | cons env r ih=>
   intro hs hl
   obtain ⟨hk,⟨L,o,hf,hn,ho,hd⟩,hr⟩:=hl
   have hL:L∈X.fs:=hs L (by unfold sf;rw [bP,hf];exact Zz)
   obtain ⟨sl,e⟩:=I.base.slot L o ho (I.ok.frf L hL) hL λz=>I.ok.exfs L z hL
   exact ⟨hk,⟨L,_,hf,hn,e,hd⟩,ih (λb hb=>hs b (by unfold sf;rw [bP,hf];exact Z5 _ hb)) hr⟩
 exact all X.lj (λ_ hb=>hb) I.ok.funs
theorem Inv.stack(I:Inv X lh σ H s):s.heap.FunFrames X.base X.stack:=by
 rcases I.ok.stk with e | ⟨e,hf⟩
 ·rw [e];exact I.funs
 ·rw [e]
  obtain ⟨m,hn,_⟩:=I.loc
  refine .cons (by rw [I.ok.kind];decide) hf hn ?_ I.funs
  exact ZM.get?_none_of_le (Zo I.ok.bsz I.ok.above)
theorem Inv.stkSub(I:Inv X lh σ H s):∀ b∈sf X.stack,b∈X.env.locals::X.fs:=λb hb=>by
 rcases I.ok.stk with e | ⟨e,hf⟩
 ·rw [e] at hb;exact Z5 _ hb
 ·rw [e] at hb
  unfold sf at hb
  rw [bP,hf] at hb
  exact hb
theorem Inv.stkFree(I:Inv X lh σ H s):∀ b∈sf X.stack,H b=YY:=λb hb=>by
 rcases ZP.mp (I.stkSub b hb) with e | hb
 ·rw [e];exact I.free
 ·obtain ⟨_,o,ho,_⟩:=I.ok.funs.mem hb
  exact I.base.free b o ho (I.ok.frf b hb) λz=>I.ok.exfs b z hb
theorem Inv.step{g':Array GenState}{t':Nat}{d':Drawn}{ch:List Zh}(I:Inv X lh σ H s)
  (hch:∀ b∈ch,(b∈X.ex∨X.s₀.heap.objs.size<=b)/\b≠X.env.locals/\(∀ x c,X.env.cells.lookup x=YW c->c≠b)/\∀ p∈X.pn++lh,p.1≠b)
  (keep:∀ b o,b≠X.env.locals->b∉X.fs->b∉ch->s.heap.get? b=YW o->H b=YY->h'.get? b=YW o)
  (slot:∀ b o,b≠X.env.locals->b∈X.fs->b∉ch->s.heap.get? b=YW o->H b=YY->∃ sl,h'.get? b=YW {o with slots:=sl}) (free:∀ b o,b∉ch->s.heap.get? b=YW o->H b=YY->H' b=YY)
  (there:∀ b o,b∉ch->s.heap.get? b=YW o->∃ o',h'.get? b=YW o')
  (tups:∀ b xs,H b=YW (.tup xs)->H' b=YW (.tup xs)) (frzs:∀ b o u,H b=YW (.frz o u)->H' b=YW (.frz o u)) (tbls:∀ b ps,H b=YW (.tbl ps)->∃ more,H' b=YW (.tbl (ps++more)))
  (ns:∀ m,s.heap.Ns X.env.locals m->h'.Ns X.env.locals m) (hok:HOk X.prog X.w H' h') (hg:iG g'):
  Inv X lh σ H' {s with heap:=h',gens:=g',drawn:=d',toks:=t'}:=by
 have neL:∀ b o,X.s₀.heap.get? b=YW o->b≠X.env.locals:=λb o e=>aE (Zt (Z7 e) I.ok.above)
 have neC:∀ b o,X.s₀.heap.get? b=YW o->b∉X.ex->b∉ch:=λb o e hx hb=>by
  rcases (hch b hb).1 with z | z
  ·exact hx z
  ·exact absurd (Zt (Z7 e) z) (bC _)
 have cellK:∀ x c,X.env.cells.lookup x=YW c->∀ v,s.heap.IsCell c v->h'.IsCell c v:=λx c e v ⟨o,ho,hd⟩=>by
  have nch:c∉ch:=λz=>(hch c z).2.2.1 x c e rfl
  by_cases hc:c∈X.fs
  ·obtain ⟨sl,q⟩:=slot c o (I.cne x c e) hc nch ho (I.freeC x c e)
   exact ⟨_,q,hd⟩
  ·exact ⟨o,keep c o (I.cne x c e) hc nch ho (I.freeC x c e),hd⟩
 refine ⟨I.ok,I.os,hg,⟨λb o e n hb hx=>?_,λb o e n hb hx=>?_,λb o e n hx=>?_,λb o e hx=>?_,λb xs e=>tups b xs (I.base.tups b xs e),λb o xs e=>frzs b o xs (I.base.frzs b o xs e),λb ps e=>?_⟩,?_,λx c e=>?_,?_,λx c e=>?_,λp hp=>?_,hok,I.len⟩
 ·exact keep b o (neL b o e) hb (neC b o e hx) (I.base.keep b o e n hb hx) (I.base.free b o e n hx)
 ·obtain ⟨sl,e1⟩:=I.base.slot b o e n hb hx
  obtain ⟨sl',e2⟩:=slot b _ (neL b o e) hb (neC b o e hx) e1 (I.base.free b o e n hx)
  exact ⟨sl',e2⟩
 ·obtain ⟨o',e1⟩:=I.base.there b o e hx
  exact free b o' (neC b o e hx) e1 (I.base.free b o e n hx)
 ·obtain ⟨o',e1⟩:=I.base.there b o e hx
  exact there b o' (neC b o e hx) e1
 ·obtain ⟨m1,e1⟩:=I.base.tbls b ps e
  obtain ⟨m2,e2⟩:=tbls b _ e1
  exact ⟨m1++m2,by rw [e2,Array.append_assoc]⟩
 ·obtain ⟨m,hn,hl⟩:=I.loc
  refine ⟨m,ns m hn,λi x v e1 e2 e3=>?_⟩
  obtain ⟨u,r,l⟩:=hl i x v e1 e2 e3
  refine ⟨u,r,?_⟩
  rcases l with l | ⟨k,c,e,z⟩
  ·exact .inl l
  ·exact .inr ⟨k,c,e,cellK x c e _ z⟩
 ·obtain ⟨v,z⟩:=I.cell x c e
  exact ⟨v,cellK x c e v z⟩
 ·obtain ⟨m,⟨o,_,_,ho,_⟩,_⟩:=I.loc
  exact free _ o (λz=>(hch _ z).2.1 rfl) ho I.free
 ·obtain ⟨v,o,ho,hd⟩:=I.cell x c e
  exact free c o (λz=>(hch c z).2.2.1 x c e rfl) ho (I.freeC x c e)
 ·obtain ⟨e,n,ne,nf,d⟩:=I.pin p hp
  have nch:p.1∉ch:=λz=>(hch p.1 z).2.2.2 p hp rfl
  exact ⟨keep p.1 p.2 ne nf nch e n,free p.1 p.2 nch e n,ne,nf,d⟩
theorem Inv.un{t':Nat}(I:Inv X lh σ H s)(u:Un X.fs [] H H' s.heap h')(hok:HOk X.prog X.w H' h'):Inv X lh σ H' {s with heap:=h',toks:=t'}:=by
 obtain ⟨m,⟨o,es,ep,ho,r⟩,_⟩:=id I.loc
 obtain ⟨sl,hL⟩:=u.any ho I.free (by simp)
 exact I.step (g':=s.gens) (d':=s.drawn) (ch:=[]) (λ_ z=>nomatch z) (λb o _ hb _ e n=>u.keep b o e n hb (by simp)) (λb o _ hb _ e n=>u.slot b o e n hb (by simp)) (λb o _ e n=>u.free b o e n (by simp)) (λb o _ e=>u.there b o e (by simp)) u.tups u.frzs u.tbls (λm' hm=>by
  obtain ⟨o',es',ep',ho',r'⟩:=hm
  rw [ho] at ho';cases ho'
  exact ⟨_,es',ep',hL,r'⟩) hok I.bare
theorem Inv.call{g':Array GenState}{t':Nat}{d':Drawn}{ch:List Zh}(I:Inv X lh σ H s)(u:Un (sf X.stack) ch H H' s.heap h')(hok:HOk X.prog X.w H' h')(hg:iG g')
  (hch:∀ b∈ch,(b∈X.ex∨X.s₀.heap.objs.size<=b)/\b≠X.env.locals/\(∀ x c,X.env.cells.lookup x=YW c->c≠b)/\∀ p∈X.pn++lh,p.1≠b):
  Inv X lh σ H' {s with heap:=h',gens:=g',drawn:=d',toks:=t'}:=by
 obtain ⟨m,⟨o,es,ep,ho,r⟩,_⟩:=id I.loc
 obtain ⟨sl,hL⟩:=u.any ho I.free λz=>(hch _ z).2.1 rfl
 exact I.step (ch:=ch) hch (λb o hL hb hc e n=>u.keep b o e n (λz=>(ZP.mp (I.stkSub b z)).elim hL hb) hc) (λb o _ _ hc e n=>u.any e n hc) (λb o hc e n=>u.free b o e n hc) (λb o hc e=>u.there b o e hc) u.tups u.frzs u.tbls (λm' hm=>by
  obtain ⟨o',es',ep',ho',r'⟩:=hm
  rw [ho] at ho';cases ho'
  exact ⟨_,es',ep',hL,r'⟩) hok hg
theorem Inv.turned{t':Nat}{it:Zh}(I:Inv X lh σ H s)(k:∀ b o,b≠it->s.heap.get? b=YW o->h'.get? b=YW o)(hn:H it=YY)(hL:it≠X.env.locals)
  (h1:it∈X.ex∨X.s₀.heap.objs.size<=it) (h2:∀ x c,X.env.cells.lookup x=YW c->c≠it) (h3:∀ p∈X.pn++lh,p.1≠it):Inv X lh σ H {s with heap:=h',toks:=t'}:=by
 have nit:∀ b u,H b=YW u->b≠it:=λb u e z=>by rw [z,hn] at e;cases e
 refine I.step (g':=s.gens) (d':=s.drawn) (ch:=[it]) (λb hb=>?_) (λb o _ _ hc e _=>k b o (λz=>hc (by simp [z])) e) (λb o _ _ hc e _=>⟨o.slots,k b o (λz=>hc (by simp [z])) e⟩) (λ_ _ _ _ n=>n)
  (λb o hc e=>⟨o,k b o (λz=>hc (by simp [z])) e⟩) (λ_ _ e=>e) (λ_ _ _ e=>e) (λb ps e=>⟨#[],by rw [e];simp⟩) (λm hm=>?_) (λb u e=>?_) I.bare
 ·have e:b=it:=by simpa using hb
  subst e
  exact ⟨h1,hL,h2,h3⟩
 ·obtain ⟨o,es,ep,ho,r⟩:=hm
  exact ⟨o,es,ep,k _ o (eT hL) ho,r⟩
 ·refine (I.hok b u e).stay (λc v hc q=>k c v ?_ q) (λ_ q=>q) λ_ _ q=>q
  rcases hc with z | z
  ·rw [z];exact nit b u e
  ·exact nit c _ z
theorem Inv.tok(I:Inv X lh σ H s)(t:Nat):Inv X lh σ H {s with toks:=t}:=I.un (h':=s.heap) (t':=t) Un.refl I.hok
theorem Inv.kept{t':Nat}(I:Inv X lh σ H s)(k:∀ b u,s.heap.get? b=YW u->h'.get? b=YW u):Inv X lh σ H {s with heap:=h',toks:=t'}:=I.un (Un.kept k) (I.hok.kept k)
theorem Inv.laid{a:Zh}{o:HO}{t':Nat}(I:Inv X lh σ H s)(k:∀ b u,s.heap.get? b=YW u->h'.get? b=YW u)(hp:s.heap.objs.size<=a)(new:ObjOk X.prog X.w (upd H a o) h' a o):
 Inv X lh σ (upd H a o) {s with heap:=h',toks:=t'}:=I.un (Un.laid k hp (I.hok.fresh hp)) (I.hok.laid k hp new)
theorem Inv.write{x e:Zh}{o:HO}{t':Nat}(I:Inv X lh σ H s)(mu:WT (H x))(he:e=x∨H e=YW (.own x))(k:∀ b u,b≠e->s.heap.get? b=YW u->h'.get? b=YW u)(heo:∃ u,h'.get? e=YW u)
 (new:ObjOk X.prog X.w (upd H x o) h' x o):Inv X lh σ (upd H x o) {s with heap:=h',toks:=t'}:=I.un (Un.write mu he k heo) (I.hok.write mu he k heo new)
theorem Inv.pins_of{pins':List (Zh×bX)}(I:Inv X lh σ H s)(h:∀ p∈pins',s.heap.get? p.1=YW p.2/\H p.1=YY/\p.1≠X.env.locals/\p.1∉X.fs/\∀ v,p.2.data≠.cell v):Inv X pins' σ H s:=
 ⟨I.ok,I.os,I.bare,I.base,I.loc,I.cell,I.free,I.freeC,λp hp=>(aO.mp hp).elim (λz=>I.pin p (eZ _ z)) (h p),I.hok,I.len⟩
theorem Fu{N:List Z3}(hN:N.Nodup){i j:Nat}{x:Z3}(a:N[i]? =YW x)(b:N[j]? =YW x):i=j:=by
 obtain ⟨h1,e1⟩:=Zi.mp a
 obtain ⟨h2,e2⟩:=Zi.mp b
 exact (List.getElem_inj hN).mp (e1.trans e2.symm)
theorem Ny{M:Model}{A:aC}{E:YZ->Zd->Prop}{i:Nat}{x:Z3}{v:V}{u:YZ}{Q:Unit->Zd->Prop}(I:Inv X lh σ H s)(hN:X.N.Nodup)(hi:X.N[i]? =YW x)(hx:Oi X.env.scope x)(r:RelV v u)
  (h:∀ s',Inv X lh (σ.set i (YW v)) H s'->(∃ a,fJ a s.heap s'.heap/\(a=X.env.locals∨X.env.cells.lookup x=YW a))->Q () s') (hf:X.fn x=true∨X.env.scope.names.lookup x=YW .local:=by first | exact .inl rfl | exact .inr rfl | assumption):Z0 M A (storeName X.env x u) Q E s:=by
 obtain ⟨m,hn,hl⟩:=id I.loc
 have hcls:(X.env.scope.kind == .class || (X.env.scope.kind == .module && X.env.locals != X.env.globals))=false:=by rw [I.ok.kind];rfl
 have hiσ:i < σ.length:=by rw [I.len];exact (Zi.mp hi).1
 have cne:=I.cne
 have tracked:∀ {a:Zh} {h':ZM},(∃ o,s.heap.get? a=YW o/\H a=YY)->fJ a s.heap h'->HOk X.prog X.w H h':=λ{a h'} ha hs b ob e=>by
  obtain ⟨_,_,hfree⟩:=ha
  refine (I.hok b ob e).stay (λc w' hc q=>(hs.2 c ?_).trans q) (λ_ q=>q) λ_ _ q=>q
  rintro rfl
  rcases hc with rfl | hc
  ·rw [hfree] at e;cases e
  ·rw [hfree] at hc;cases hc
 rcases hx with hk | hk
 ·refine wpAny_storeName_local hk hn (λh' hn' hs=>?_) hcls
  obtain ⟨oL,_,_,hoL,_⟩:=id hn
  refine h _ ⟨I.ok,I.os,I.bare,⟨λb o e n hb hx=>?_,λb o e n hb hx=>?_,I.base.free,λb o e hx=>?_,I.base.tups,I.base.frzs,I.base.tbls⟩,⟨_,hn',λj y v' e1 e2 e3=>?_⟩,λy c e=>?_,I.free,I.freeC,λp hp=>?_,tracked ⟨oL,hoL,I.free⟩ hs,by simpa using I.len⟩ ⟨_,hs,.inl rfl⟩
  ·exact (hs.2 b (aE (Zt (Z7 e) I.ok.above))).trans (I.base.keep b o e n hb hx)
  ·obtain ⟨sl,e1⟩:=I.base.slot b o e n hb hx
   exact ⟨sl,(hs.2 b (aE (Zt (Z7 e) I.ok.above))).trans e1⟩
  ·obtain ⟨o',e1⟩:=I.base.there b o e hx
   exact ⟨o',(hs.2 b (aE (Zt (Z7 e) I.ok.above))).trans e1⟩
  ·by_cases hj:j=i
   ·subst hj
    rw [hi] at e1;cases e1
    rw [gG hiσ] at e2
    cases e2
    exact ⟨u,r,.inl ⟨hk,by simp⟩⟩
   ·rw [fA (eT hj)] at e2
    obtain ⟨u',r',q⟩:=hl j y v' e1 e2 e3
    refine ⟨u',r',?_⟩
    rcases q with ⟨k,e⟩ | ⟨k,c,e,z⟩
    ·refine .inl ⟨k,?_⟩
     have:y≠x:=λe=>hj (Fu hN e1 (e ▸ hi))
     simp [this,e]
    ·exact .inr ⟨k,c,e,z.sameBut hs (cne y c e)⟩
  ·obtain ⟨w',z⟩:=I.cell y c e
   exact ⟨w',z.sameBut hs (cne y c e)⟩
  ·obtain ⟨e,n,ne,nf,d⟩:=I.pin p hp
   exact ⟨(hs.2 p.1 ne).trans e,n,ne,nf,d⟩
 ·have hfn:X.fn x=true:=by
    rcases hf with z | z
    ·exact z
    ·rw [z] at hk;cases hk
  obtain ⟨c,hc⟩:=I.ok.has x (.inl hk)
  obtain ⟨w',z⟩:=I.cell x c hc
  refine wpAny_storeName_cell I.ok.kind hk hc z (λh' hc' hs=>?_)
  obtain ⟨oc,hoc,hocd⟩:=id z
  refine h {s with heap:=h'} ⟨I.ok,I.os,I.bare,⟨λb o e n hb hx=>?_,λb o e n hb hx=>?_,I.base.free,λb o e hx=>?_,I.base.tups,I.base.frzs,I.base.tbls⟩,⟨m,hn.sameBut hs (eT (cne x c hc)),λj y v' e1 e2 e3=>?_⟩,λy c' e=>?_,I.free,I.freeC,λp hp=>?_,tracked ⟨oc,hoc,I.freeC x c hc⟩ hs,by simpa using I.len⟩ ⟨c,hs,.inr hc⟩
  ·exact (hs.2 b (aE (Zt (Z7 e) (I.ok.cab x c hfn hc)))).trans (I.base.keep b o e n hb hx)
  ·obtain ⟨sl,e1⟩:=I.base.slot b o e n hb hx
   exact ⟨sl,(hs.2 b (aE (Zt (Z7 e) (I.ok.cab x c hfn hc)))).trans e1⟩
  ·obtain ⟨o',e1⟩:=I.base.there b o e hx
   exact ⟨o',(hs.2 b (aE (Zt (Z7 e) (I.ok.cab x c hfn hc)))).trans e1⟩
  ·by_cases hj:j=i
   ·subst hj
    rw [hi] at e1;cases e1
    rw [gG hiσ] at e2
    cases e2
    exact ⟨u,r,.inr ⟨.inl hk,c,hc,hc'⟩⟩
   ·rw [fA (eT hj)] at e2
    obtain ⟨u',r',q⟩:=hl j y v' e1 e2 e3
    refine ⟨u',r',?_⟩
    rcases q with q | ⟨k,c',e,z'⟩
    ·exact .inl q
    ·refine .inr ⟨k,c',e,z'.sameBut hs ?_⟩
     rintro rfl
     exact hj (Fu hN e1 (I.ok.inj _ _ _ e hc ▸ hi))
  ·by_cases hcc:c'=c
   ·subst hcc;exact ⟨_,hc'⟩
   ·obtain ⟨w2,z2⟩:=I.cell y c' e
    exact ⟨w2,z2.sameBut hs hcc⟩
  ·obtain ⟨e,n,ne,nf,d⟩:=I.pin p hp
   refine ⟨(hs.2 p.1 ?_).trans e,n,ne,nf,d⟩
   intro q
   rw [q,hoc] at e
   have q':oc=p.2:=ZS e
   exact d w' (by rw [<- q'];exact hocd)
theorem Cf{M:Model}{A:aC}{E:YZ->Zd->Prop}{i:Nat}{x:Z3}{v:V}{u:YZ}{Q:Unit->Zd->Prop}(I:Inv X lh σ H s)(hN:X.N.Nodup)(hi:X.N[i]? =YW x)(hx:Oi X.env.scope x)(r:RelV v u)
  (h:∀ s',Inv X lh (σ.set i (YW v)) H s'->Q () s') (hf:X.fn x=true∨X.env.scope.names.lookup x=YW .local:=by first | exact .inl rfl | exact .inr rfl | assumption):Z0 M A (storeName X.env x u) Q E s:=
 Ny I hN hi hx r (λs' I' _=>h s' I') hf
theorem Inv.call'{s':Zd}{ch:List Zh}(I:Inv X lh σ H s)(ho:s'.os=s.os)(u:Un (sf X.stack) ch H H' s.heap s'.heap)(hok:HOk X.prog X.w H' s'.heap)(hg:iG s'.gens)
  (hch:∀ b∈ch,(b∈X.ex∨X.s₀.heap.objs.size<=b)/\b≠X.env.locals/\(∀ x c,X.env.cells.lookup x=YW c->c≠b)/\∀ p∈X.pn++lh,p.1≠b):Inv X lh σ H' s':=by
 obtain ⟨h',g',d',t',o'⟩:=s'
 have e:o'=s.os:=ho
 subst e
 exact I.call (g':=g') (t':=t') (d':=d') u hok hg hch
end
abbrev XK:=YZ->Option Zh->Hp->Prop
abbrev St:=List (Option V)
abbrev VK:=V->Hp->Prop
abbrev TE:=St->Hp->VK->Prop
abbrev TT:=St->Hp->(Bool->Hp->Prop)->Prop
abbrev TA:=St->Hp->(List V->Hp->Prop)->Prop
structure Ends where
 nx:St->Hp->Prop
 rt:VK
 bk:St->Hp->Prop:=λ_ _=>False
 ct:St->Hp->Prop:=λ_ _=>False
abbrev TS:=Ends->St->Hp->Prop
noncomputable def EP(X:Cx)(lh:List (Zh×bX))(σ:St)(Q:VK)(u:YZ)(s':Zd):Prop:=∃ v H',Inv X lh σ H' s'/\RelV v u/\Q v H'
noncomputable def TP(X:Cx)(lh:List (Zh×bX))(σ:St)(Q:Bool->Hp->Prop)(b:Bool)(s':Zd):Prop:=∃ H',Inv X lh σ H' s'/\Q b H'
noncomputable def AP(X:Cx)(lh:List (Zh×bX))(σ:St)(Q:List V->Hp->Prop)(us:List YZ)(s':Zd):Prop:=∃ vs H',Inv X lh σ H' s'/\Vals vs us/\Q vs H'
noncomputable def SP(X:Cx)(lh:List (Zh×bX))(D:Ends)(f:Flow)(s':Zd):Prop:=
 match f with
 | .next=>∃ σ' H',Inv X lh σ' H' s'/\D.nx σ' H'
 | .brk=>∃ σ' H',Inv X lh σ' H' s'/\D.bk σ' H'
 | .cont=>∃ σ' H',Inv X lh σ' H' s'/\D.ct σ' H'
 | .ret u=>∃ v σ' H',Inv X lh σ' H' s'/\RelV v u/\D.rt v H'
noncomputable def PE(X:Cx)(e:ZY)(t:TE):Prop:=
 ∀ (lh:List (Zh×bX)) (s:Zd) (σ:St) (H:Hp) (Q:VK),Inv X lh σ H s->t σ H Q->Z0 (ZD X.prog X.w) X.A (bB e X.env) (EP X lh σ Q) X.xe s
noncomputable def PT(X:Cx)(e:ZY)(t:TT):Prop:=
 ∀ (lh:List (Zh×bX)) (s:Zd) (σ:St) (H:Hp) (Q:Bool->Hp->Prop),Inv X lh σ H s->t σ H Q->Z0 (ZD X.prog X.w) X.A (isTrue e X.env (bB e X.env)) (TP X lh σ Q) X.xe s
noncomputable def PW(X:Cx)(e:ZY)(t:TT):Prop:=
 ∀ (whole:Sem YZ) (lh:List (Zh×bX)) (s:Zd) (σ:St) (H:Hp) (Q:Bool->Hp->Prop),Inv X lh σ H s->t σ H Q->Z0 (ZD X.prog X.w) X.A (isTrue e X.env whole) (TP X lh σ Q) X.xe s
theorem PW.pt{X:Cx}{e:ZY}{t:TT}(h:PW X e t):PT X e t:=h _
noncomputable def PA(X:Cx)(es:List ZY)(t:TA):Prop:=
 ∀ (pos:eE) (lh:List (Zh×bX)) (s:Zd) (σ:St) (H:Hp) (Q:List V->Hp->Prop),Inv X lh σ H s->t σ H Q->Z0 (ZD X.prog X.w) X.A (spliced (aF pos (Zf es X.env))) (AP X lh σ Q) X.xe s
noncomputable def PS(X:Cx)(st:aG)(t:TS):Prop:=
 ∀ (lh:List (Zh×bX)) (s:Zd) (σ:St) (H:Hp) (D:Ends),Inv X lh σ H s->t D σ H->Z0 (ZD X.prog X.w) X.A (exec st X.env) (SP X lh D) X.xe s
noncomputable def PSs(X:Cx)(st:List aG)(t:TS):Prop:=
 ∀ (lh:List (Zh×bX)) (s:Zd) (σ:St) (H:Hp) (D:Ends),Inv X lh σ H s->t D σ H->Z0 (ZD X.prog X.w) X.A (execs st X.env) (SP X lh D) X.xe s
theorem bj{α:Type}{t:Sem α}{Q Q':α->Zd->Prop}{M:Model}{A:aC}{E:YZ->Zd->Prop}{s:Zd}(h:Z0 M A t Q E s)(hQ:∀ a s,Q a s->Q' a s):Z0 M A t Q' E s:=fB h hQ λ_ _ x=>x
end L2
namespace L2
open PySem PySem.Spec PyProof.Rows
section
variable{X:Cx}
noncomputable def Qr(i:Nat):TE:=λσ H Q=>∃ v,σ[i]? =YW (YW v)/\Q v H
noncomputable def tC(v:V):TE:=λ_ H Q=>Q v H
theorem vo{i:Nat}{x:Z3}{pos:eE}(hN:X.N[i]? =YW x)(hv:DS X.env.scope x)(hd:(x == ("__debug__":Z3))=false:=by decide)(hcd:(x == ("__classdict__":Z3))=false:=by decide):PE X (.Name x pos) (Qr i):=by
 intro lh s σ H Q I h
 obtain ⟨v,e,h⟩:=h
 obtain ⟨m,hn,hl⟩:=I.loc
 obtain ⟨u,r,l⟩:=hl i x v hN e hv
 have fin:EP X lh σ Q u s:=⟨v,H,I,r,h⟩
 rcases l with ⟨hk,hm⟩ | ⟨hk,c,hc,hcell⟩
 ·exact wpAny_Name (wpAny_loadName_local I.ok.kind hk hn hm fin) hd
 ·rcases hk with hk | hk
  ·exact wpAny_Name (wpAny_loadName_cell I.ok.kind hk hc hcell fin) hd
  ·exact wpAny_Name (wpAny_loadName_free I.ok.kind hk hc hcell fin hcd) hd
theorem KQ{i j pos}:PE X (.Constant (.int i) j pos) (tC (.int i)):=λ_ _ _ H _ I h=>wpAny_Constant_int ⟨.int i,H,I.tok _,⟨_,rfl⟩,h⟩
theorem Tt{b j pos}:PE X (.Constant (.bool b) j pos) (tC (.bl b)):=λ_ _ _ H _ I h=>Constant_bool ⟨.bl b,H,I,rfl,h⟩
theorem UR{j pos}:PE X (.Constant .none j pos) (tC .non):=λ_ _ _ H _ I h=>Constant_none ⟨.non,H,I,rfl,h⟩
theorem Po{x j pos}:PE X (.Constant (.str x) j pos) (tC (.str x)):=λ_ _ _ H _ I h=>Calls.Constant_str ⟨.str x,H,I.tok _,⟨_,rfl⟩,h⟩
noncomputable def Gl(X:Cx)(x:Z3):Prop:=X.env.kindOf x=YW .globalImplicit
theorem C3{E:YZ->Zd->Prop}{lh:List (Zh×bX)}{s:Zd}{σ:St}{H:Hp}{x:Z3}{u:YZ}{pos:eE}{Q:YZ->Zd->Prop}(I:Inv X lh σ H s)(hg:Gl X x)(hm:X.mg x=YW u)(h:Q u s)
  (hd:(x == ("__debug__":Z3))=false:=by decide):Z0 (ZD X.prog X.w) X.A (bB (.Name x pos) X.env) Q E s:=
 Calls.Name_function_global I.ok.kind hg (Calls.loadGlobal_global (by rw [I.ok.glob];exact I.mod.glob.keeps I.bk) hm h) hd
theorem Dj{E:YZ->Zd->Prop}{lh:List (Zh×bX)}{s:Zd}{σ:St}{H:Hp}{x:Z3}{u:YZ}{pos:eE}{Q:YZ->Zd->Prop}(I:Inv X lh σ H s)(hg:Gl X x)(hm:X.mg x=YY)(hv:bE x=YW u)(h:Q u s)
  (hn:x≠"__name__":=by decide) (hd:(x == ("__debug__":Z3))=false:=by decide):Z0 (ZD X.prog X.w) X.A (bB (.Name x pos) X.env) Q E s:=by
 obtain ⟨mb,h1,h2⟩:=I.mod.blt
 exact Calls.Name_function_global I.ok.kind hg (Calls.loadGlobal_builtin (by rw [I.ok.glob];exact I.mod.glob.keeps I.bk) hm (by rw [I.ok.blt];exact h1.keeps I.bk) ((h2 x hn).trans hv) h) hd
theorem GX{x:Z3}{v:V}{u:YZ}{pos:eE}(hg:Gl X x)(hm:X.mg x=YW u)(r:RelV v u)(hd:(x == ("__debug__":Z3))=false:=by decide):PE X (.Name x pos) (tC v):=
 λ_ _ _ H _ I h=>C3 I hg hm ⟨v,H,I,r,h⟩ hd
theorem LV{x:Z3}{v:V}{u:YZ}{pos:eE}(hg:Gl X x)(hm:X.mg x=YY)(hv:bE x=YW u)(r:RelV v u)(hn:x≠"__name__":=by decide)(hd:(x == ("__debug__":Z3))=false:=by decide):PE X (.Name x pos) (tC v):=
 λ_ _ _ H _ I h=>Dj I hg hm hv ⟨v,H,I,r,h⟩ hn hd
variable{a b:ZY}{ta tb:TE}{pos:eE}
noncomputable def tB(t:TE):TT:=λσ H Q=>t σ H λx H1=>∃ c,x= .bl c/\Q c H1
theorem Vv{e:ZY}{t:TE}(h:PE X e t)(he:∀ whole,isTrue e X.env whole=(do let v <- whole;standAt e.pos;holding [v] (truthy v)):=by intro _;rfl):PT X e (tB t):=by
 intro lh s σ H Q I hw
 refine isTrue_plain (bj (h lh s σ H _ I hw) λv s1 ⟨x,H1,I1,r1,q1⟩=>?_) (he _)
 obtain ⟨d,rfl,q⟩:=q1
 cases r1
 exact dJ ⟨H1,I1,q⟩
variable{tA tB':TT}{rest:List ZY}
noncomputable def XW(t u:TT):TT:=λσ H Q=>t σ H λc H1=>if c=true then u σ H1 Q else Q false H1
noncomputable def YJ(t u:TT):TT:=λσ H Q=>t σ H λc H1=>if c=true then Q true H1 else u σ H1 Q
noncomputable def Ye(t:TT):TT:=λσ H Q=>t σ H λc H1=>Q (!c) H1
theorem RT(ha:PT X a tA):PW X (.BoolOp .And [a] pos) tA:=by
 intro wh lh s σ H Q I h
 refine isTrue_and (bj (ha lh s σ H Q I h) λc s1 e=>?_)
 cases c with
 | true=>exact isTrue_and_nil e
 | false=>exact e
theorem Ud(ha:PT X a tA):PW X (.BoolOp .Or [a] pos) tA:=by
 intro wh lh s σ H Q I h
 refine isTrue_or (bj (ha lh s σ H Q I h) λc s1 e=>?_)
 cases c with
 | false=>exact isTrue_or_nil e
 | true=>exact e
theorem Vl(ha:PT X a tA)(hb:PW X (.BoolOp .And (b::rest) pos) tB'):PW X (.BoolOp .And (a::b::rest) pos) (XW tA tB'):=by
 intro wh lh s σ H Q I h
 refine isTrue_and (bj (ha lh s σ H _ I h) λc s1 ⟨H1,I1,q1⟩=>?_)
 cases c with
 | true=>exact hb wh lh s1 σ H1 Q I1 q1
 | false=>exact ⟨H1,I1,q1⟩
theorem VL(ha:PT X a tA)(hb:PW X (.BoolOp .Or (b::rest) pos) tB'):PW X (.BoolOp .Or (a::b::rest) pos) (YJ tA tB'):=by
 intro wh lh s σ H Q I h
 refine isTrue_or (bj (ha lh s σ H _ I h) λc s1 ⟨H1,I1,q1⟩=>?_)
 cases c with
 | true=>exact ⟨H1,I1,q1⟩
 | false=>exact hb wh lh s1 σ H1 Q I1 q1
theorem Vf(ha:PT X a tA):PT X (.UnaryOp .Not a pos) (Ye tA):=by
 intro lh s σ H Q I h
 exact isTrue_not (ha lh s σ H (λc H1=>Q (!c) H1) I h)
noncomputable def VX(ta tb:TE):TE:=λσ H Q=>ta σ H λx H1=>∃ c,x= .bl c/\if c=true then tb σ H1 Q else Q (.bl false) H1
noncomputable def X7(ta tb:TE):TE:=λσ H Q=>ta σ H λx H1=>∃ c,x= .bl c/\if c=true then Q (.bl true) H1 else tb σ H1 Q
noncomputable def Xe(ta:TE):TE:=λσ H Q=>ta σ H λx H1=>∃ c,x= .bl c/\Q (.bl (!c)) H1
theorem Vj{op}{t:TE}(h:PE X a t):PE X (.BoolOp op [a] pos) t:=λlh s σ H Q I hw=>BoolOp_one (h lh s σ H Q I hw)
theorem Ut(ha:PE X a ta)(hb:PE X (.BoolOp .And (b::rest) pos) tb):PE X (.BoolOp .And (a::b::rest) pos) (VX ta tb):=by
 intro lh s σ H Q I h
 refine BoolOp_and (bj (ha lh s σ H _ I h) λv s1 ⟨x,H1,I1,r1,q1⟩=>?_)
 obtain ⟨c,rfl,q1⟩:=q1
 cases r1
 refine dJ ?_
 cases c with
 | true=>exact hb lh s1 σ H1 Q I1 q1
 | false=>exact ⟨.bl false,H1,I1,rfl,q1⟩
theorem WY(ha:PE X a ta)(hb:PE X (.BoolOp .Or (b::rest) pos) tb):PE X (.BoolOp .Or (a::b::rest) pos) (X7 ta tb):=by
 intro lh s σ H Q I h
 refine BoolOp_or (bj (ha lh s σ H _ I h) λv s1 ⟨x,H1,I1,r1,q1⟩=>?_)
 obtain ⟨c,rfl,q1⟩:=q1
 cases r1
 refine dJ ?_
 cases c with
 | false=>exact hb lh s1 σ H1 Q I1 q1
 | true=>exact ⟨.bl true,H1,I1,rfl,q1⟩
theorem Uj(ha:PE X a ta):PE X (.UnaryOp .Not a pos) (Xe ta):=by
 intro lh s σ H Q I h
 refine UnaryOp_ (bj (ha lh s σ H _ I h) λv s1 ⟨x,H1,I1,r1,q1⟩=>?_)
 obtain ⟨c,rfl,q1⟩:=q1
 cases r1
 exact not_of (dJ ⟨.bl (!c),H1,I1,rfl,q1⟩)
noncomputable def YM(t:TT)(ta tb:TE):TE:=λσ H Q=>t σ H λc H1=>if c=true then ta σ H1 Q else tb σ H1 Q
theorem JQ{c:ZY}(hc:PT X c tA)(ha:PE X a ta)(hb:PE X b tb):PE X (.IfExp c a b pos) (YM tA ta tb):=by
 intro lh s σ H Q I h
 refine wpAny_IfExp (bj (hc lh s σ H _ I h) λd s1 ⟨H1,I1,q1⟩=>?_)
 cases d with
 | true=>exact ha lh s1 σ H1 Q I1 q1
 | false=>exact hb lh s1 σ H1 Q I1 q1
end
end L2
namespace L2
open PySem PySem.Spec PyProof.Rows
noncomputable def SqL(K:Zb)(H:Hp)(a:Zh)(xs:List V):Prop:=
 Rd H a (.lst xs)∨
  ∃ (o:bX) (its:Array YZ) (n:Nat),K.lookup a=YW o/\o.cls= .type "list"/\o.dict=YY/\o.data= .seq its n/\its.size<=Zx/\Vals xs its.toList
noncomputable def Di(K:Zb)(H:Hp)(a:Zh)(xs:List V):Prop:=
 Rd H a (.tup xs)∨
  ∃ (o:bX) (its:Array YZ) (n:Nat),K.lookup a=YW o/\o.cls= .type "tuple"/\o.data= .seq its n/\its.size<=Zx/\Vals xs its.toList
noncomputable def Yj:YZ->Option V
 | .none=>YW .non
 | .bool b=>YW (.bl b)
 | .int i _=>YW (.int i)
 | .str x _=>YW (.str x)
 | .bytes b _=>YW (.byt b)
 | .float b _=>YW (.flt b)
 | .ref a=>YW (.ref a)
 | .type n=>YW (.ty n)
 | _=>YY
theorem RelV.abs{x:V}{u:YZ}(r:RelV x u):Yj u=YW x:=by
 cases x with
 | non=>cases r;rfl
 | bl _=>cases r;rfl
 | int _=>obtain ⟨t,rfl⟩:=r;rfl
 | str _=>obtain ⟨t,rfl⟩:=r;rfl
 | byt _=>obtain ⟨t,rfl⟩:=r;rfl
 | flt _=>obtain ⟨t,rfl⟩:=r;rfl
 | ref _=>cases r;rfl
 | ty _=>cases r;rfl
theorem RelV.inj{x y:V}{u:YZ}(r:RelV x u)(q:RelV y u):x=y:=ZS (r.abs.symm.trans q.abs)
theorem Vals.inj:∀ {xs ys:List V} {us:List YZ},Vals xs us->Vals ys us->xs=ys
 | _,_,_,.nil,.nil=>rfl
 | _,_,_,.cons r t,.cons r' t'=>by rw [r.inj r',Vals.inj t t']
section
variable{X:Cx}{lh:List (Zh×bX)}{σ:St}{H:Hp}{s:Zd}{a:Zh}{xs ys:List V}
theorem SqL.of{K:Zb}(h:H a=YW (.lst xs)):SqL K H a xs:=.inl (.inl h)
theorem Inv.list(I:Inv X lh σ H s)(h:SqL X.K H a xs):∃ its:List YZ,Vals xs its/\PlainL s.heap a its.toArray/\xs.length<=Zx:=by
 rcases h with h | ⟨o,its,n,hk,hc,hd,hs,hz,r⟩
 ·obtain ⟨z,its,n,r,e⟩:=h.ok I.hok
  exact ⟨its,r,⟨_,n,e,rfl,rfl,rfl⟩,z⟩
 ·refine ⟨its.toList,r,⟨o,n,I.kIn a o hk,hc,hd,by simpa using hs⟩,?_⟩
  have e:=r.length
  simp only [Array.length_toList] at e
  omega
theorem Inv.tuple(I:Inv X lh σ H s)(h:Di X.K H a xs):∃ its:List YZ,Vals xs its/\IsTup s.heap a its.toArray/\xs.length<=Zx:=by
 rcases h with h | ⟨o,its,n,hk,hc,hs,hz,r⟩
 ·obtain ⟨z,its,r,p⟩:=h.ok I.hok
  exact ⟨its,r,p,z⟩
 ·refine ⟨its.toList,r,⟨o,I.kIn a o hk,hc,n,by simpa using hs⟩,?_⟩
  have e:=r.length
  simp only [Array.length_toList] at e
  omega
theorem Inv.list_inj(I:Inv X lh σ H s)(h:SqL X.K H a xs)(h':SqL X.K H a ys):xs=ys:=by
 obtain ⟨its,r,⟨o,n,e,_,_,d⟩,_⟩:=I.list h
 obtain ⟨its',r',⟨o',n',e',_,_,d'⟩,_⟩:=I.list h'
 rw [e] at e';cases e'
 rw [d] at d'
 injection d' with d1 _
 have:its=its':=by simpa using congrArg Array.toList d1
 subst this
 exact r.inj r'
theorem Inv.tuple_inj(I:Inv X lh σ H s)(h:Di X.K H a xs)(h':Di X.K H a ys):xs=ys:=by
 obtain ⟨its,r,⟨o,e,_,n,d⟩,_⟩:=I.tuple h
 obtain ⟨its',r',⟨o',e',_,n',d'⟩,_⟩:=I.tuple h'
 rw [e] at e';cases e'
 rw [d] at d'
 injection d' with d1 _
 have:its=its':=by simpa using congrArg Array.toList d1
 subst this
 exact r.inj r'
end
section
variable{X:Cx}{st:aG}{rest:List aG}{t u:TS}{e:ZY}{te:TE}{pos:eE}
noncomputable def WW:TS:=λD σ H=>D.nx σ H
noncomputable def Yg(t u:TS):TS:=λD σ H=>t {D with nx:=u D} σ H
theorem SF:PSs X [] WW:=λ_ _ σ H _ I h=>iD ⟨σ,H,I,h⟩
theorem OD(h1:PS X st t)(h2:PSs X rest u):PSs X (st::rest) (Yg t u):=by
 intro lh s σ H D I h
 refine wpAny_execs_cons (bj (h1 lh s σ H {D with nx:=u D} I h) λf s1 q=>?_)
 cases f with
 | next=>
  obtain ⟨σ',H',I',q⟩:=q
  exact h2 lh s1 σ' H' D I' q
 | ret v=>exact q
 | brk=>exact q
 | cont=>exact q
theorem RM(h1:PS X st t):PSs X [st] t:=by
 intro lh s σ H D I h
 refine wpAny_execs_cons (bj (h1 lh s σ H D I h) λf s1 q=>?_)
 cases f with
 | next=>exact iD q
 | ret v=>exact q
 | brk=>exact q
 | cont=>exact q
theorem Inv.quiet{lh:List (Zh×bX)}{σ:St}{H:Hp}{s:Zd}(I:Inv X lh σ H s):interactive X.env=false:=by simp [interactive,I.ok.kind]
noncomputable def WD(te:TE):TS:=λD σ H=>te σ H λ_ H1=>D.nx σ H1
theorem Ab(he:PE X e te)(hs:cB e YY pos.line X.env=pure false:=by rfl):PS X (.Expr e pos) (WD te):=by
 intro lh s σ H D I h
 exact wpAny_Expr_any (bj (he lh s σ H _ I h) λv s1 ⟨x,H1,I1,r1,q1⟩=>⟨σ,H1,I1,q1⟩) I.quiet hs
noncomputable def Ya(te:TE):TS:=λD σ H=>te σ H D.rt
theorem Bz(he:PE X e te):PS X (.Return (YW e) pos) (Ya te):=by
 intro lh s σ H D I h
 exact wpAny_Return_some (bj (he lh s σ H _ I h) λv s1 ⟨x,H1,I1,r1,q1⟩=>⟨x,σ,H1,I1,r1,q1⟩)
noncomputable def XI(c:TT)(t u:TS):TS:=λD σ H=>c σ H λb H1=>if b=true then t D σ H1 else u D σ H1
theorem VB{c:ZY}{a b:List aG}{tc:TT}(hc:PT X c tc)(ha:PSs X a t)(hb:PSs X b u):PS X (.If c a b pos) (XI tc t u):=by
 intro lh s σ H D I h
 refine wpAny_If (bj (hc lh s σ H _ I h) λd s1 ⟨H1,I1,q1⟩=>?_)
 cases d with
 | true=>exact ha lh s1 σ H1 D I1 q1
 | false=>exact hb lh s1 σ H1 D I1 q1
end
abbrev TG:=V->St->Hp->(St->Hp->Prop)->Prop
abbrev TZ:=List V->St->Hp->(St->Hp->Prop)->Prop
noncomputable def PG(X:Cx)(target:ZY)(t:TG):Prop:=
 ∀ (lh:List (Zh×bX)) (s:Zd) (σ:St) (H:Hp) (v:V) (u:YZ) (Q:St->Hp->Prop),Inv X lh σ H s->RelV v u->t v σ H Q->
  Z0 (ZD X.prog X.w) X.A (assign target X.env u) (λ_ s'=>∃ σ' H',Inv X lh σ' H' s'/\Q σ' H') X.xe s
noncomputable def Xt(X:Cx)(ts:List ZY)(t:TZ):Prop:=
 ∀ (lh:List (Zh×bX)) (s:Zd) (σ:St) (H:Hp) (vs:List V) (us:List YZ) (Q:St->Hp->Prop),Inv X lh σ H s->Vals vs us->t vs σ H Q->
  Z0 (ZD X.prog X.w) X.A (assignInOrder ((gP ts X.env).map (·.2)) us) (λ_ s'=>∃ σ' H',Inv X lh σ' H' s'/\Q σ' H') X.xe s
section
variable{X:Cx}{pos:eE}
noncomputable def Ij(i:Nat):TG:=λv σ H Q=>Q (σ.set i (YW v)) H
theorem Ic{i:Nat}{x:Z3}(hN:X.N.Nodup)(hi:X.N[i]? =YW x)(hx:Oi X.env.scope x)(hf:X.fn x=true∨X.env.scope.names.lookup x=YW .local:=by first | exact .inl rfl | exact .inr rfl | assumption):PG X (.Name x pos) (Ij i):=by
 intro lh s σ H v u Q I r h
 exact wpAny_assign_Name (Cf I hN hi hx r (λs' I'=>⟨_,H,I',h⟩) hf)
noncomputable def Wy:TZ:=λvs σ H Q=>vs=[]/\Q σ H
noncomputable def OE(t:TG)(u:TZ):TZ:=λvs σ H Q=>∃ v r,vs=v::r/\t v σ H λσ' H'=>u r σ' H' Q
theorem SG:Xt X [] Wy:=by
 intro lh s σ H vs us Q I r h
 obtain ⟨e,h⟩:=h
 subst e
 cases r
 exact assignInOrder_nil ⟨σ,H,I,h⟩
theorem Kg{e:ZY}{es:List ZY}{t:TG}{u:TZ}(h1:PG X e t)(h2:Xt X es u)
  (hs:(gP (e::es) X.env).map (·.2)=assign e X.env::(gP es X.env).map (·.2):=by rfl):Xt X (e::es) (OE t u):=by
 intro lh s σ H vs us Q I r h
 obtain ⟨v,vr,e1,h⟩:=h
 subst e1
 cases r with
 | cons r rr=>
  rw [hs]
  refine assignInOrder_cons (bj (h1 lh s σ H _ _ _ I r h) λ_ s1 ⟨σ1,H1,I1,q1⟩=>?_)
  exact h2 lh s1 σ1 H1 _ _ Q I1 rr q1
noncomputable def W9(K:Zb)(n:Nat)(t:TZ):TG:=λv σ H Q=>∃ a xs,v= .ref a/\Di K H a xs/\xs.length=n/\t xs σ H Q
theorem T8{es:List ZY}{k:Nat}{t:TZ}{n:Nat}(hc:X.lu=true)(h:Xt X es t)
  (hn:(gP es X.env).length=n:=by rfl) (hst:(gP es X.env).findIdx? (·.1)=YY:=by rfl):PG X (.Tuple es k pos) (W9 X.K n t):=by
 intro lh s σ H v u Q I r hw
 obtain ⟨a,xs,e1,hq,hl,hw⟩:=hw
 subst e1
 cases r
 obtain ⟨its,rv,ht,hz⟩:=I.tuple hq
 refine assign_Tuple_tuple (I.ok.hd hc) ht (by simp [hn,<- hl,rv.length]) hst λh' hx=>?_
 have I1:Inv X lh σ H {s with heap:=h'}:=I.kept (t':=s.toks) λb o e=>hx b o (aE (Z7 e)) e
 exact h lh _ σ H xs _ Q I1 (by simpa using rv) hw
noncomputable def WQ(te:TE)(g:TG):TS:=λD σ H=>te σ H λx H1=>g x σ H1 D.nx
theorem U2{tg e:ZY}{te:TE}{g:TG}(he:PE X e te)(hg:PG X tg g)(hs:swapsWithSole [tg] e pos.line X.env=pure false:=by rfl)(hw:swappedStores [tg] e X.env=pure YY:=by rfl)
  (h1:(gP [tg] X.env).map (·.2)=[assign tg X.env]:=by rfl):PS X (.Assign [tg] e pos) (WQ te g):=by
 intro lh s σ H D I h
 refine wpAny_Assign_stores (bj (he lh s σ H _ I h) λv s1 ⟨x,H1,I1,r1,q1⟩=>?_) hs hw
 rw [h1]
 exact bj (hg lh s1 σ H1 x v _ I1 r1 q1) λ_ s2 q=>q
theorem Fl{i:Nat}{x:Z3}{e:ZY}{te:TE}{pos':eE}(hN:X.N.Nodup)(hi:X.N[i]? =YW x)(hx:Oi X.env.scope x)(he:PE X e te)(hs:cB e (YW (.Name x pos')) pos.line X.env=pure false:=by rfl)(hf:X.fn x=true∨X.env.scope.names.lookup x=YW .local:=by first | exact .inl rfl | exact .inr rfl | assumption):
  PS X (.Assign [.Name x pos'] e pos) (WQ te (Ij i)):=by
 intro lh s σ H D I h
 refine wpAny_Assign_Name (bj (he lh s σ H _ I h) λv s1 ⟨y,H1,I1,r1,q1⟩=>?_) hs
 exact Cf I1 hN hi hx r1 (λs2 I2=>⟨_,H1,I2,q1⟩) hf
end
section
variable{X:Cx}{pos:eE}
noncomputable def Uw(c:TT)(tb:TS):TS:=λD σ H=>∃ W:Nat->St->Hp->Prop,(∃ m,W m σ H)/\∀ m σ H,W m σ H->
 c σ H λb H1=>if b=true then ∃ N:St->Hp->Prop,(∀ σ' H',N σ' H'->∃ m',m' < m/\W m' σ' H')/\tb {D with nx:=N,ct:=N,bk:=D.nx} σ H1 else D.nx σ H1
theorem O7{c:ZY}{body:List aG}{tc:TT}{tb:TS}(hp:eP (ZD X.prog X.w) X.A X.env X.xe)(hc:PT X c tc)(hb:PSs X body tb):PS X (.While c body [] pos) (Uw tc tb):=by
 intro lh s σ H D I h
 obtain ⟨W,⟨m0,w0⟩,turn⟩:=h
 refine wpAny_While (codeAny_whileLoop (λn s'=>∃ σ' H',Inv X lh σ' H' s'/\W n σ' H') ?_ m0 ⟨σ,H,I,w0⟩)
 rintro n s1 ⟨σ1,H1,I1,w1⟩
 refine dD hp (bj (hc lh s1 σ1 H1 _ I1 (turn n σ1 H1 w1)) λb s2 ⟨H2,I2,q2⟩=>?_)
 cases b with
 | true=>
  obtain ⟨N,hN,q2⟩:=q2
  rw [jn rfl]
  refine dD hp (bj (hb lh s2 σ1 H2 _ I2 q2) λf s3 q3=>?_)
  cases f with
  | next=>
   obtain ⟨σ3,H3,I3,n3⟩:=q3
   obtain ⟨m',hm,w3⟩:=hN σ3 H3 n3
   exact ⟨m',hm,σ3,H3,I3,w3⟩
  | cont=>
   obtain ⟨σ3,H3,I3,n3⟩:=q3
   obtain ⟨m',hm,w3⟩:=hN σ3 H3 n3
   exact ⟨m',hm,σ3,H3,I3,w3⟩
  | brk=>exact q3
  | ret v=>exact q3
 | false=>
  rw [qz Zv]
  exact iD ⟨σ1,H2,I2,q2⟩
end
structure It where
 go:Nat->Hp->Prop
 yld:Nat->Hp->V->Hp->Prop
 stop:Nat->Hp->Prop
noncomputable def JX(X:Cx)(lh:List (Zh×bX))(H:Hp)(b:Zh):Prop:=
 H b=YY/\b≠X.env.locals/\b∉X.fs/\(b∈X.ex∨X.s₀.heap.objs.size<=b)/\(∀ x c,X.env.cells.lookup x=YW c->c≠b)/\∀ p∈X.pn++lh,p.1≠b
theorem Inv.fpOk{X:Cx}{lh:List (Zh×bX)}{σ:St}{H H':Hp}{s:Zd}{b:Zh}(I:Inv X lh σ H s)(hb:s.heap.objs.size<=b)(hn:H' b=YY):JX X lh H' b:=by
 refine ⟨hn,iH (Zt I.lt hb),I.nofs hb,.inr (Zo I.sz hb),λx c e z=>?_,λp hp z=>?_⟩
 ·obtain ⟨v,q⟩:=I.cell x c e
  exact absurd (Zt q.lt (by rw [z];exact hb)) (bC _)
 ·exact absurd (Zt (Z7 (I.pin p hp).1) (by rw [z];exact hb)) (bC _)
structure Turn(P:Z8)(w:ZN)(K:Zb)(tg:ZY)(J:It)(fp:List Zh)(it:Zh)(tn:Nat->ZM->Prop):Prop where
 mem:it∈fp
 obj:∀ i h,tn i h->∀ b∈fp,∃ o,h.get? b=YW o/\∀ v,o.data≠.cell v
 keep:∀ i h h',tn i h->(∀ b∈fp,∀ o,h.get? b=YW o->h'.get? b=YW o)->tn i h'
 item:∀ (X:Cx),X.prog=P->X.w=w->X.K=K->X.lu=true->∀ (i:Nat) (lh:List (Zh×bX)) (s:Zd) (σ:St) (H:Hp) (E:YZ->Zd->Prop),Inv X lh σ H s->(∀ b∈fp,JX X lh H b)->tn i s.heap->J.go i H->
  Z0 (ZD P w) X.A (pyNext (.ref it)) (λr s1=>∃ u,r=YW u/\
   Z0 (ZD P w) X.A (letOwnedTupleGo tg (.ref it) u) (λ_ s2=>∃ x H',Inv X lh σ H' s2/\RelV x u/\J.yld i H x H'/\tn (i+1) s2.heap/\∀ b∈fp,H' b=YY) E s1) E s
 done:∀ (X:Cx),X.prog=P->X.w=w->X.K=K->X.lu=true->∀ (i:Nat) (lh:List (Zh×bX)) (s:Zd) (σ:St) (H:Hp) (E:YZ->Zd->Prop),Inv X lh σ H s->(∀ b∈fp,JX X lh H b)->tn i s.heap->J.stop i H->
  Z0 (ZD P w) X.A (pyNext (.ref it)) (λr s1=>r=YY/\Inv X lh σ H s1) E s
 self:∀ (A:aC) (i:Nat) (s:Zd) (Q:YZ->Zd->Prop) (E:YZ->Zd->Prop),tn i s.heap->Q (.ref it) s->Z0 (ZD P w) A (pyIter (.ref it)) Q E s
abbrev TI:=St->Hp->(It->Hp->Prop)->Prop
noncomputable def XG(X:Cx)(lh:List (Zh×bX))(σ:St)(tg:ZY)(R:It->Hp->Prop)(itv:YZ)(s2:Zd):Prop:=
 ∃ (it:Zh) (fp:List Zh) (tn:Nat->ZM->Prop) (J:It) (H':Hp),itv= .ref it/\Inv X lh σ H' s2/\Turn X.prog X.w X.K tg J fp it tn/\tn 0 s2.heap/\(∀ b∈fp,JX X lh H' b)/\R J H'
noncomputable def PI(X:Cx)(tg iter:ZY)(wi:TI):Prop:=
 ∀ (lh:List (Zh×bX)) (s:Zd) (σ:St) (H:Hp) (R:It->Hp->Prop),Inv X lh σ H s->wi σ H R->
  Z0 (ZD X.prog X.w) X.A (bB iter X.env) (λv s1=>Z0 (ZD X.prog X.w) X.A (pyIter v) (XG X lh σ tg R) X.xe s1) X.xe s
theorem Mc{M:Model}{A:aC}{E:YZ->Zd->Prop}{s:Zd}{tg:ZY}{it:Zh}{u:YZ}{o:bX}{n:String}{vs:Array YZ}{Q:Unit->Zd->Prop}(ho:s.heap.get? it=YW o)(hc:o.cls= .type n)(hd:o.data= .fields vs)
  (hn:["enumerate","zip","dict_itemiterator","dict_reverseitemiterator","odict_iterator","itertools.zip_longest","itertools.pairwise"].contains n=false) (hQ:Q () s):Z0 M A (letOwnedTupleGo tg (.ref it) u) Q E s:=by
 unfold letOwnedTupleGo
 cases tg<;>first
  | exact Zr hQ
  | (cases u<;>first
      | exact Zr hQ
      | (refine Zc (wpAny_load ho ?_)
         rw [hc,hd]
         show Z0 M A (if (["enumerate","zip","dict_itemiterator","dict_reverseitemiterator","odict_iterator","itertools.zip_longest","itertools.pairwise"].contains n && vs[0]? == YW (rawInt _))=true then _ else _) Q E s
         rw [qz (by intro h;rw [hn,iN] at h;cases h)]
         exact Zr hQ))
noncomputable def Xy(K:Zb)(a:Zh):It:=
 ⟨λi H=>∃ xs x,SqL K H a xs/\xs[i]? =YW x,λi H x H'=>H'=H/\∀ xs,SqL K H a xs->xs[i]? =YW x,λi H=>∃ xs,SqL K H a xs/\xs.length<=i⟩
noncomputable def Xx(K:Zb)(a:Zh):It:=
 ⟨λi H=>∃ xs x,Di K H a xs/\xs[i]? =YW x,λi H x H'=>H'=H/\∀ xs,Di K H a xs->xs[i]? =YW x,λi H=>∃ xs,Di K H a xs/\xs.length<=i⟩
noncomputable def Xz(lo:Int)(n:Nat):It:=⟨λi _=>i < n,λi H x H'=>H'=H/\x= .int (lo+i),λi _=>n<=i⟩
theorem Nf{P:Z8}{w:ZN}{K:Zb}{tg:ZY}(a it:Zh):Turn P w K tg (Xy K a) [it] it (λi h=>h.IsListIter it a i) where
 mem:=by simp
 obj:=λi h st b hb=>by
  have e:b=it:=by simpa using hb
  subst e
  obtain ⟨o,e,c,d⟩:=st
  exact ⟨o,e,λv z=>by rw [d] at z;cases z⟩
 keep:=λi h h' st k=>st.at λo e=>k it (by simp) o e
 item:=by
  intro X hP hw hK hc i lh s σ H E I hf st hg
  subst hP hw hK
  obtain ⟨xs,x,hq,hx⟩:=hg
  obtain ⟨its,rv,p,hz⟩:=I.list hq
  obtain ⟨u,hu,ru⟩:=rv.get hx
  obtain ⟨f0,f1,f2,f3,f4,f5⟩:=hf it (by simp)
  refine wpAny_pyNext_list_item st p.isList (x:=u) (by simpa using hu) λh' st' sb=>?_
  have I1:Inv X lh σ H {s with heap:=h'}:=I.turned (t':=s.toks) (λb o hb e=>(sb.2 b hb).trans e) f0 f1 f3 f4 f5
  obtain ⟨o,e,c,d⟩:=id st'
  exact ⟨u,rfl,Mc (s:={s with heap:=h'}) e c d (by decide) ⟨x,H,I1,ru,⟨rfl,λys hy=>by rw [I.list_inj hy hq];exact hx⟩,st',λb hb=>(hf b hb).1⟩⟩
 done:=by
  intro X hP hw hK hc i lh s σ H E I hf st hg
  subst hP hw hK
  obtain ⟨xs,hq,hx⟩:=hg
  obtain ⟨its,rv,p,hz⟩:=I.list hq
  obtain ⟨f0,f1,f2,f3,f4,f5⟩:=hf it (by simp)
  have hl:=rv.length
  exact wpAny_pyNext_list_end (I.ok.hd hc) st p.isList (by simp;omega) λh' eb=>⟨rfl,I.turned (t':=s.toks) (λb o hb e=>eb b o hb e) f0 f1 f3 f4 f5⟩
 self:=λ_ _ _ _ _ st h=>wpAny_pyIter_listiter st h
theorem Kn{P:Z8}{w:ZN}{K:Zb}{tg:ZY}(a it:Zh):Turn P w K tg (Xx K a) [it] it (λi h=>h.IsTupleIter it a i) where
 mem:=by simp
 obj:=λi h st b hb=>by
  have e:b=it:=by simpa using hb
  subst e
  obtain ⟨o,e,c,d⟩:=st
  exact ⟨o,e,λv z=>by rw [d] at z;cases z⟩
 keep:=λi h h' st k=>st.at λo e=>k it (by simp) o e
 item:=by
  intro X hP hw hK hc i lh s σ H E I hf st hg
  subst hP hw hK
  obtain ⟨xs,x,hq,hx⟩:=hg
  obtain ⟨its,rv,p,hz⟩:=I.tuple hq
  obtain ⟨u,hu,ru⟩:=rv.get hx
  obtain ⟨f0,f1,f2,f3,f4,f5⟩:=hf it (by simp)
  refine wpAny_pyNext_tuple_item st (show s.heap.IsTuple a its.toArray from p) (x:=u) (by simpa using hu) λh' st' sb=>?_
  have I1:Inv X lh σ H {s with heap:=h'}:=I.turned (t':=s.toks) (λb o hb e=>(sb.2 b hb).trans e) f0 f1 f3 f4 f5
  obtain ⟨o,e,c,d⟩:=id st'
  exact ⟨u,rfl,Mc (s:={s with heap:=h'}) e c d (by decide) ⟨x,H,I1,ru,⟨rfl,λys hy=>by rw [I.tuple_inj hy hq];exact hx⟩,st',λb hb=>(hf b hb).1⟩⟩
 done:=by
  intro X hP hw hK hc i lh s σ H E I hf st hg
  subst hP hw hK
  obtain ⟨xs,hq,hx⟩:=hg
  obtain ⟨its,rv,p,hz⟩:=I.tuple hq
  obtain ⟨f0,f1,f2,f3,f4,f5⟩:=hf it (by simp)
  have hl:=rv.length
  exact wpAny_pyNext_tuple_end (I.ok.hd hc) st (show s.heap.IsTuple a its.toArray from p) (by simp;omega) λh' eb=>⟨rfl,I.turned (t':=s.toks) (λb o hb e=>eb b o hb e) f0 f1 f3 f4 f5⟩
 self:=λ_ _ _ _ _ st h=>wpAny_pyIter_tupleiter st h
theorem LF{P:Z8}{w:ZN}{K:Zb}{tg:ZY}(it:Zh)(lo:Int)(n:Nat):Turn P w K tg (Xz lo n) [it] it (λi h=>IsRangeIter h it (lo+(i:Nat) * 1) ((n:Int) - (i:Nat)) 1) where
 mem:=by simp
 obj:=λi h st b hb=>by
  have e:b=it:=by simpa using hb
  subst e
  exact ⟨_,st,λv z=>by
   have z':Data.fields _=Data.cell v:=z
   cases z'⟩
 keep:=λi h h' st k=>k it (by simp) _ st
 item:=by
  intro X hP hw hK hc i lh s σ H E I hf st hg
  subst hP hw hK
  obtain ⟨f0,f1,f2,f3,f4,f5⟩:=hf it (by simp)
  have W:=Walks.range (prog:=X.prog) (w:=X.w) (I.ok.hd hc) it lo 1 n
  refine W.item i s _ _ hg st λv h' tk hv st' kk=>?_
  obtain ⟨t,rfl⟩:=hv
  have I1:Inv X lh σ H {s with heap:=h',toks:=tk}:=I.turned (λb o hb e=>kk b o (by simpa using hb) e) f0 f1 f3 f4 f5
  refine ⟨_,rfl,Mc (s:={s with heap:=h',toks:=tk}) (n:="range_iterator") st' rfl rfl (by decide) ⟨.int (lo+i),H,I1,⟨t,?_⟩,⟨rfl,rfl⟩,st',λb hb=>(hf b hb).1⟩⟩
  rw [Int.mul_one]
 done:=by
  intro X hP hw hK hc i lh s σ H E I hf st hg
  subst hP hw hK
  obtain ⟨f0,f1,f2,f3,f4,f5⟩:=hf it (by simp)
  exact wpAny_pyNext_range_end (I.ok.hd hc) st (by have:n<=i:=hg;omega) λh' eb=>⟨rfl,I.turned (t':=s.toks) (λb o hb e=>eb b o hb e) f0 f1 f3 f4 f5⟩
 self:=λ_ _ _ _ _ st h=>wpAny_pyIter_rangeiter st h
end L2
namespace L2
open PySem PySem.Spec PyProof.Rows
section
variable{X:Cx}{tg:ZY}
noncomputable def W6(K:Zb)(tl:TE):TI:=λσ H R=>tl σ H λx H1=>∃ a,x= .ref a/\(∃ xs,SqL K H1 a xs)/\R (Xy K a) H1
noncomputable def XS(K:Zb)(tl:TE):TI:=λσ H R=>tl σ H λx H1=>∃ a,x= .ref a/\(∃ xs,Di K H1 a xs)/\R (Xx K a) H1
theorem MG{l:ZY}{tl:TE}(hl:PE X l tl):PI X tg l (W6 X.K tl):=by
 intro lh s σ H R I h
 refine bj (hl lh s σ H _ I h) λv s1 ⟨x,H1,I1,r1,q1⟩=>?_
 obtain ⟨a,e,⟨xs,hq⟩,q⟩:=q1
 subst e
 cases r1
 obtain ⟨its,rv,p,hz⟩:=I1.list hq
 refine wpAny_pyIter_list p.isList ?_
 refine ⟨s1.heap.objs.size,[s1.heap.objs.size],_,_,H1,rfl,I1.kept (t':=s1.toks) λb o e=>Zk _ e,Nf a _,⟨_,ZK _ rfl,rfl,rfl⟩,λb hb=>?_,q⟩
 have e:b=s1.heap.objs.size:=by simpa using hb
 subst e
 exact I1.fpOk (Ze _) (I1.hok.fresh (Ze _))
theorem Pz{l:ZY}{tl:TE}(hl:PE X l tl):PI X tg l (XS X.K tl):=by
 intro lh s σ H R I h
 refine bj (hl lh s σ H _ I h) λv s1 ⟨x,H1,I1,r1,q1⟩=>?_
 obtain ⟨a,e,⟨xs,hq⟩,q⟩:=q1
 subst e
 cases r1
 obtain ⟨its,rv,p,hz⟩:=I1.tuple hq
 refine wpAny_pyIter_tuple (show s1.heap.IsTuple a its.toArray from p) ?_
 refine ⟨s1.heap.objs.size,[s1.heap.objs.size],_,_,H1,rfl,I1.kept (t':=s1.toks) λb o e=>Zk _ e,Kn a _,⟨_,ZK _ rfl,rfl,rfl⟩,λb hb=>?_,q⟩
 have e:b=s1.heap.objs.size:=by simpa using hb
 subst e
 exact I1.fpOk (Ze _) (I1.hok.fresh (Ze _))
theorem Pj{lh:List (Zh×bX)}{σ:St}{H:Hp}{s:Zd}{R:It->Hp->Prop}{E:YZ->Zd->Prop}{lo hi:Int}{t u v:Tok}{tk:Nat}(I:Inv X lh σ H s)(h1:-(2 ^ 62)<=lo)(h2:lo < 2 ^ 62)(h3:-(2 ^ 62)<=hi)(h4:hi < 2 ^ 62)
  (q:R (Xz lo (hi - lo).toNat) H):Z0 (ZD X.prog X.w) X.A (pyIter (.ref s.heap.objs.size)) (XG X lh σ tg R) E {s with heap:=s.heap.push {cls:=.type "range",data:=.fields #[.int lo t,.int hi u,.int 1 v]},toks:=tk}:=by
 refine wpAny_pyIter_range (IsRange.new ..) (small_one h1 h2 h3 h4) ?_
 have I1:Inv X lh σ H {s with heap:=s.heap.push {cls:=.type "range",data:=.fields #[.int lo t,.int hi u,.int 1 v]},toks:=tk}:=I.kept λb o e=>Zk _ e
 refine ⟨(s.heap.push {cls:=.type "range",data:=.fields #[.int lo t,.int hi u,.int 1 v]}).objs.size,[(s.heap.push {cls:=.type "range",data:=.fields #[.int lo t,.int hi u,.int 1 v]}).objs.size],_,_,H,rfl,
  I1.kept (t':=tk) λb o e=>Zk _ e,LF _ lo (hi - lo).toNat,?_,λb hb=>?_,q⟩
 ·have e1:lo+((0:Nat):Int) * 1=lo:=by simp
  have e2:(((hi - lo).toNat:Nat):Int) - ((0:Nat):Int)=aT.Range.rangeSize lo hi 1:=by rw [rangeSize_one];split<;>omega
  show IsRangeIter _ _ (lo+((0:Nat):Int) * 1) ((((hi - lo).toNat:Nat):Int) - ((0:Nat):Int)) 1
  rw [e1,e2]
  exact ZK _ rfl
 ·have e:b=(s.heap.push {cls:=.type "range",data:=.fields #[.int lo t,.int hi u,.int 1 v]}).objs.size:=by simpa using hb
  subst e
  exact I1.fpOk (Ze _) (I1.hok.fresh (Ze _))
noncomputable def VC(ta:TA):TI:=λσ H R=>ta σ H λvs H1=>∃ j:Int,vs=[.int j]/\-(2 ^ 62)<=j/\j < 2 ^ 62/\R (Xz 0 j.toNat) H1
theorem NJ{a:ZY}{ta:TA}{p pos:eE}(hg:Gl X "range")(hm:X.mg "range" =YY)(ha:PA X [a] ta)(hs:Zf [a] X.env=[(false,bB a X.env)]:=by rfl):PI X tg (.Call (.Name "range" p) [a] [] pos) (VC ta):=by
 intro lh s σ H R I h
 refine Call_ (Dj I hg hm boot_range (cH (bj (ha pos lh s σ H _ I h) λus s1 ⟨vs,H1,I1,r1,q1⟩=>?_) hs rfl))
 obtain ⟨j,e,q1,q2,q⟩:=q1
 subst e
 cases r1 with
 | cons r rr=>
  cases rr
  obtain ⟨t,rfl⟩:=r
  exact call_range_1 (Pj I1 (by omega) (by omega) q1 q2 (by simpa using q))
noncomputable def XZ(wi:TI)(g:TG)(tb:TS):TS:=λD σ H=>wi σ H λJ H1=>∃ W:Nat->Nat->St->Hp->Prop,(∃ m,W 0 m σ H1)/\∀ i m σ H,W i m σ H->
 (J.stop i H/\D.nx σ H)∨(J.go i H/\∃ N:St->Hp->Prop,(∀ σ' H',N σ' H'->∃ m',m' < m/\W (i+1) m' σ' H')/\∀ x H',J.yld i H x H'->g x σ H' λσ2 H2=>tb {D with nx:=N,ct:=N,bk:=D.nx} σ2 H2)
noncomputable def Hy(fp:List Zh)(h:ZM):List (Zh×bX):=fp.filterMap λb=>(h.get? b).map λo=>(b,o)
theorem tm{fp:List Zh}{h:ZM}{b:Zh}{o:bX}(hb:b∈fp)(e:h.get? b=YW o):(b,o)∈Hy fp h:=List.mem_filterMap.mpr ⟨b,hb,by rw [e];rfl⟩
theorem Nw{fp:List Zh}{h:ZM}{p:Zh×bX}(hp:p∈Hy fp h):p.1∈fp/\h.get? p.1=YW p.2:=by
 obtain ⟨b,hb,e⟩:=List.mem_filterMap.mp hp
 cases q:h.get? b with
 | none=>rw [q] at e;cases e
 | some o=>
  rw [q] at e
  have e':(b,o)=p:=ZS e
  subst e'
  exact ⟨hb,q⟩
theorem Inv.pinned{lh:List (Zh×bX)}{σ:St}{H:Hp}{s:Zd}{fp:List Zh}(I:Inv X lh σ H s)(hf:∀ b∈fp,JX X lh H b)(ho:∀ b∈fp,∃ o,s.heap.get? b=YW o/\∀ v,o.data≠.cell v):Inv X (lh++Hy fp s.heap) σ H s:=
 I.pins_of λp hp=>(aO.mp hp).elim (λz=>I.pin p (ZV _ z)) λz=>by
  obtain ⟨hb,e⟩:=Nw z
  obtain ⟨f0,f1,f2,_⟩:=hf p.1 hb
  obtain ⟨o,e',d⟩:=ho p.1 hb
  rw [e] at e';cases e'
  exact ⟨e,f0,f1,f2,d⟩
theorem Inv.unpinned{lh pl:List (Zh×bX)}{σ:St}{H:Hp}{s:Zd}(I:Inv X (lh++pl) σ H s):Inv X lh σ H s:=I.pins_of λp hp=>I.pin p (ZV _ (eZ _ hp))
theorem KH{iter:ZY}{body:List aG}{wi:TI}{g:TG}{tb:TS}{pos:eE}(hp:eP (ZD X.prog X.w) X.A X.env X.xe)(hc:X.lu=true)(hi:PI X tg iter wi)(hg:PG X tg g)(hb:PSs X body tb)
  (hs:∀ x,eU iter X.env x=pure x:=by intro _;rfl):PS X (.For tg iter body [] pos) (XZ wi g tb):=by
 intro lh s σ H D I h
 refine wpAny_For (bj (hi lh s σ H _ I h) λv s1 h1=>bj h1 λitv s2 h2=>?_) hs
 obtain ⟨it,fp,tn,J,H2,e,I2,T,st2,f2,W,⟨m0,w0⟩,turn⟩:=h2
 subst e
 have stat:∀ {H':Hp},(∀ b∈fp,H' b=YY)->∀ b∈fp,JX X lh H' b:=λhn b hb=>⟨hn b hb,(f2 b hb).2⟩
 refine codeAny_forLoop_any (λn s'=>∃ i σ' H',Inv X lh σ' H' s'/\tn i s'.heap/\(∀ b∈fp,H' b=YY)/\W i n σ' H') ?_ m0 ⟨0,σ,H2,I2,st2,λb hb=>(f2 b hb).1,w0⟩
 rintro n s3 ⟨i,σ3,H3,I3,st3,fr3,w3⟩
 rcases turn i n σ3 H3 w3 with ⟨stop,qn⟩ | ⟨go,N,hN,step⟩
 ·refine dD hp (bj (T.done X rfl rfl rfl hc i lh s3 σ3 H3 X.xe I3 (stat fr3) st3 stop) λr s4 ⟨hr,I4⟩=>?_)
  subst hr
  exact iD ⟨σ3,H3,I4,qn⟩
 ·refine dD hp (bj (T.item X rfl rfl rfl hc i lh s3 σ3 H3 X.xe I3 (stat fr3) st3 go) λr s4 ⟨u,hr,h4⟩=>?_)
  subst hr
  refine dD hp (bj h4 λ_ s5 ⟨x,H5,I5,r5,y5,st5,fr5⟩=>?_)
  have I5':=I5.pinned (stat fr5) (T.obj _ _ st5)
  refine dD hp (bj (hg _ s5 σ3 H5 x u _ I5' r5 (step x H5 y5)) λ_ s6 ⟨σ6,H6,I6,q6⟩=>?_)
  refine dD hp (bj (hb _ s6 σ6 H6 _ I6 q6) λf s7 q7=>?_)
  have again:∀ {σ7:St} {H7:Hp},Inv X (lh++Hy fp s5.heap) σ7 H7 s7->N σ7 H7->∃ m,m < n/\∃ i σ' H',Inv X lh σ' H' s7/\tn i s7.heap/\(∀ b∈fp,H' b=YY)/\W i m σ' H':=λ{σ7 H7} I7 n7=>by
   obtain ⟨m',hm,w7⟩:=hN σ7 H7 n7
   refine ⟨m',hm,i+1,σ7,H7,I7.unpinned,T.keep _ _ _ st5 λb hb o e=>(I7.pin (b,o) (ZV _ (ZV _ (tm hb e)))).1,λb hb=>?_,w7⟩
   obtain ⟨o,e,d⟩:=T.obj _ _ st5 b hb
   exact (I7.pin (b,o) (ZV _ (ZV _ (tm hb e)))).2.1
  cases f with
  | next=>obtain ⟨σ7,H7,I7,n7⟩:=q7;exact again I7 n7
  | cont=>obtain ⟨σ7,H7,I7,n7⟩:=q7;exact again I7 n7
  | brk=>obtain ⟨σ7,H7,I7,q7⟩:=q7;exact ⟨σ7,H7,I7.unpinned,q7⟩
  | ret v=>obtain ⟨x7,σ7,H7,I7,r7,q7⟩:=q7;exact ⟨x7,σ7,H7,I7.unpinned,r7,q7⟩
end
end L2
namespace L2
open PySem PySem.Spec PyProof.Rows
abbrev R2:=V->V->Hp->VK->Prop
noncomputable def OpR(X:Cx)(f:YZ->YZ->Sem YZ)(r:R2):Prop:=
 ∀ (lh:List (Zh×bX)) (s:Zd) (σ:St) (H:Hp) (x y:V) (v u:YZ) (Q:VK),Inv X lh σ H s->RelV x v->RelV y u->r x y H Q->
  Z0 (ZD X.prog X.w) X.A (f v u) (EP X lh σ Q) X.xe s
noncomputable def XD(X:Cx)(f:YZ->Sem YZ)(r:V->Hp->VK->Prop):Prop:=
 ∀ (lh:List (Zh×bX)) (s:Zd) (σ:St) (H:Hp) (x:V) (v:YZ) (Q:VK),Inv X lh σ H s->RelV x v->r x H Q->
  Z0 (ZD X.prog X.w) X.A (f v) (EP X lh σ Q) X.xe s
noncomputable def CallR(X:Cx)(f:YZ)(r:List V->Hp->VK->Prop):Prop:=
 ∀ (lh:List (Zh×bX)) (s:Zd) (σ:St) (H:Hp) (xs:List V) (us:List YZ) (Q:VK),Inv X lh σ H s->Vals xs us->r xs H Q->
  Z0 (ZD X.prog X.w) X.A (call f us) (EP X lh σ Q) X.xe s
noncomputable def UU(r:R2)(ta tb:TE):TE:=λσ H Q=>ta σ H λx H1=>tb σ H1 λy H2=>r x y H2 Q
noncomputable def YE(r:V->Hp->VK->Prop)(ta:TE):TE:=λσ H Q=>ta σ H λx H1=>r x H1 Q
noncomputable def rI(C:Int->Int->Prop)(g:Int->Int->V):R2:=λx y H Q=>∃ i j,x= .int i/\y= .int j/\C i j/\Q (g i j) H
noncomputable def Rz(g:Int->Int->V):R2:=λx y H Q=>∃ i j,x= .int i/\y= .int j/\Q (g i j) H
noncomputable def rU(g:Int->V):V->Hp->VK->Prop:=λx H Q=>∃ i,x= .int i/\Q (g i) H
section
variable{X:Cx}{a b c:ZY}{ta tb tc:TE}{pos:eE}
theorem UW(ha:PE X a ta)(hb:PE X b tb){lh:List (Zh×bX)}{s:Zd}{σ:St}{H:Hp}{R:V->V->Hp->Prop}(I:Inv X lh σ H s)
  (h:ta σ H λx H1=>tb σ H1 λy H2=>R x y H2) {Q:YZ->Zd->Prop} {f:YZ->YZ->Sem YZ}
  (hf:∀ v u s2 x y H2,Inv X lh σ H2 s2->RelV x v->RelV y u->R x y H2->Z0 (ZD X.prog X.w) X.A (f v u) Q X.xe s2):
  Z0 (ZD X.prog X.w) X.A (bB a X.env) (λv s₁=>Z0 (ZD X.prog X.w) X.A (bB b X.env) (λu s₂=>Z0 (ZD X.prog X.w) X.A (f v u) Q X.xe s₂) X.xe s₁) X.xe s:=by
 refine bj (ha lh s σ H _ I h) λv s1 ⟨x,H1,I1,r1,q1⟩=>?_
 refine bj (hb lh s1 σ H1 _ I1 q1) λu s2 ⟨y,H2,I2,r2,q2⟩=>?_
 exact hf v u s2 x y H2 I2 r1 r2 q2
theorem Wg{op:Operator}{r:R2}(ho:OpR X (cN op) r)(ha:PE X a ta)(hb:PE X b tb):PE X (.BinOp a op b pos) (UU r ta tb):=by
 intro lh s σ H Q I h
 exact wpAny_BinOp (UW ha hb I h λv u s2 x y H2 I2 rx ry q=>ho lh s2 σ H2 x y v u Q I2 rx ry q)
theorem WV{op:UnaryOp}{r:V->Hp->VK->Prop}(ho:XD X (unaryOp op) r)(ha:PE X a ta):PE X (.UnaryOp op a pos) (YE r ta):=by
 intro lh s σ H Q I h
 exact UnaryOp_ (bj (ha lh s σ H _ I h) λv s1 ⟨x,H1,I1,r1,q1⟩=>ho lh s1 σ H1 x v Q I1 r1 q1)
theorem VF{f:YZ->YZ->Sem YZ}{C:Int->Int->Prop}{g:Int->Int->Int}
  (rule:∀ (i j:Int) (t u:Tok) (s:Zd) (Q:YZ->Zd->Prop) (E:YZ->Zd->Prop),C i j->Q (.int (g i j) s.toks) {s with toks:=s.toks+1}->Z0 (ZD X.prog X.w) X.A (f (.int i t) (.int j u)) Q E s):
  OpR X f (rI C λi j=>.int (g i j)):=by
 intro lh s σ H x y v u Q I rx ry h
 obtain ⟨i,j,rfl,rfl,hc,q⟩:=h
 obtain ⟨t,rfl⟩:=rx
 obtain ⟨t',rfl⟩:=ry
 exact rule i j t t' s _ _ hc ⟨.int (g i j),H,I.tok _,⟨_,rfl⟩,q⟩
theorem X8{f:YZ->YZ->Sem YZ}{g:Int->Int->Int}
  (rule:∀ (i j:Int) (t u:Tok) (s:Zd) (Q:YZ->Zd->Prop) (E:YZ->Zd->Prop),Q (.int (g i j) s.toks) {s with toks:=s.toks+1}->Z0 (ZD X.prog X.w) X.A (f (.int i t) (.int j u)) Q E s):
  OpR X f (Rz λi j=>.int (g i j)):=by
 intro lh s σ H x y v u Q I rx ry h
 obtain ⟨i,j,rfl,rfl,q⟩:=h
 obtain ⟨t,rfl⟩:=rx
 obtain ⟨t',rfl⟩:=ry
 exact rule i j t t' s _ _ ⟨.int (g i j),H,I.tok _,⟨_,rfl⟩,q⟩
theorem VN{f:YZ->YZ->Sem YZ}{g:Int->Int->Bool}
  (rule:∀ (i j:Int) (t u:Tok) (s:Zd) (Q:YZ->Zd->Prop) (E:YZ->Zd->Prop),Q (.bool (g i j)) s->Z0 (ZD X.prog X.w) X.A (f (.int i t) (.int j u)) Q E s):
  OpR X f (Rz λi j=>.bl (g i j)):=by
 intro lh s σ H x y v u Q I rx ry h
 obtain ⟨i,j,rfl,rfl,q⟩:=h
 obtain ⟨t,rfl⟩:=rx
 obtain ⟨t',rfl⟩:=ry
 exact rule i j t t' s _ _ ⟨.bl (g i j),H,I,rfl,q⟩
noncomputable def XN(i j:Int):Prop:=0<=j/\j<=1000000/\i.natAbs < 2 ^ 64
theorem op_add:OpR X (cN .Add) (Rz λi j=>.int (i+j)):=X8 λ_ _ _ _ _ _ _ q=>add_int q
theorem Ux:OpR X (cN .Mod) (rI (λ_ j=>0 < j) λi j=>.int (i % j)):=VF λi j _ _ _ _ _ hc q=>by
 have h1:(0:Int) < j:=hc
 exact mod_int' (by omega) (by rw [Int.fmod_eq_emod_of_nonneg i (by omega)];exact q)
theorem UV:OpR X (cN .Pow) (rI XN λi j=>.int (i ^ j.toNat)):=VF λ_ _ _ _ _ _ _ hc q=>pow_int_small hc.1 hc.2.1 hc.2.2 q
theorem YH{f:YZ->Sem YZ}{g:Int->Int}
  (rule:∀ (i:Int) (t:Tok) (s:Zd) (Q:YZ->Zd->Prop) (E:YZ->Zd->Prop),Q (.int (g i) s.toks) {s with toks:=s.toks+1}->Z0 (ZD X.prog X.w) X.A (f (.int i t)) Q E s):
  XD X f (rU λi=>.int (g i)):=by
 intro lh s σ H x v Q I rx h
 obtain ⟨i,rfl,q⟩:=h
 obtain ⟨t,rfl⟩:=rx
 exact rule i t s _ _ ⟨.int (g i),H,I.tok _,⟨_,rfl⟩,q⟩
theorem Ua:XD X (unaryOp .USub) (rU λi=>.int (-i)):=YH λ_ _ _ _ _ q=>neg_int q
end
noncomputable def VY:V->V->Bool
 | .non,.non=>true | .non,.int _=>true | .int _,.non=>true | .non,.bl _=>true | .bl _,.non=>true | .non,.str _=>true | .str _,.non=>true
 | .int _,.int _=>true | .bl _,.bl _=>true | .str _,.str _=>true | .byt _,.byt _=>true
 | .int _,.str _=>true | .str _,.int _=>true | .bl _,.str _=>true | .str _,.bl _=>true
 | _,_=>false
noncomputable def Yz:R2:=λx y H Q=>VY x y=true/\Q (.bl (decide (x=y))) H
noncomputable def Y8:R2:=λx y H Q=>VY x y=true/\Q (.bl (!decide (x=y))) H
theorem Ei{i j:Int}:decide (V.int i=V.int j)=(i == j):=by
 rw [iE]
 simp
theorem Hf{i j:Bool}:decide (V.bl i=V.bl j)=(i == j):=by
 rw [iE]
 simp
theorem Eh{i j:Z3}:decide (V.str i=V.str j)=(i == j):=by
 rw [iE]
 simp
theorem My{i j:Array UInt8}:decide (V.byt i=V.byt j)=(i.toList == j.toList):=by
 rw [iE]
 cases i
 cases j
 simp
section
variable{X:Cx}{a b c:ZY}{ta tb tc:TE}{pos:eE}
theorem w5{lh:List (Zh×bX)}{σ:St}{H:Hp}{s:Zd}{Q:VK}{k k':Bool}(I:Inv X lh σ H s)(q:Q (.bl k) H)(e:k=k'):EP X lh σ Q (.bool k') s:=by
 subst e
 exact ⟨.bl k,H,I,rfl,q⟩
theorem op_eq:OpR X (aL .Eq) Yz:=by
 intro lh s σ H x y v u Q I rx ry h
 obtain ⟨hs,q⟩:=h
 cases x with
 | non=>
  cases rx
  cases y with
  | non=>cases ry;exact PySem.EqNone.eq_none_none (w5 I q (by simp))
  | bl j=>cases ry;exact PySem.EqNone.eq_none_bool (w5 I q (by simp))
  | int j=>obtain ⟨t',rfl⟩:=ry;exact PySem.EqNone.eq_none_int (w5 I q (by simp))
  | str j=>obtain ⟨t',rfl⟩:=ry;exact PySem.EqNone.eq_none_str (w5 I q (by simp))
  | _=>exact absurd (show false=true from hs) Zv
 | bl i=>
  cases rx
  cases y with
  | non=>cases ry;exact PySem.EqNone.eq_bool_none (w5 I q (by simp))
  | bl j=>cases ry;exact eq_bool (w5 I q Hf)
  | str j=>obtain ⟨t',rfl⟩:=ry;exact PySem.EqMixed.eq_bool_str (w5 I q (by simp))
  | _=>exact absurd (show false=true from hs) Zv
 | int i=>
  obtain ⟨t,rfl⟩:=rx
  cases y with
  | non=>cases ry;exact PySem.EqNone.eq_int_none (w5 I q (by simp))
  | int j=>obtain ⟨t',rfl⟩:=ry;exact eq_int (w5 I q Ei)
  | str j=>obtain ⟨t',rfl⟩:=ry;exact PySem.EqMixed.eq_int_str (w5 I q (by simp))
  | _=>exact absurd (show false=true from hs) Zv
 | str i=>
  obtain ⟨t,rfl⟩:=rx
  cases y with
  | non=>cases ry;exact PySem.EqNone.eq_str_none (w5 I q (by simp))
  | bl j=>cases ry;exact PySem.EqMixed.eq_str_bool (w5 I q (by simp))
  | int j=>obtain ⟨t',rfl⟩:=ry;exact PySem.EqMixed.eq_str_int (w5 I q (by simp))
  | str j=>obtain ⟨t',rfl⟩:=ry;exact eq_str (w5 I q Eh)
  | _=>exact absurd (show false=true from hs) Zv
 | byt i=>
  obtain ⟨t,rfl⟩:=rx
  cases y with
  | byt j=>obtain ⟨t',rfl⟩:=ry;exact PySem.W.eq_bytes (w5 I q My)
  | _=>exact absurd (show false=true from hs) Zv
 | _=>cases y<;>exact absurd (show false=true from hs) Zv
theorem op_ne:OpR X (aL .NotEq) Y8:=by
 intro lh s σ H x y v u Q I rx ry h
 obtain ⟨hs,q⟩:=h
 cases x with
 | non=>
  cases rx
  cases y with
  | non=>cases ry;exact PySem.EqNone.ne_none_none (w5 I q (by simp))
  | bl j=>cases ry;exact PySem.EqNone.ne_none_bool (w5 I q (by simp))
  | int j=>obtain ⟨t',rfl⟩:=ry;exact PySem.EqNone.ne_none_int (w5 I q (by simp))
  | str j=>obtain ⟨t',rfl⟩:=ry;exact PySem.EqNone.ne_none_str (w5 I q (by simp))
  | _=>exact absurd (show false=true from hs) Zv
 | bl i=>
  cases rx
  cases y with
  | non=>cases ry;exact PySem.EqNone.ne_bool_none (w5 I q (by simp))
  | bl j=>cases ry;exact ne_bool (w5 I q (congrArg not Hf))
  | str j=>obtain ⟨t',rfl⟩:=ry;exact PySem.EqMixed.ne_bool_str (w5 I q (by simp))
  | _=>exact absurd (show false=true from hs) Zv
 | int i=>
  obtain ⟨t,rfl⟩:=rx
  cases y with
  | non=>cases ry;exact PySem.EqNone.ne_int_none (w5 I q (by simp))
  | int j=>obtain ⟨t',rfl⟩:=ry;exact ne_int (w5 I q (congrArg not Ei))
  | str j=>obtain ⟨t',rfl⟩:=ry;exact PySem.EqMixed.ne_int_str (w5 I q (by simp))
  | _=>exact absurd (show false=true from hs) Zv
 | str i=>
  obtain ⟨t,rfl⟩:=rx
  cases y with
  | non=>cases ry;exact PySem.EqNone.ne_str_none (w5 I q (by simp))
  | bl j=>cases ry;exact PySem.EqMixed.ne_str_bool (w5 I q (by simp))
  | int j=>obtain ⟨t',rfl⟩:=ry;exact PySem.EqMixed.ne_str_int (w5 I q (by simp))
  | str j=>obtain ⟨t',rfl⟩:=ry;exact ne_str (w5 I q (congrArg not Eh))
  | _=>exact absurd (show false=true from hs) Zv
 | byt i=>
  obtain ⟨t,rfl⟩:=rx
  cases y with
  | byt j=>obtain ⟨t',rfl⟩:=ry;exact PySem.W.ne_bytes (w5 I q (congrArg not My))
  | _=>exact absurd (show false=true from hs) Zv
 | _=>cases y<;>exact absurd (show false=true from hs) Zv
theorem Wd:OpR X (aL .Lt) (Rz λi j=>.bl (decide (i < j))):=VN λ_ _ _ _ _ _ _ q=>lt_int q
theorem WR:OpR X (aL .Gt) (Rz λi j=>.bl (decide (j < i))):=VN λ_ _ _ _ _ _ _ q=>gt_int q
theorem Vd:OpR X (aL .Is) (λx y H Q=>y= .non/\Q (.bl (decide (x= .non))) H):=by
 intro lh s σ H x y v u Q I rx ry h
 obtain ⟨rfl,q⟩:=h
 cases ry
 refine is_none_gen (w5 I q ?_)
 cases x<;>first
  | (cases rx;rfl)
  | (obtain ⟨t,rfl⟩:=rx;rfl)
theorem R6:OpR X (aL .IsNot) (λx y H Q=>y= .non/\Q (.bl (!decide (x= .non))) H):=by
 intro lh s σ H x y v u Q I rx ry h
 obtain ⟨rfl,q⟩:=h
 cases ry
 refine isnot_none_gen (w5 I q ?_)
 cases x<;>first
  | (cases rx;rfl)
  | (obtain ⟨t,rfl⟩:=rx;rfl)
theorem OpR.or{f:YZ->YZ->Sem YZ}{r r':R2}(h:OpR X f r)(h':OpR X f r'):OpR X f (λx y H Q=>r x y H Q∨r' x y H Q):=by
 intro lh s σ H x y v u Q I rx ry q
 rcases q with q | q
 ·exact h lh s σ H x y v u Q I rx ry q
 ·exact h' lh s σ H x y v u Q I rx ry q
theorem A3(b:ZY){op:CmpOp}(h:op≠.In:=by decide)(h2:op≠.NotIn:=by decide):dR op b=false:=by
 have e1:(op == CmpOp.In)=false:=by cases op<;>first | rfl | exact absurd rfl h
 have e2:(op == CmpOp.NotIn)=false:=by cases op<;>first | rfl | exact absurd rfl h2
 cases b<;>simp [dR,e1,e2]
theorem RL{op:CmpOp}{r:R2}(ho:OpR X (aL op) r)(ha:PE X a ta)(hb:PE X b tb)(hm:dR op b=false):PE X (.Compare a [op] [b] pos) (UU r ta tb):=by
 intro lh s σ H Q I h
 exact wpAny_Compare1 (UW ha hb I h λv u s2 x y H2 I2 rx ry q=>ho lh s2 σ H2 x y v u Q I2 rx ry q) hm
noncomputable def ku(t:TE):TT:=λσ H Q=>t σ H λx H'=>∃ k,x= .bl k/\Q k H'
theorem MD{op:CmpOp}{r:R2}(ho:OpR X (aL op) r)(ha:PE X a ta)(hb:PE X b tb)(hm:dR op b=false):PT X (.Compare a [op] [b] pos) (ku (UU r ta tb)):=by
 intro lh s σ H Q I h
 refine wpAny_isTrue_Compare1 (bj (ha lh s σ H _ I h) λv s1 ⟨x,H1,I1,r1,q1⟩=>bj (hb lh s1 σ H1 _ I1 q1) λu s2 ⟨y,H2,I2,r2,q2⟩=>
  bj (ho lh s2 σ H2 x y v u _ I2 r1 r2 q2) λc s3 ⟨z,H3,I3,r3,k,e,q3⟩=>?_) hm
 subst e
 cases r3
 exact dJ ⟨H3,I3,q3⟩
theorem Ex:(Zx:Nat) < 2 ^ 63:=by rw [sizeLine_eq];decide
theorem Le:OpR X (cN .Add) (λx y H Q=>∃ i j,x= .str i/\y= .str j/\i.length+j.length<=Zx/\Q (.str (i++j)) H):=by
 intro lh s σ H x y v u Q I rx ry h
 obtain ⟨i,j,rfl,rfl,hz,q⟩:=h
 obtain ⟨t,rfl⟩:=rx
 obtain ⟨t',rfl⟩:=ry
 exact add_str (λt' tk=>⟨.str (i++j),H,I.tok _,⟨_,rfl⟩,q⟩) hz
theorem Bq{x:V}{us:List YZ}(r:Vals [x] us):∃ u,us=[u]/\RelV x u:=by
 cases r with
 | cons r1 r2=>cases r2;exact ⟨_,rfl,r1⟩
theorem Tw{x y:V}{us:List YZ}(r:Vals [x,y] us):∃ u w',us=[u,w']/\RelV x u/\RelV y w':=by
 cases r with
 | cons r1 r2=>
  cases r2 with
  | cons r3 r4=>cases r4;exact ⟨_,_,rfl,r1,r3⟩
theorem NO:CallR X (.type "int") (λxs H Q=>(∃ i,xs=[.int i]/\Q (.int i) H)∨∃ k,xs=[.bl k]/\Q (.int (if k then 1 else 0)) H):=by
 intro lh s σ H xs us Q I r h
 rcases h with ⟨i,rfl,q⟩ | ⟨k,rfl,q⟩
 ·obtain ⟨u,rfl,t,rfl⟩:=Bq r
  exact call_int_int ⟨.int i,H,I,⟨_,rfl⟩,q⟩
 ·obtain ⟨u,rfl,r1⟩:=Bq r
  cases r1
  exact call_int_bool ⟨.int (if k then 1 else 0),H,I.tok _,⟨_,rfl⟩,q⟩
end
end L2
namespace L2
open PySem PySem.Spec PyProof.Rows
structure ObjM(h:ZM)(x dx C:Zh)(mA:Z3->Option YZ):Prop where
 obj:h.get? x=YW (PySem.W.instObj C dx)
 ns:h.Ns1 dx mA
 ne:dx≠x
theorem NM{h:ZM}{dx:Zh}{mA:Z3->Option YZ}(n:h.Ns1 dx mA):∃ od,h.get? dx=YW od/\∀ name,PySem.W.lookIn name od=YW (mA name):=by
 obtain ⟨o,es,ep,ho,hd,hk,_,hm⟩:=n
 refine ⟨o,ho,λname=>?_⟩
 have e:=hm name
 unfold nsFind findBy at e
 rw [<- Array.find?_toList] at e
 unfold PySem.W.lookIn
 rw [hd]
 dsimp only
 split
 ·rename_i y q
  rw [q] at e
  exact congrArg YW e
 ·rename_i q
  rw [q] at e
  have a:es.toList.any (·.refKey)=false:=by
   rw [List.any_eq_false]
   intro y hy
   obtain ⟨z,t,hkey⟩:=hk y (Array.mem_toList_iff.mp hy)
   simp [DictEntry.refKey,hkey]
  have a':¬ es.toList.any (·.refKey)=true:=by rw [a];exact Zv
  rw [qz a']
  exact congrArg YW e
theorem ObjM.look{h:ZM}{x dx C:Zh}{mA:Z3->Option YZ}(I:ObjM h x dx C mA):∃ od,PySem.W.InstAt h x (PySem.W.instObj C dx) C (YW od)/\∀ name,PySem.W.lookIn name od=YW (mA name):=
 let ⟨od,ho,hl⟩:=NM I.ns
 ⟨od,⟨I.obj,rfl,rfl,ho⟩,hl⟩
section
variable{P:Z8}{w:ZN}{H H':Hp}{h h':ZM}{a C dx:Zh}{fs fs':List (Z3×V)}
theorem SC(hok:HOk P w H h)(e:H a=YW (.ins C dx fs)):∃ mA,ObjM h a dx C mA/\(∀ f,RelO (fs.lookup f) (mA f))/\PySem.Within mA (fs.map (·.1))/\fs.length<=1000/\H dx=YW (.own a):=by
 obtain ⟨d,z,ne,ob,mA,n,r,q⟩:=(show ObjOk P w H h a (.ins C dx fs) from hok a _ e)
 exact ⟨mA,⟨ob,n,ne⟩,r,q,z,d⟩
end
structure Cls(K:Zb)(C:Zh):Prop where
 pg:PySem.W.plainGet K C Z3.empty=true
 hd:PySem.W.hasDictIn K C=true
 po:PySem.W.plainOver K C=true
 sa:cO K (.ref C) "__setattr__" =YW (YW (.builtin "object.__setattr__"))
theorem Cls.get{K:Zb}{C:Zh}(c:Cls K C)(f:Z3):PySem.W.plainGet K C f=true:=c.pg
section
variable{X:Cx}{lh:List (Zh×bX)}{σ:St}{H:Hp}{s:Zd}{A:aC}{E:YZ->Zd->Prop}{Q:YZ->Zd->Prop}{c:YZ}{b:Bool}
inductive TyOf (K:Zb) (H:Hp):V->YZ->Prop where
 | non:TyOf K H .non (.type "NoneType")
 | bl (x:Bool):TyOf K H (.bl x) (.type "bool")
 | int (i:Int):TyOf K H (.int i) (.type "int")
 | str (x:Z3):TyOf K H (.str x) (.type "str")
 | flt (x:UInt64):TyOf K H (.flt x) (.type "float")
 | lst {a:Zh} {xs:List V} (e:H a=YW (.lst xs)):TyOf K H (.ref a) (.type "list")
 | frz {a:Zh} {o:bX} {xs:List V} (e:H a=YW (.frz o (.lst xs))):TyOf K H (.ref a) (.type "list")
 | tup {a:Zh} {xs:List V} (e:Rd H a (.tup xs)):TyOf K H (.ref a) (.type "tuple")
 | dK {a:Zh} {kvs:List (i4×V)} (e:H a=YW (.dK kvs)):TyOf K H (.ref a) (.type "dict")
 | dT {a:Zh} {kvs:List (List i4×V)} (e:H a=YW (.dT kvs)):TyOf K H (.ref a) (.type "dict")
 | ins {a C dx:Zh} {fs:List (Z3×V)} (e:H a=YW (.ins C dx fs)) (cl:Cls K C) (ha:cO K (.ref C) "__class__" =YW (YW (.builtin "object.__class__")))
  (hn:PySem.W.specialIn K (.builtin "object.__class__") "__get__" =YW (YW (.builtin "getset_descriptor.__get__"))) (htk:PySem.W.takesIn K (.builtin "object.__class__")=YW true)
  (hm:gX K C (.type "object")=YW true):TyOf K H (.ref a) (.ref C)
theorem N5{x:V}{u t:YZ}(I:Inv X lh σ H s)(rx:RelV x u)(ty:TyOf X.K H x t)(e:aD X.K t c=YW b)(h:∀ tk,Q (.bool b) {s with toks:=tk}):
  Z0 (ZD X.prog X.w) A (call (.builtin "isinstance") [u,c]) Q E s:=by
 cases ty with
 | non=>cases (show u=ZI from rx);exact aP PySem.W.kitx_none I.kIn eK e (λz=>nomatch z) h
 | bl y=>cases (show u=YZ.bool y from rx);exact aP PySem.W.kitx_bool I.kIn eK e (λz=>nomatch z) h
 | int i=>obtain ⟨t,q⟩:=(show ∃ t,u=YZ.int i t from rx);cases q;exact aP PySem.W.kitx_int I.kIn eK e (λz=>nomatch z) h
 | str y=>obtain ⟨t,q⟩:=(show ∃ t,u=YZ.str y t from rx);cases q;exact aP PySem.W.kitx_str I.kIn eK e (λz=>nomatch z) h
 | flt y=>obtain ⟨t,q⟩:=(show ∃ t,u=YZ.float y t from rx);cases q;exact aP PySem.W.kitx_float I.kIn eK e (λz=>nomatch z) h
 | @lst a xs ea=>
  cases (show u=aA a from rx)
  obtain ⟨_,_,n,_,h1⟩:=(show ObjOk X.prog X.w H s.heap a (.lst xs) from I.hok a _ ea)
  exact aP PySem.W.kitx_list I.kIn ⟨_,h1,rfl⟩ e (λz=>nomatch z) h
 | @frz a ob xs ea=>
  cases (show u=aA a from rx)
  obtain ⟨_,_,_,n,_,h1⟩:=(show ObjOk X.prog X.w H s.heap a (.frz ob (.lst xs)) from I.hok a _ ea)
  exact aP PySem.W.kitx_list I.kIn ⟨_,h1,rfl⟩ e (λz=>nomatch z) h
 | @tup a xs ea=>
  cases (show u=aA a from rx)
  obtain ⟨_,_,_,p⟩:=(show ObjOk X.prog X.w H s.heap a (.tup xs) from ea.ok I.hok)
  obtain ⟨o,h1,h2,_⟩:=p
  exact aP PySem.W.kitx_tuple I.kIn ⟨o,h1,h2⟩ e (λz=>nomatch z) h
 | @dK a kvs ea=>
  cases (show u=aA a from rx)
  obtain ⟨_,_,vs,_,p⟩:=(show ObjOk X.prog X.w H s.heap a (.dK kvs) from I.hok a _ ea)
  obtain ⟨o,es,ep,h1,h2,_⟩:=p
  exact aP PySem.W.kitx_dict I.kIn ⟨o,h1,h2.1⟩ e (λz=>nomatch z) h
 | @dT a kvs ea=>
  cases (show u=aA a from rx)
  obtain ⟨_,_,xs,_,o,es,ep,h1,h2,_⟩:=(show ObjOk X.prog X.w H s.heap a (.dT kvs) from I.hok a _ ea)
  exact aP PySem.W.kitx_dict I.kIn ⟨o,h1,h2.1⟩ e (λz=>nomatch z) h
 | @ins a C dx fs ea cl ha hn htk hm=>
  cases (show u=aA a from rx)
  obtain ⟨mA,O,_⟩:=SC I.hok ea
  obtain ⟨od,J,_⟩:=O.look
  exact aP (PySem.W.kitx_own (cl.get _) cl.hd ha hn htk hm) I.kIn J e (λz=>nomatch z) h
end
end L2
namespace L2
open PySem PySem.Spec PyProof.Rows
structure Room(k:Nat)(A:aC):Prop where
 hd:A.handled=YY
 dp:A.depth+3 * k+5 < recursionLimit
 un:A.units+16 * k+200 < eD
theorem Room.deeper{k:Nat}{A:aC}(r:Room (k+1) A)(env:Env):Room k (A.deeper env):=
 ⟨r.hd,by have:=r.dp;show A.depth+1+3 * k+5 < _;omega,by have:=r.un;show A.units+3+16 * k+200 < _;omega⟩
theorem Room.depth{k:Nat}{A:aC}(r:Room k A):A.depth < recursionLimit:=by have:=r.dp;omega
theorem Room.units{k:Nat}{A:aC}(r:Room k A):A.units+64 < eD:=by have:=r.un;omega
noncomputable def Rr:TA:=λ_ H Q=>Q [] H
noncomputable def Jc(ta:TE)(tr:TA):TA:=λσ H Q=>ta σ H λx H1=>tr σ H1 λxs H2=>Q (x::xs) H2
section
variable{X:Cx}{e:ZY}{es:List ZY}{te:TE}{t:TA}{pos:eE}
theorem xo:PA X [] Rr:=λ_ _ _ _ H Q I h=>Calls.spliced_nil ⟨[],H,I,.nil,h⟩
theorem wy(ha:PE X e te)(hr:PA X es t)(hs:Zf (e::es) X.env=(false,bB e X.env)::Zf es X.env:=by rfl):PA X (e::es) (Jc te t):=by
 intro pos lh s σ H Q I h
 rw [hs]
 show Z0 _ _ (spliced ((false,bB e X.env)::aF pos (Zf es X.env))) _ _ s
 refine Calls.spliced_cons (bj (ha lh s σ H _ I h) λu s1 ⟨x,H1,I1,r1,q1⟩=>?_)
 exact bj (hr pos lh s1 σ H1 _ I1 q1) λus s2 ⟨xs,H2,I2,r2,q2⟩=>⟨x::xs,H2,I2,.cons r1 r2,q2⟩
noncomputable def Ys(t:TA):TE:=λσ H Q=>t σ H λxs H1=>xs.length<=Zx/\∀ p,H1 p=YY->Q (.ref p) (upd H1 p (.tup xs))
noncomputable def Yv(t:TA):TE:=λσ H Q=>t σ H λxs H1=>xs.length<=Zx/\∀ p,H1 p=YY->Q (.ref p) (upd H1 p (.lst xs))
theorem Us{x1}(h:PA X es t):PE X (.Tuple es x1 pos) (Ys t):=by
 intro lh s σ H Q I hq
 refine wpAny_Tuple_spliced (bj (h pos lh s σ H _ I hq) λus s1 ⟨xs,H1,I1,r,z,q⟩=>⟨by rw [<- r.length];exact z,?_⟩)
 have hf:H1 s1.heap.objs.size=YY:=I1.hok.fresh (Ze _)
 refine ⟨.ref s1.heap.objs.size,upd H1 s1.heap.objs.size (.tup xs),I1.laid (t':=s1.toks) (λb u e=>Zk _ e) (Ze _) ?_,rfl,q _ hf⟩
 exact ⟨z,us,r,⟨_,ZK _ rfl,rfl,_,rfl⟩⟩
theorem Qu(h:PA X es t):PE X (.List es pos) (Yv t):=by
 intro lh s σ H Q I hq
 refine wpAny_List_spliced (bj (h pos lh s σ H _ I hq) λus s1 ⟨xs,H1,I1,r,z,q⟩=>⟨by rw [<- r.length];exact z,?_⟩)
 have hf:H1 s1.heap.objs.size=YY:=I1.hok.fresh (Ze _)
 refine ⟨.ref s1.heap.objs.size,upd H1 s1.heap.objs.size (.lst xs),I1.laid (t':=s1.toks) (λb u e=>Zk _ e) (Ze _) ?_,rfl,q _ hf⟩
 exact ⟨z,us,0,r,ZK _ rfl⟩
end
abbrev Sp:=List V->Hp->VK->XK->Prop
abbrev GY:=List Env->Hp->Zd->XK->YZ->Zd->Prop
structure Env0(P:Z8)(w:ZN)(K:Zb)(mg:Z3->Option YZ)(base:ZM)(A:aC)(lj:List Env)(s:Zd)(H:Hp):Prop where
 frames:A.frames=YW lj
 mod:Mod K mg base
 bs:∀ b o,base.get? b=YW o->s.heap.get? b=YW o/\Sb K H b o
 bsz:base.objs.size<=s.heap.objs.size
 funs:s.heap.FunFrames base lj
 frf:∀ b∈sf lj,H b=YY
 hok:HOk P w H s.heap
 bare:iG s.gens
noncomputable def CE(lj:List Env)(P:Z8)(w:ZN)(H:Hp)(s:Zd)(Q:VK)(u:YZ)(s':Zd):Prop:=
 ∃ v H',s'.os=s.os/\iG s'.gens/\Un (sf lj) [] H H' s.heap s'.heap/\HOk P w H' s'.heap/\RelV v u/\Q v H'
noncomputable def CR(CX:GY)(lj:List Env)(P:Z8)(w:ZN)(H:Hp)(s:Zd)(Q:VK)(E:XK)(r:Result)(s':Zd):Prop:=
 match r with
 | .ok (.ret u)=>CE lj P w H s Q u s'
 | .ok _=>False
 | .error e=>CX lj H s E e s'
structure FnOk(P:Z8)(w:ZN)(K:Zb)(mg:Z3->Option YZ)(base:ZM)(CX:GY)(k:Nat)(f:Zh)(fd:fR)(ps:List Z3)(sp:Sp):Prop where
 len:∀ vs H Q E,sp vs H Q E->vs.length=ps.length
 run:∀ (A:aC) (lj:List Env) (s:Zd) (H:Hp) (args:Args) (us:List YZ) (vs:List V) (Q:VK) (E:XK),Room k A->Env0 P w K mg base A lj s H->BindsTo s fd args (ps.zip us)->Vals vs us->sp vs H Q E->
  codeAny (ZD P w) A (.call (.ref f) args) (CR CX lj P w H s Q E) s
section
variable{X:Cx}{lh:List (Zh×bX)}{σ:St}{H:Hp}{s s':Zd}
theorem Inv.env0(I:Inv X lh σ H s):Env0 X.prog X.w X.K X.mg X.base X.A X.stack s H:=
 ⟨I.ok.frames,I.ok.mod,I.bs,Zo I.ok.bsz I.sz,I.stack,I.stkFree,I.hok,I.bare⟩
theorem Inv.after{Q:VK}{u:YZ}(I:Inv X lh σ H s)(h:CE X.stack X.prog X.w H s Q u s'):EP X lh σ Q u s':=by
 obtain ⟨v,H',os,bare,un,hok,r,q⟩:=h
 obtain ⟨hh,g,d,t,os'⟩:=s'
 obtain rfl:os'=s.os:=os
 exact ⟨v,H',I.call (h':=hh) (g':=g) (d':=d) (t':=t) (ch:=[]) un hok bare (λb z=>absurd z (by simp)),r,q⟩
end
noncomputable def Binds(K:Zb)(fd:fR)(ps:List Z3)(ds:List YZ):Prop:=
 ∀ (s:Zd) (us:List YZ),K.In s.heap->(us++ds).length=ps.length->BindsTo s fd ⟨us,[]⟩ (ps.zip (us++ds))
theorem Binds.all{K:Zb}{fd:fR}{ps:List Z3}(h:∀ us:List YZ,us.length=ps.length->iO fd ⟨us,[]⟩=pure (ps.zip us)):Binds K fd ps []:=λs us _ hl=>by
 rw [ZL] at hl ⊢
 exact .of_eq (h us hl)
structure FnScope(N P:List Z3)(sc:jC):Prop where
 kind:sc.kind= .function
 co:sc.isCoroutine=false
 gen:sc.isGenerator=false
 nd:N.Nodup
 pre:N.take P.length=P
 par:∀ x∈P,sc.names.lookup x=YW .local∨sc.names.lookup x=YW .cell
 nofree:∀ y∈sc.names,y.2≠.free
theorem Gg{gQ:Z3->Option bY}{x:Z3}:∀ {binds:List (Z3×YZ)} {m:Z3->Option YZ},(∀ v,(x,v)∉binds)->bindL gQ binds m x=m x
 | [],_,_=>rfl
 | (n,v)::r,m,h=>by
  unfold bindL
  rw [Gg λw hw=>h w (Z5 _ hw)]
  split
  ·have:x≠n:=by rintro rfl;exact h v Zz
   simp [this]
  ·rfl
theorem Gd{gQ:Z3->Option bY}{x:Z3}:∀ {binds:List (Z3×YZ)} {m:Z3->Option YZ},(∀ v,(x,v)∉binds)->bindC gQ binds m x=m x
 | [],_,_=>rfl
 | (n,v)::r,m,h=>by
  unfold bindC
  rw [Gd λw hw=>h w (Z5 _ hw)]
  split
  ·rfl
  ·have:x≠n:=by rintro rfl;exact h v Zz
   simp [this]
theorem Gu{gQ:Z3->Option bY}{x:Z3}{v:YZ}:∀ {P:List Z3} {vs:List YZ} {i:Nat} {m:Z3->Option YZ},P.Nodup->P[i]? =YW x->vs[i]? =YW v->gQ x=YW .local->
  bindL gQ (P.zip vs) m x=YW v
 | [],_,_,_,_,h,_,_=>by simp at h
 | _::_,[],_,_,_,_,h,_=>by simp at h
 | p::P,w::vs,0,m,nd,h1,h2,hk=>by
  simp at h1 h2;subst h1;subst h2
  show bindL gQ ((p,w)::P.zip vs) m p=_
  unfold bindL
  rw [Gg λv hv=>(dE.mp nd).1 (List.of_mem_zip hv).1,jn hk]
  simp
 | p::P,w::vs,i+1,m,nd,h1,h2,hk=>by
  show bindL gQ ((p,w)::P.zip vs) m x=_
  unfold bindL
  exact Gu (i:=i) (dE.mp nd).2 (by simpa using h1) (by simpa using h2) hk
theorem GF{gQ:Z3->Option bY}{x:Z3}{v:YZ}:∀ {P:List Z3} {vs:List YZ} {i:Nat} {m:Z3->Option YZ},P.Nodup->P[i]? =YW x->vs[i]? =YW v->gQ x≠YW .local->
  bindC gQ (P.zip vs) m x=YW v
 | [],_,_,_,_,h,_,_=>by simp at h
 | _::_,[],_,_,_,_,h,_=>by simp at h
 | p::P,w::vs,0,m,nd,h1,h2,hk=>by
  simp at h1 h2;subst h1;subst h2
  show bindC gQ ((p,w)::P.zip vs) m p=_
  unfold bindC
  rw [Gd λv hv=>(dE.mp nd).1 (List.of_mem_zip hv).1,qz hk]
  simp
 | p::P,w::vs,i+1,m,nd,h1,h2,hk=>by
  show bindC gQ ((p,w)::P.zip vs) m x=_
  unfold bindC
  exact GF (i:=i) (dE.mp nd).2 (by simpa using h1) (by simpa using h2) hk
noncomputable def i3(N:List Z3)(vs:List V):St:=vs.map YW++Z1 (N.length - vs.length) YY
noncomputable def CH(CX:GY)(P:Z8)(w:ZN)(K:Zb)(mg:Z3->Option YZ)(base:ZM)(N:List Z3)(qual:Z3)(scope:jC)(f:Zh)(cd:YZ)(A:aC)(lj:List Env)(s:Zd)(H:Hp)(E:XK):Cx where
 prog:=P
 w:=w
 K:=K
 mg:=mg
 base:=base
 A:=A.deeper (iZ qual scope s.heap.objs.size f cd)
 N:=N
 s₀:=s
 H₀:=H
 env:=iZ qual scope s.heap.objs.size f cd
 lj:=lj
 stack:=iZ qual scope s.heap.objs.size f cd::lj
 ex:=[]
 lu:=true
 fn:=λ_=>true
 pn:=[]
 xe:=λe s'=>Z0 (ZD P w) (A.deeper (iZ qual scope s.heap.objs.size f cd)) (leaving (iZ qual scope s.heap.objs.size f cd) e) (λ_ s''=>CX lj H s E e s'') (λe' s''=>CX lj H s E e' s'') s'
theorem Jt{sc:jC}{n:Nat}{x:Z3}(h:sc.names.lookup x=YW .cell):∃ c,(cellsFrom n sc.names []).lookup x=YW c:=by
 have q:=PySem.W.cellsFrom_some sc.names n [] (.inl h)
 exact dS.mp q
theorem NG{CX:GY}{P:Z8}{w:ZN}{K:Zb}{mg:Z3->Option YZ}{base:ZM}{N ps:List Z3}{qual:Z3}{scope:jC}{f:Zh}{cd:YZ}{A:aC}{lj:List Env}{s s1:Zd}{H:Hp}{E:XK}{us:List YZ}{vs:List V}
  (S:FnScope N ps scope) (hd:A.handled=YY) (e0:Env0 P w K mg base A lj s H) (hl:vs.length=ps.length) (r:Vals vs us)
  (x:InCallC s s.heap.objs.size (bindL (iZ qual scope s.heap.objs.size f cd).kindOf (ps.zip us) λ_=>YY) (cellsFrom (s.heap.objs.size+1) scope.names []) (bindC (iZ qual scope s.heap.objs.size f cd).kindOf (ps.zip us) λ_=>YY) s1):
  Inv (CH CX P w K mg base N qual scope f cd A lj s H E) [] (i3 N vs) H s1:=by
 have hpl:ps.length<=N.length:=by have:=congrArg eJ S.pre;rw [cM] at this;omega
 obtain ⟨h1,tk,rfl,hk⟩:=x.done
 have noA:∀ b:Zh,b∉(CH CX P w K mg base N qual scope f cd A lj s H E).ex:=λb z=>absurd (show b∈([]:List Zh) from z) (by simp)
 refine ⟨⟨e0.mod,S.kind,rfl,rfl,Ze _,λy z c h1 h2=>?_,λy hy=>?_,λy c _ h=>?_,λ_=>hd,aC.frames_deeper e0.frames,.inr ⟨rfl,rfl⟩,λb z=>absurd z (noA b),e0.bs,e0.bsz,λb _ _=>noA b,λb z=>absurd z (noA b),e0.funs,e0.frf⟩,
  rfl,e0.bare,Un.kept hk,⟨_,x.toInCall.ns,λi y v h1 h2 h3=>?_⟩,λy c h=>⟨_,x.cell y c h⟩,e0.hok.fresh (Ze _),λy c h=>?_,λp hp=>absurd (show p∈([]:List (Zh×bX)) from hp) (by simp),e0.hok.kept hk,?_⟩
 ·exact name_of_addr x.apart (cF h1) (cF h2)
 ·have hy:scope.names.lookup y=YW .cell∨scope.names.lookup y=YW .free:=hy
  rcases hy with hy | hy
  ·exact Jt hy
  ·exact absurd rfl (S.nofree _ (cF hy))
 ·exact ZX (x.above y c (cF h))
 ·have hi:i < vs.length:=by
    unfold i3 at h2
    by_cases hi:i < vs.length
    ·exact hi
    ·rw [aK (by simpa using hi)] at h2
     rw [fX] at h2
     split at h2<;>cases h2
  have ha:vs[i]? =YW v:=by
   unfold i3 at h2
   rw [aM (by simpa using hi),ZG] at h2
   cases e:vs[i]? with
   | none=>rw [e] at h2;cases h2
   | some a=>rw [e] at h2;cases h2;rfl
  obtain ⟨u,hu,rv⟩:=r.get ha
  have hp:ps[i]? =YW y:=by
   rw [<- S.pre,List.getElem?_take_of_lt (by omega)];exact h1
  have ndP:ps.Nodup:=by rw [<- S.pre];exact S.nd.sublist (List.take_sublist _ _)
  refine ⟨u,rv,?_⟩
  rcases S.par y (hV hp) with k | k
  ·exact .inl ⟨k,Gu ndP hp hu k⟩
  ·obtain ⟨c,e⟩:=Jt (n:=s.heap.objs.size+1) k
   refine .inr ⟨.inl k,c,e,?_⟩
   have q:=x.cell y c e
   rw [GF ndP hp hu (by show scope.names.lookup y≠_;rw [k];decide)] at q
   exact q
 ·exact e0.hok.fresh (ZX (x.above y c (cF h)))
 ·unfold i3
  show _=N.length
  rw [Za,Z9,List.length_replicate]
  omega
theorem SV{CX:GY}{P:Z8}{w:ZN}{K:Zb}{mg:Z3->Option YZ}{base:ZM}{k:Nat}{f:Zh}{name qual:Z3}{params:Arguments}{body:List aG}{scope:jC}{dV kV doc pm cdv ct oc:YZ}{an od:Option Zh}
  {osl:Array (Option YZ)} {N ps:List Z3} {sp:Sp} (lk:K.lookup f=YW ⟨oc,od,.func (aU name qual params body scope dV kV doc pm an cdv ct),osl⟩) (hcd:fD K cdv qual=true) (S:FnScope N ps scope)
  (len:∀ vs H Q E,sp vs H Q E->vs.length=ps.length)
  (hbody:∀ (A:aC) (lj:List Env) (s:Zd) (H:Hp) (vs:List V) (Q:VK) (E:XK),Room k (A.deeper (iZ qual scope s.heap.objs.size f cdv))->sp vs H Q E->
    ∃ t,PSs (CH CX P w K mg base N qual scope f cdv A lj s H E) body t/\t {nx:=λ_ H'=>Q .non H',rt:=Q} (i3 N vs) H):
  FnOk P w K mg base CX (k+1) f (aU name qual params body scope dV kV doc pm an cdv ct) ps sp:=by
 refine ⟨len,λA lj s H args us vs Q E hr e0 hb r hsp=>?_⟩
 have hl:=len _ _ _ _ hsp
 have KX:K.In s.heap:=e0.mod.kin.keeps λb o e=>(e0.bs b o e).1
 have lim:s.heap.NoLimit:=e0.mod.nolimit.keeps λb o e=>(e0.bs b o e).1
 have hkind:∀ y∈ps.zip us,scope.names.lookup y.1=YW .local∨(scope.names.lookup y.1=YW .cell/\((cellsFrom (s.heap.objs.size+1) scope.names []).lookup y.1).isSome=true):=λ⟨n,v⟩ hy=>by
  rcases S.par n (List.of_mem_zip hy).1 with q | q
  ·exact .inl q
  ·exact .inr ⟨q,PySem.W.cellsFrom_some _ _ _ (.inl q)⟩
 refine codeAny_call_function hr.depth (KX _ _ lk) rfl S.co S.gen rfl (PySem.W.codeRec_of KX hcd) (hb _ _ _ _ ?_)
 refine wpAny_newFunctionEnv_cells S.kind hkind λenv he s1 x=>?_
 subst he
 refine ⟨lim.keeps x.toInCall.keep,codeAny_func ?_⟩
 obtain ⟨t,ht,hq⟩:=hbody A lj s H vs Q E (hr.deeper _) hsp
 have I:Inv (CH CX P w K mg base N qual scope f cdv A lj s H E) [] (i3 N vs) H s1:=NG S hr.hd e0 hl r x
 refine fB (ht [] s1 (i3 N vs) H _ I hq) (λfl s' hs=>?_) λe s' hs=>hs
 have fin:∀ {σ':St} {H':Hp} {v:V} {u:YZ},Inv (CH CX P w K mg base N qual scope f cdv A lj s H E) [] σ' H' s'->RelV v u->Q v H'->CE lj P w H s Q u s':=
  λ{σ' H' v u} J rv q=>⟨v,H',J.os,J.bare,J.base,J.hok,rv,q⟩
 cases fl with
 | ret u=>
  obtain ⟨v,σ',H',J,rv,q⟩:=hs
  exact fin J rv q
 | next=>
  obtain ⟨σ',H',J,q⟩:=hs
  exact fin (v:=V.non) (u:=ZI) J rfl q
 | brk=>
  obtain ⟨_,_,_,q⟩:=hs
  exact bL q
 | cont=>
  obtain ⟨_,_,_,q⟩:=hs
  exact bL q
end L2
namespace L2
open PySem PySem.Spec PyProof.Rows
section
variable{X:Cx}{x:Z3}{p pos:eE}{e:ZY}{es:List ZY}{t:TA}{id T:String}{r:List V->Hp->VK->Prop}
noncomputable def Yr(r:List V->Hp->VK->Prop)(t:TA):TE:=λσ H Q=>t σ H λvs H1=>r vs H1 Q
theorem BH(hc:CallR X (.builtin id) r)(hg:Gl X x)(hm:X.mg x=YY)(hv:bE x=YW (.builtin id))(ha:PA X (e::es) t)(hn:x≠"__name__":=by decide)(hdb:(x == ("__debug__":Z3))=false:=by decide)
  (he:Zf (e::es) X.env=(false,bB e X.env)::Zf es X.env:=by rfl) (hpl:(aF pos (Zf es X.env)).any (·.1)=false:=by rfl):PE X (.Call (.Name x p) (e::es) [] pos) (Yr r t):=by
 intro lh s σ H Q I h
 refine cP (Dj I hg hm hv ?_ hn hdb)
 exact PyProof.Rows.callWith_builtin1 (bj (ha pos lh s σ H _ I h) λus s1 ⟨vs,H1,I1,r1,q1⟩=>hc lh s1 σ H1 vs us Q I1 r1 q1) he hpl
theorem Bj(hc:CallR X (.type T) r)(hg:Gl X x)(hm:X.mg x=YY)(hv:bE x=YW (.type T))(ha:PA X (e::es) t)(hn:x≠"__name__":=by decide)(hdb:(x == ("__debug__":Z3))=false:=by decide)
  (he:Zf (e::es) X.env=(false,bB e X.env)::Zf es X.env:=by rfl) (hpl:(aF pos (Zf es X.env)).any (·.1)=false:=by rfl):PE X (.Call (.Name x p) (e::es) [] pos) (Yr r t):=by
 intro lh s σ H Q I h
 refine cP (Dj I hg hm hv ?_ hn hdb)
 exact cH (bj (ha pos lh s σ H _ I h) λus s1 ⟨vs,H1,I1,r1,q1⟩=>hc lh s1 σ H1 vs us Q I1 r1 q1) he hpl
end
end L2
namespace HT
open PySem PyProof.Rows
noncomputable def lexLt:List Int->List Int->Bool
 | [],[]=>false
 | [],_::_=>true
 | _::_,[]=>false
 | x::xs,y::ys=>if x=y then lexLt xs ys else decide (x < y)
theorem lexLt_cons(x y:Int)(xs ys:List Int):lexLt (x::xs) (y::ys)=if x=y then lexLt xs ys else decide (x < y):=rfl
theorem F2:lexLt [] []=false:=rfl
theorem lexLt_nil_cons(y:Int)(ys:List Int):lexLt [] (y::ys)=true:=rfl
theorem lexLt_cons_nil(x:Int)(xs:List Int):lexLt (x::xs) []=false:=rfl
theorem OO(A:aC)(s:Zd)(a:Int)(t:Tok)(c:Int)(u:Tok):∃ e,SeqAt.EqAt A s (.int a t) (.int c u) e/\(e=true↔a=c):=
 ⟨(a == c),SeqAt.EqAt.int_int a t c u,by simp⟩
theorem OP(A:aC)(s:Zd)(a:Int)(t:Tok)(c:Int)(u:Tok)(prog:Z8)(w:ZN)(E:YZ->Zd->Prop)(Q:YZ->Zd->Prop)(h:Q (.bool (decide (a < c))) s):
  Z0 (ZD prog w) A (richCompare .Lt (.int a t) (.int c u)) Q E s:=
 (PyProof.Rows.lt_int h:Z0 (ZD prog w) A (aL .Lt (.int a t) (.int c u)) Q E s)
section
open PySem.SeqAt
open PySem.AutoSeq1 (wpAny_loadPart')
open PySem.MeetsSeq PySem.MeetsSeq2 PySem.MeetsSeq3
theorem tuple_lt_ints(l b:Zh)(items items2:Array YZ)(n n2:Nat)(dd dd2:Option Zh)(sl sl2:Array (Option YZ))(ns ms:List Int)(hi:dM items.toList ns)(hj:dM items2.toList ms):
  Meets (aT.«tuple.__lt__» ⟨[.ref l,.ref b],[]⟩)
   (λ_ R s=>s.heap.get? l=YW {cls:=.type "tuple",dict:=dd,data:=.seq items n,slots:=sl}/\s.heap.get? b=YW {cls:=.type "tuple",dict:=dd2,data:=.seq items2 n2,slots:=sl2}/\
     R (.ok (.ret (.bool (lexLt ns ms)))) s):=
 .of_wp λprog w A R s h=>by
  obtain ⟨hp,g,d,tk,os⟩:=s;obtain ⟨hl,hb,h⟩:=h
  have f2:=fS
  have z1:items.size=ns.length:=by rw [<- hi.length];simp
  have z2:items2.size=ms.length:=by rw [<- hj.length];simp
  wp_walk using ZT hl,ZT hb,wpAny_forIn_list _ (λrest b s'=>b.1=YY/\s'=⟨hp,g,d,tk,os⟩/\∃ (vs ws:List YZ) (ns' ms':List Int),rest=vs.zip ws/\
   dM vs ns'/\dM ws ms'/\ns'.length+items2.size=ms'.length+items.size/\R (.ok (.ret (.bool (lexLt ns' ms')))) ⟨hp,g,d,tk,os⟩) _
  case turn=>
   rintro ⟨y,x⟩ rest b s' ⟨hb',rfl,vs,ws,ns',ms',hz,hvi,hwi,lq,hR⟩
   cases hvi with
   | nil=>rw [List.zip_nil_left] at hz;cases hz
   | cons a t hvi'=>
    cases hwi with
    | nil=>rw [List.zip_nil_right] at hz;cases hz
    | cons c u hwi'=>
     rw [bT] at hz
     injection hz with hyx hrest
     injection hyx with hy hx
     subst hy hx
     rw [lexLt_cons] at hR
     simp only [Zj] at lq
     obtain ⟨e,he,hiff⟩:=OO A.in1 ⟨hp,g,d,tk,os⟩ a t c u
     refine Zc (he prog w _ _ ?_)
     cases e with
     | true=>
      rw [jn (hiff.mp rfl)] at hR
      wp_walk
      exact ⟨rfl,rfl,_,_,_,_,hrest,hvi',hwi',by omega,hR⟩
     | false=>
      rw [qz (λq=>absurd (hiff.mpr q) Zv)] at hR
      have hri:=OP A.in1 ⟨hp,g,d,tk,os⟩ a t c u prog w
      wp_walk using hri
      exact ⟨_,rfl,by simpa using hR⟩
  case fin=>
   rintro ⟨b1,b2⟩ s' ⟨hb',rfl,vs,ws,ns',ms',hz,hvi,hwi,lq,hR⟩
   simp only at hb'
   subst hb'
   have hv:lexLt ns' ms'=decide (items.size < items2.size):=by
    cases hvi with
    | nil=>
     cases hwi with
     | nil=>
      simp only [ZJ] at lq
      rw [F2]
      exact (decide_eq_false (by omega)).symm
     | cons c u hw=>
      simp only [ZJ,Zj] at lq
      rw [lexLt_nil_cons]
      exact (decide_eq_true (by omega)).symm
    | cons a t hv=>
     cases hwi with
     | nil=>
      simp only [ZJ,Zj] at lq
      rw [lexLt_cons_nil]
      exact (decide_eq_false (by omega)).symm
     | cons c u hw=>
      rw [bT] at hz
      cases hz
   rw [hv] at hR
   wp_walk
   exact ⟨_,rfl,by simpa [aT.Tuple.tupleCompareSizes] using hR⟩
  case h=>
   exact ⟨rfl,rfl,items.toList,items2.toList,ns,ms,rfl,hi,hj,by omega,h⟩
end
section
variable{prog:Z8}{w:ZN}{A:aC}{E:YZ->Zd->Prop}{s:Zd}
theorem lt_tupInts{l b:Zh}{items items2:Array YZ}{ns ms:List Int}{Q:YZ->Zd->Prop}(hl:IsTup s.heap l items)(hb:IsTup s.heap b items2)(hi:dM items.toList ns)(hj:dM items2.toList ms)
  (hu:A.units < eD) (h:Q (.bool (lexLt ns ms)) s):Z0 (ZD prog w) A (aL .Lt (.ref l) (.ref b)) Q E s:=by
 obtain ⟨⟨cls,dd,data,sl⟩,ho,hc,n,hd⟩:=id hl
 obtain ⟨⟨cls2,dd2,data2,sl2⟩,ho2,hc2,n2,hd2⟩:=id hb
 simp only at hc hd hc2 hd2
 subst hc hd hc2 hd2
 exact richCompare_meets_room (op:=.Lt) ⟨_,ho,rfl⟩ ⟨_,ho2,rfl⟩ eQ gH (fY _ _) (tuple_lt_ints l b items items2 n n2 dd dd2 sl sl2 ns ms hi hj)
  ⟨ho,ho2,show YZ.bool (lexLt ns ms)≠iA/\Q (.bool (lexLt ns ms)) s from ⟨(λx=>nomatch x),h⟩⟩ hu
theorem cat_tup{t b:Zh}{vs ws:List YZ}{Q:YZ->Zd->Prop}(ht:IsTup s.heap t vs.toArray)(hb:IsTup s.heap b ws.toArray)(hv:vs≠[])
  (h1:ws=[]->Q (.ref t) s) (h2:ws≠[]->Q (.ref s.heap.objs.size) {s with heap:=s.heap.push {cls:=.type "tuple",data:=.seq (vs++ws).toArray}})
  (hsz:vs.length+ws.length<=Zx):Z0 (ZD prog w) A (cN .Add (.ref t) (.ref b)) Q E s:=by
 obtain ⟨⟨cls,dd,data,sl⟩,ho,hc,n,hd⟩:=id ht
 obtain ⟨⟨cls2,dd2,data2,sl2⟩,ho2,hc2,n2,hd2⟩:=id hb
 simp only at hc hd hc2 hd2
 subst hc hd hc2 hd2
 have e:vs.toArray++ws.toArray=(vs++ws).toArray:=by simp
 by_cases hw:ws=[]
 ·exact concat_meets ⟨_,ho,rfl⟩ ⟨_,ho2,rfl⟩ noFill_tuple_add seq_tuple_add gI fZ (fT _ _)
   (tuple_addW1 t b vs.toArray ws.toArray n n2 dd dd2 sl sl2 (by simpa using hv) (by simp [hw])) ⟨ho,ho2,h1 hw⟩
 ·refine concat_meets ⟨_,ho,rfl⟩ ⟨_,ho2,rfl⟩ noFill_tuple_add seq_tuple_add gI fZ (fT _ _)
    (tuple_addW2 t b vs.toArray ws.toArray n n2 dd dd2 sl sl2 (by simpa using hv) (by simpa using hw) (by rw [Zl,Zl];exact hsz)) ⟨ho,ho2,?_⟩
  rw [e]
  exact h2 hw
noncomputable def sIx(n d:Nat):Option Int->Nat
 | none=>d
 | some v=>if v < 0 then (v+(n:Int)).toNat else min v.toNat n
theorem Up(n d:Nat)(hd:d<=n)(o:Option Int):sIx n d o<=n:=by
 cases o with
 | none=>exact hd
 | some v=>
  show (if v < 0 then (v+(n:Int)).toNat else min v.toNat n)<=n
  by_cases hv:v < 0
  ·rw [jn hv];omega
  ·rw [qz hv];exact Nat.min_le_right _ _
theorem clip_eq(v:Int)(n d:Nat):(if v < 0 then max (v+(n:Int)) 0 else min v (n:Int))=((sIx n d (YW v):Nat):Int):=by
 show (if v < 0 then max (v+(n:Int)) 0 else min v (n:Int))=(((if v < 0 then (v+(n:Int)).toNat else min v.toNat n):Nat):Int)
 by_cases hv:v < 0
 ·simp only [jn hv];omega
 ·simp only [qz hv];omega
theorem KA(lo hi:Option Int)(n:Nat):fO lo hi 1 (n:Int)=(((sIx n 0 lo:Nat):Int),((sIx n n hi:Nat):Int)):=by
 have h1:¬ ((1:Int) < 0):=by omega
 unfold fO
 simp only [h1,if_false]
 refine Prod.ext ?_ ?_
 ·cases lo with
  | none=>rfl
  | some v=>exact clip_eq v n 0
 ·cases hi with
  | none=>rfl
  | some v=>exact clip_eq v n n
theorem Lu(i j:Nat):cZ (i:Int) (j:Int) 1=j - i:=by
 unfold cZ
 have h1:(1:Int) > 0:=by omega
 simp only [h1,if_true,Int.ediv_one]
 split<;>omega
theorem EE{v:YZ}{o:Option Int}{Q:Option Int->Zd->Prop}(p:jA v o)(h:Q o s):Z0 (ZD prog w) A (aT.Slice.slicePartIndex v) Q E s:=by
 cases p with
 | none=>exact slicePart_none h
 | int i t=>exact slicePart_int h
theorem sliceApplied_gen{sl:Zh}{vl vu:YZ}{lo hi:Option Int}{n:Nat}{Q:Int×Int×Nat->Zd->Prop}(hs:s.heap.IsSliceOf sl vl vu .none)(pl:jA vl lo)(pu:jA vu hi)
  (h:Q (((sIx n 0 lo:Nat):Int),1,sIx n n hi - sIx n 0 lo) s):Z0 (ZD prog w) A (aT.Slice.sliceApplied (.ref sl) (pure (n:Int))) Q E s:=by
 obtain ⟨os,hos,hcs,hds⟩:=id hs
 unfold aT.Slice.sliceApplied aT.Slice.sliceFields
 refine Zc (Zc (bZ hos hds (x:=vl) rfl (Zc (bZ hos hds (x:=vu) rfl (Zc (bZ hos hds (x:=.none) rfl (Zr ?_)))))))
 refine Zc (slicePart_none ?_)
 show Z0 _ _ (if ((1:Int) == 0)=true then _ else _) _ _ s
 rw [qz (by decide)]
 refine Zc (EE pl (Zc (EE pu (Zc (Zr ?_)))))
 show Z0 _ _ (match fO lo hi 1 (n:Int) with | (lo,hi)=>pure (lo,(1:Int),cZ lo hi 1)) _ _ s
 rw [KA lo hi n]
 show Z0 _ _ (pure (((sIx n 0 lo:Nat):Int),(1:Int),cZ ((sIx n 0 lo:Nat):Int) ((sIx n n hi:Nat):Int) 1)) _ _ s
 rw [Lu]
 exact Zr h
theorem Pk(xs:Array YZ)(i k:Nat):((ZR k).filterMap λ(m:Nat)=>xs[((i:Int)+(m:Int) * 1).toNat]?).toArray=((xs.toList.drop i).take k).toArray:=by
 have e:(λ(m:Nat)=>xs[((i:Int)+(m:Int) * 1).toNat]?)=λm=>xs[i+m]?:=by
  funext m
  have:((i:Int)+(m:Int) * 1).toNat=i+m:=by omega
  rw [this]
 rw [e]
 have:=pick_run xs i k
 rw [List.filterMap_map] at this
 have e2:((λx=>xs[x]?)∘λx=>i+x)=λm=>xs[i+m]?:=rfl
 rw [e2] at this
 rw [this]
theorem getItem_tuple_cut{t sl:Zh}{items:Array YZ}{vl vu:YZ}{lo hi:Option Int}{Q:YZ->Zd->Prop}(ht:IsTup s.heap t items)(hs:s.heap.IsSliceOf sl vl vu .none)(pl:jA vl lo)(pu:jA vu hi)
  (hw:¬ (sIx items.size 0 lo=0/\sIx items.size items.size hi=items.size))
  (h:Q (.ref s.heap.objs.size) {s with heap:=s.heap.push {cls:=.type "tuple",data:=.seq ((items.toList.drop (sIx items.size 0 lo)).take (sIx items.size items.size hi - sIx items.size 0 lo)).toArray}})
  (hsz:items.size<=Zx):Z0 (ZD prog w) A (getItem (.ref t) (.ref sl)) Q E s:=by
 have htake:sizeOk (.seq ((items.toList.drop (sIx items.size 0 lo)).take (sIx items.size items.size hi - sIx items.size 0 lo)).toArray):=by
  show ((items.toList.drop (sIx items.size 0 lo)).take (sIx items.size items.size hi - sIx items.size 0 lo)).toArray.size<=Zx
  rw [Zl,cM,List.length_drop,Array.length_toList]
  omega
 have hj:sIx items.size items.size hi<=items.size:=Up _ _ (Ze _) hi
 obtain ⟨os,hos,hcs,hds⟩:=id hs
 have hTs:s.TypeIs (.ref sl) "slice":=⟨os,hos,hcs⟩
 unfold getItem
 try with_reducible refine dU ?_
 first | refine Zc (Zr ?_) | skip
 refine Zc (wpAny_sequenceKey ht.typeIs (by decide) ?_)
 refine Zc (bG (name:=fK "__getitem__") ht.typeIs aI
  (cL aI ht.typeIs entry_tuple_getitem ?_ (args_tuple_getitem _ _)))
 show Z0 _ _ (eY (.ref t) >>= _) _ _ s
 refine Zc (tupleItemsOf_ ht ?_)
 refine Zc (wpAny_typeOf hTs ?_)
 rw [jn (by decide)]
 refine Zc (sliceApplied_gen hs pl pu ?_)
 have hno:¬ ((((sIx items.size 0 lo:Nat):Int) == 0 && (1:Int) == 1 && (sIx items.size items.size hi - sIx items.size 0 lo) == items.size)=true):=by
  intro q
  rw [Zn,Zn] at q
  have q1:((sIx items.size 0 lo:Nat):Int)=0:=eq_of_beq q.1.1
  have q2:sIx items.size items.size hi - sIx items.size 0 lo=items.size:=eq_of_beq q.2
  exact hw ⟨by omega,by omega⟩
 show Z0 _ _ (if (((sIx items.size 0 lo:Nat):Int) == 0 && (1:Int) == 1 && (sIx items.size items.size hi - sIx items.size 0 lo) == items.size)=true then _ else _) _ _ s
 rw [qz hno,Pk]
 first
  | exact Zc (m:=dW _) (bM (Zr ⟨_,rfl,Zr h⟩) htake)
  | exact Zc (m:=dW _) (bM (Zc (Zr (Zr ⟨_,rfl,Zr h⟩))) htake)
  | exact Zc (Zc (m:=dW _) (bM (Zr (Zr ⟨_,rfl,Zr h⟩)) htake))
  | exact Zc (Zc (m:=dW _) (bM (Zr ⟨_,rfl,Zr h⟩) htake))
end
end HT
namespace L2
open PySem PySem.Spec PyProof.Rows
abbrev TO:=St->Hp->(Option Int->Hp->Prop)->Prop
noncomputable def PO(X:Cx)(e:Option ZY)(t:TO):Prop:=
 ∀ (lh:List (Zh×bX)) (s:Zd) (σ:St) (H:Hp) (Q:Option Int->Hp->Prop),Inv X lh σ H s->t σ H Q->
  Z0 (ZD X.prog X.w) X.A (evalPart e X.env) (λu s'=>∃ o H',Inv X lh σ H' s'/\jA u o/\Q o H') X.xe s
noncomputable def RX:TO:=λ_ H Q=>Q YY H
noncomputable def WN(t:TE):TO:=λσ H Q=>t σ H λx H1=>∃ i,x= .int i/\Q (YW i) H1
theorem EK{ns:List Int}:∀ {us:List YZ},Vals (ns.map V.int) us->dM us ns:=by
 induction ns with
 | nil=>intro us r;rw [iJ] at r;cases r;exact .nil
 | cons n ns ih=>
  intro us r
  rw [ZC] at r
  cases r with
  | cons r1 r2=>
   obtain ⟨t,e⟩:=r1
   subst e
   exact .cons n t (ih r2)
section
variable{X:Cx}{e:ZY}{te:TE}{lo hi:Option ZY}{tl th:TO}{pos p2:eE}
theorem RN:PO X YY RX:=by
 intro lh s σ H Q I h
 rw [evalPart_none]
 exact Zr ⟨YY,H,I,.none,h⟩
theorem Si(h:PE X e te):PO X (YW e) (WN te):=by
 intro lh s σ H Q I hw
 rw [evalPart_some]
 refine bj (h lh s σ H _ I hw) λu s1 ⟨x,H1,I1,r1,q1⟩=>?_
 obtain ⟨i,rfl,q⟩:=q1
 obtain ⟨t,rfl⟩:=r1
 exact ⟨YW i,H1,I1,.int i t,q⟩
noncomputable def SlR(X:Cx)(r:V->Option Int->Option Int->Hp->VK->Prop):Prop:=
 ∀ (lh:List (Zh×bX)) (s:Zd) (σ:St) (H:Hp) (x:V) (v vl vu:YZ) (lo hi:Option Int) (sl:Zh) (Q:VK),Inv X lh σ H s->RelV x v->s.heap.IsSliceOf sl vl vu .none->jA vl lo->jA vu hi->r x lo hi H Q->
  ∃ T id,typeLookup (.type T) "__getitem__" =pure (YW (.builtin id))/\s.TypeIs v T/\Z0 (ZD X.prog X.w) X.A (getItem v (.ref sl)) (EP X lh σ Q) X.xe s
theorem SlR.or{r r':V->Option Int->Option Int->Hp->VK->Prop}(h:SlR X r)(h':SlR X r'):SlR X (λx lo hi H Q=>r x lo hi H Q∨r' x lo hi H Q):=by
 intro lh s σ H x v vl vu lo hi sl Q I rx hs pl pu q
 rcases q with q | q
 ·exact h lh s σ H x v vl vu lo hi sl Q I rx hs pl pu q
 ·exact h' lh s σ H x v vl vu lo hi sl Q I rx hs pl pu q
noncomputable def YQ(r:V->Option Int->Option Int->Hp->VK->Prop)(te:TE)(tl th:TO):TE:=λσ H Q=>te σ H λx H1=>tl σ H1 λl H2=>th σ H2 λu H3=>r x l u H3 Q
theorem OV{r:V->Option Int->Option Int->Hp->VK->Prop}(hr:SlR X r)(he:PE X e te)(hl:PO X lo tl)(hu:PO X hi th):PE X (.Subscript e (.Slice lo hi YY p2) pos) (YQ r te tl th):=by
 intro lh s σ H Q I h
 refine Subscript_ (bj (he lh s σ H _ I h) λv s1 ⟨x,H1,I1,r1,q1⟩=>?_)
 refine wpAny_Slice (bj (hl lh s1 σ H1 _ I1 q1) λvl s2 ⟨l,H2,I2,pl,q2⟩=>bj (hu lh s2 σ H2 _ I2 q2) λvu s3 ⟨u,H3,I3,pu,q3⟩=>?_)
 rw [evalPart_none]
 refine Zr ?_
 have I4:Inv X lh σ H3 {s3 with heap:=s3.heap.push {cls:=.type "slice",data:=.fields #[vl,vu,.none]}}:=I3.kept (t':=s3.toks) λb ob q=>Zk _ q
 obtain ⟨T,id,hT,ht,hg⟩:=hr lh {s3 with heap:=s3.heap.push {cls:=.type "slice",data:=.fields #[vl,vu,.none]}} σ H3 x v vl vu l u s3.heap.objs.size Q I4 r1 (ZM.IsSliceOf.new ..) pl pu q3
 show Z0 (ZD X.prog X.w) X.A (subscriptTail e (.Slice lo hi YY p2) v (.ref s3.heap.objs.size)) (EP X lh σ Q) X.xe {s3 with heap:=s3.heap.push {cls:=.type "slice",data:=.fields #[vl,vu,.none]}}
 exact tail_any (ops:=[.ref s3.heap.objs.size,v]) ht hT hg (by with_unfolding_all rfl)
noncomputable def GP(xs:List V)(lo hi:Option Int):List V:=(xs.drop (HT.sIx xs.length 0 lo)).take (HT.sIx xs.length xs.length hi - HT.sIx xs.length 0 lo)
theorem Dx(xs:List V)(lo hi:Option Int):(GP xs lo hi).length<=xs.length:=by
 unfold GP
 rw [cM,List.length_drop]
 omega
noncomputable def Yi(K:Zb):V->Option Int->Option Int->Hp->VK->Prop:=λx lo hi H Q=>∃ a xs,x= .ref a/\Di K H a xs/\
 ¬ (HT.sIx xs.length 0 lo=0/\HT.sIx xs.length xs.length hi=xs.length)/\∀ p,H p=YY->Q (.ref p) (upd H p (.tup (GP xs lo hi)))
theorem sl_tup:SlR X (Yi X.K):=by
 intro lh s σ H x v vl vu lo hi sl Q I rx hs pl pu h
 obtain ⟨a,xs,rfl,hx,hw,q⟩:=h
 cases rx
 obtain ⟨its,r,ht,hz⟩:=I.tuple hx
 have lq:its.toArray.size=xs.length:=by rw [Zl];exact r.length.symm
 refine ⟨"tuple",_,aI.lookup,ht.typeIs,?_⟩
 refine HT.getItem_tuple_cut ht hs pl pu (by rw [lq];exact hw) ?_ (by rw [lq];exact hz)
 rw [lq]
 refine ⟨.ref s.heap.objs.size,_,I.laid (t':=s.toks) (o:=.tup (GP xs lo hi)) (λb ob q=>Zk _ q) (Ze _) ?_,rfl,q _ (I.hok.fresh (Ze _))⟩
 exact ⟨Zo (Dx xs lo hi) hz,_,(r.drop (HT.sIx xs.length 0 lo)).take (HT.sIx xs.length xs.length hi - HT.sIx xs.length 0 lo),IsTup.new _ _⟩
noncomputable def Tc(K:Zb):R2:=λx y H Q=>∃ a b xs ys,x= .ref a/\y= .ref b/\Di K H a xs/\Di K H b ys/\xs≠[]/\xs.length+ys.length<=Zx/\
 (ys=[]->Q (.ref a) H)/\(ys≠[]->∀ p,H p=YY->Q (.ref p) (upd H p (.tup (xs++ys))))
theorem Vals.nil_iff{xs:List V}{us:List YZ}(r:Vals xs us):us=[]↔xs=[]:=by
 cases r with
 | nil=>simp
 | cons _ _=>simp
theorem op_catT:OpR X (cN .Add) (Tc X.K):=by
 intro lh s σ H x y v u Q I rx ry h
 obtain ⟨a,b,xs,ys,rfl,rfl,ha,hb,hx,hz,q1,q2⟩:=h
 cases rx
 cases ry
 obtain ⟨its,r1,p1,_⟩:=I.tuple ha
 obtain ⟨its2,r2,p2,_⟩:=I.tuple hb
 refine HT.cat_tup p1 p2 (λz=>hx (r1.nil_iff.mp z)) (λz=>⟨.ref a,H,I,rfl,q1 (r2.nil_iff.mp z)⟩) (λz=>?_) (by rw [<- r1.length,<- r2.length];exact hz)
 refine ⟨.ref s.heap.objs.size,_,I.laid (t':=s.toks) (o:=.tup (xs++ys)) (λb ob q=>Zk _ q) (Ze _) ?_,rfl,q2 (λw=>z (r2.nil_iff.mpr w)) _ (I.hok.fresh (Ze _))⟩
 exact ⟨by rw [Za];exact hz,_,r1.append r2,IsTup.new _ _⟩
end
end L2
namespace L2
open PySem PySem.Spec PyProof.Rows
noncomputable def Vx(n:Nat)(i:Int):Option Nat:=if 0<=i then (if i < n then YW i.toNat else YY) else if -(n:Int)<=i then YW (i+n).toNat else YY
noncomputable def atI{α:Type}(xs:List α)(i:Int):Option α:=(Vx xs.length i).bind λj=>xs[j]?
theorem RJ{n:Nat}{i:Int}{j:Nat}(h:Vx n i=YW j):seqIndex? i n=YW j/\j < n/\-(n:Int)<=i/\i < n:=by
 unfold Vx at h
 by_cases h0:0<=i
 ·rw [jn h0] at h
  by_cases h1:i < n
  ·rw [jn h1] at h
   have e:i.toNat=j:=ZS h
   exact ⟨by rw [seqIndex_of h0 h1,e],by omega,by omega,h1⟩
  ·rw [qz h1] at h;cases h
 ·rw [qz h0] at h
  by_cases h1:-(n:Int)<=i
  ·rw [jn h1] at h
   have e:(i+n).toNat=j:=ZS h
   exact ⟨by rw [seqIndex_neg (by omega) h1,e],by omega,h1,by omega⟩
  ·rw [qz h1] at h;cases h
theorem GZ{α:Type}{xs:List α}{i:Int}{v:α}(h:atI xs i=YW v):∃ j,seqIndex? i xs.length=YW j/\xs[j]? =YW v/\j < xs.length/\-(xs.length:Int)<=i/\i < xs.length:=by
 unfold atI at h
 cases e:Vx xs.length i with
 | none=>rw [e] at h;cases h
 | some j=>
  rw [e] at h
  obtain ⟨h1,h2,h3,h4⟩:=RJ e
  exact ⟨j,h1,h,h2,h3,h4⟩
noncomputable def DW(b:ZY):Prop:=∀ o i,subscripted b false o i=operate [o,i] (getItem o i)
noncomputable def IxR(X:Cx)(r:R2):Prop:=
 ∀ (value slice:ZY) (lh:List (Zh×bX)) (s:Zd) (σ:St) (H:Hp) (x y:V) (v u:YZ) (Q:VK),Inv X lh σ H s->RelV x v->RelV y u->r x y H Q->
  subscripted slice false v u=operate [v,u] (getItem v u)->Z0 (ZD X.prog X.w) X.A (subscriptTail value slice v u) (EP X lh σ Q) X.xe s
noncomputable def Yx(X:Cx)(id:String)(r:V->List V->Hp->VK->Prop):Prop:=
 ∀ (lh:List (Zh×bX)) (s:Zd) (σ:St) (H:Hp) (x:V) (xs:List V) (v:YZ) (us:List YZ) (Q:VK),Inv X lh σ H s->RelV x v->Vals xs us->r x xs H Q->
  Z0 (ZD X.prog X.w) X.A (call (.builtin id) (v::us)) (EP X lh σ Q) X.xe s
section
variable{X:Cx}{a b:ZY}{ta tb:TE}{pos:eE}
theorem IxR.or{r r':R2}(h:IxR X r)(h':IxR X r'):IxR X (λx y H Q=>r x y H Q∨r' x y H Q):=by
 intro value slice lh s σ H x y v u Q I rx ry q hs
 rcases q with q | q
 ·exact h value slice lh s σ H x y v u Q I rx ry q hs
 ·exact h' value slice lh s σ H x y v u Q I rx ry q hs
theorem Py{r:R2}(hr:IxR X r)(ha:PE X a ta)(hb:PE X b tb)(hs:DW b):PE X (.Subscript a b pos) (UU r ta tb):=by
 intro lh s σ H Q I h
 exact Subscript_ (UW ha hb I h λv u s2 x y H2 I2 rx ry q=>hr a b lh s2 σ H2 x y v u Q I2 rx ry q (hs _ _))
noncomputable def WA(K:Zb):R2:=λx y H Q=>∃ p xs i v,x= .ref p/\y= .int i/\SqL K H p xs/\atI xs i=YW v/\Q v H
noncomputable def VE(K:Zb):R2:=λx y H Q=>∃ p xs i v,x= .ref p/\y= .int i/\Di K H p xs/\atI xs i=YW v/\Q v H
noncomputable def V6:R2:=λx y H Q=>∃ z i c,x= .str z/\y= .int i/\z.length<=Zx/\atI z.cps.toList i=YW c/\Q (.str ⟨#[c]⟩) H
theorem ix_list:IxR X (WA X.K):=by
 intro value slice lh s σ H x y v u Q I rx ry h hs
 obtain ⟨p,xs,i,z,rfl,rfl,hq,he,q⟩:=h
 cases rx
 obtain ⟨t,rfl⟩:=ry
 obtain ⟨its,r,pl,hz⟩:=I.list hq
 obtain ⟨j,h1,h2,h3,h4,h5⟩:=GZ he
 obtain ⟨w,ew,rw'⟩:=r.get h2
 have hl:=r.length
 have hn:=Ex
 have fin:EP X lh σ Q w s:=⟨z,H,I,rw',q⟩
 by_cases h0:0<=i
 ·have hj:i.toNat=j:=by
    rw [seqIndex_of h0 h5] at h1
    exact ZS h1
  exact item_listR pl.isList h0 (by omega) (by rw [hj];simpa using ew) fin hs
 ·have hj:(i+(its.toArray.size:Int)).toNat=j:=by
    rw [seqIndex_neg (by omega) h4] at h1
    rw [Zl,<- hl]
    exact ZS h1
  exact subscriptTail_builtinR (x:=w) pl.isList.typeIs slot_list_getitem.lookup
   (wpAny_getItem_list_neg (Q:=λr s'=>r=w/\EP X lh σ Q r s') pl.isList (by omega) (by rw [Zl]<;>omega) (by omega) (by rw [hj];simpa using ew) ⟨rfl,fin⟩) hs
theorem ix_tup:IxR X (VE X.K):=by
 intro value slice lh s σ H x y v u Q I rx ry h hs
 obtain ⟨p,xs,i,z,rfl,rfl,hq,he,q⟩:=h
 cases rx
 obtain ⟨t,rfl⟩:=ry
 obtain ⟨its,r,pl,hz⟩:=I.tuple hq
 obtain ⟨j,h1,h2,h3,h4,h5⟩:=GZ he
 obtain ⟨w,ew,rw'⟩:=r.get h2
 have hl:=r.length
 have hn:=Ex
 have fin:EP X lh σ Q w s:=⟨z,H,I,rw',q⟩
 exact subscriptTail_builtinR (x:=w) pl.typeIs slot_tuple_getitem.lookup
  (getItem_tuple (j:=j) (Q:=λr s'=>r=w/\EP X lh σ Q r s') pl (by omega) (by omega) (by rw [Zl,<- hl];exact h1) (by simpa using ew) ⟨rfl,fin⟩) hs
theorem TM:IxR X V6:=by
 intro value slice lh s σ H x y v u Q I rx ry h hs
 obtain ⟨z,i,c,rfl,rfl,hz,he,q⟩:=h
 obtain ⟨t,rfl⟩:=rx
 obtain ⟨t',rfl⟩:=ry
 obtain ⟨j,h1,h2,h3,h4,h5⟩:=GZ he
 have hl:z.cps.toList.length=z.length:=by simp [Z3.length]
 rw [hl] at h1 h4 h5
 have hn:=Ex
 exact tail_any (typeIs_str s z t) slot_str_getitem.lookup (getItem_str (c:=c) (by
  have e1:decide (i < -(2 ^ 63:Int))=false:=decide_eq_false (by omega)
  have e2:decide (i≥2 ^ 63)=false:=decide_eq_false (by omega)
  rw [e1,e2,Bool.or_false]) (by rw [h1];simpa using h2) ⟨.str ⟨#[c]⟩,H,I.tok _,⟨_,rfl⟩,q⟩) hs
noncomputable def Yh(K:Zb):R2:=λx y H Q=>WA K x y H Q∨VE K x y H Q∨V6 x y H Q
theorem Li:IxR X (Yh X.K):=ix_list.or (ix_tup.or TM)
theorem HZ(lo hi:Option Int)(n:Nat):(gA lo hi YY n).1=((HT.sIx n 0 lo:Nat):Int)/\(gA lo hi YY n).2.1=((HT.sIx n n hi:Nat):Int)/\(gA lo hi YY n).2.2=1:=by
 refine ⟨?_,?_,rfl⟩
 ·cases lo with
  | none=>simp [gA,HT.sIx]
  | some i=>
   simp only [gA,HT.sIx,Option.getD_none,show (1:Int) > 0 by decide,if_true]
   by_cases h:i < 0
   ·simp only [h,if_true]<;>omega
   ·simp only [h,if_false]<;>omega
 ·cases hi with
  | none=>simp [gA,HT.sIx]
  | some i=>
   simp only [gA,HT.sIx,Option.getD_none,show (1:Int) > 0 by decide,if_true]
   by_cases h:i < 0
   ·simp only [h,if_true]<;>omega
   ·simp only [h,if_false]<;>omega
theorem FK(its:List YZ)(lo hi:Option Int):slicePick its.toArray lo hi YY=((its.drop (HT.sIx its.length 0 lo)).take (HT.sIx its.length its.length hi - HT.sIx its.length 0 lo)).toArray:=by
 obtain ⟨h1,h2,h3⟩:=HZ lo hi its.toArray.size
 unfold slicePick
 rw [h1,h2,h3]
 simp only [sliceRange_one,pick_run,Zl]<;>rfl
noncomputable def Yd(K:Zb):V->Option Int->Option Int->Hp->VK->Prop:=λx lo hi H Q=>∃ a xs,x= .ref a/\SqL K H a xs/\∀ p,H p=YY->Q (.ref p) (upd H p (.lst (GP xs lo hi)))
theorem Rw:SlR X (Yd X.K):=by
 intro lh s σ H x v vl vu lo hi sl Q I rx hs pl pu h
 obtain ⟨a,xs,rfl,hx,q⟩:=h
 cases rx
 obtain ⟨its,r,ht,hz⟩:=I.list hx
 have lq:=r.length
 refine ⟨"list",_,slot_list_getitem.lookup,ht.isList.typeIs,?_⟩
 refine wpAny_getItem_list_slice ht.isList hs pl pu .none (by simp) ?_ (by rw [Zl]<;>omega)
 rw [FK,<- lq]
 refine ⟨.ref s.heap.objs.size,_,I.laid (t':=s.toks) (o:=.lst (GP xs lo hi)) (λb ob q=>Zk _ q) (Ze _) ?_,rfl,q _ (I.hok.fresh (Ze _))⟩
 exact ⟨Zo (Dx xs lo hi) hz,_,0,(r.drop (HT.sIx xs.length 0 lo)).take (HT.sIx xs.length xs.length hi - HT.sIx xs.length 0 lo),ZK _ rfl⟩
theorem call_len_seq:CallR X (.builtin "len") (λxs H Q=>∃ p ys,xs=[.ref p]/\(SqL X.K H p ys∨Di X.K H p ys)/\Q (.int ys.length) H):=by
 intro lh s σ H xs us Q I r h
 obtain ⟨p,ys,rfl,hq,q⟩:=h
 obtain ⟨u,rfl,rx⟩:=Bq r
 cases rx
 have hn:=Ex
 rcases hq with hq | hq
 ·obtain ⟨its,r',pl,hz⟩:=I.list hq
  have lq:=r'.length
  exact Calls.call_len_list pl.isList (by simp only [Zl]<;>omega) ⟨.int ys.length,H,I.tok _,⟨s.toks+1,by rw [Zl,lq]⟩,q⟩
 ·obtain ⟨its,r',pl,hz⟩:=I.tuple hq
  have lq:=r'.length
  exact len_tuple pl (by simp only [Zl]<;>omega) ⟨.int ys.length,H,I.tok _,⟨s.toks+1,by rw [Zl,lq]⟩,q⟩
theorem GS:CallR X (.builtin "len") (λxs H Q=>∃ z,xs=[.str z]/\z.length<=Zx/\Q (.int z.length) H):=by
 intro lh s σ H xs us Q I r h
 obtain ⟨z,rfl,hz,q⟩:=h
 obtain ⟨u,rfl,t,rfl⟩:=Bq r
 have hn:=Ex
 exact len_str (by omega) ⟨.int z.length,H,I.tok _,⟨_,rfl⟩,q⟩
theorem CallR.or{f:YZ}{r r':List V->Hp->VK->Prop}(h:CallR X f r)(h':CallR X f r'):CallR X f (λxs H Q=>r xs H Q∨r' xs H Q):=by
 intro lh s σ H xs us Q I rs q
 rcases q with q | q
 ·exact h lh s σ H xs us Q I rs q
 ·exact h' lh s σ H xs us Q I rs q
theorem HU:CallR X (.type "list") (λxs H Q=>∃ p ys,xs=[.ref p]/\(SqL X.K H p ys∨Di X.K H p ys)/\∀ l,H l=YY->Q (.ref l) (upd H l (.lst ys))):=by
 intro lh s σ H xs us Q I r h
 obtain ⟨p,ys,rfl,hq,q⟩:=h
 obtain ⟨u,rfl,rx⟩:=Bq r
 cases rx
 have fin:∀ (its:List YZ),Vals ys its->ys.length<=Zx->∀ (h':ZM) (c':Nat),(∀ b o',s.heap.get? b=YW o'->h'.get? b=YW o')->
   h'.get? s.heap.objs.size=YW {cls:=.type "list",dict:=YY,data:=.seq its.toArray c',slots:=#[]}->EP X lh σ Q (.ref s.heap.objs.size) {s with heap:=h'}:=λits r' hz h' c' kp e=>
  ⟨.ref s.heap.objs.size,_,I.laid (t':=s.toks) kp (Ze _) (show ObjOk X.prog X.w _ h' _ (.lst ys) from ⟨hz,its,c',r',e⟩),rfl,q _ (I.hok.fresh (Ze _))⟩
 rcases hq with hq | hq
 ·obtain ⟨its,r',pl,hz⟩:=I.list hq
  have lq:=r'.length
  obtain ⟨o,ho,hc,n,hd⟩:=pl.isList
  exact call_list_seq p (.inl rfl) ho hc hd (λh' c' kp e=>fin its r' hz h' c' kp e) (by simp only [Zl]<;>omega)
 ·obtain ⟨its,r',pl,hz⟩:=I.tuple hq
  have lq:=r'.length
  obtain ⟨o,ho,hc,n,hd⟩:=pl
  exact call_list_seq p (.inr rfl) ho hc hd (λh' c' kp e=>fin its r' hz h' c' kp e) (by simp only [Zl]<;>omega)
theorem Bo:CallR X (.type "tuple") (λxs H Q=>∃ p ys,xs=[.ref p]/\((SqL X.K H p ys/\∀ l,H l=YY->Q (.ref l) (upd H l (.tup ys)))∨(Di X.K H p ys/\Q (.ref p) H))):=by
 intro lh s σ H xs us Q I r h
 obtain ⟨p,ys,rfl,h⟩:=h
 obtain ⟨u,rfl,rx⟩:=Bq r
 cases rx
 rcases h with ⟨hq,q⟩ | ⟨hq,q⟩
 ·obtain ⟨its,r',pl,hz⟩:=I.list hq
  have lq:=r'.length
  refine call_tuple_list pl.isList (λh' kp=>?_) (by simp only [Zl]<;>omega)
  have I1:Inv X lh σ H {s with heap:=h'}:=I.kept (t':=s.toks) kp
  have I2:Inv X lh σ (upd H h'.objs.size (.tup ys)) {s with heap:=h'.push {cls:=.type "tuple",data:=.seq its.toArray}}:=
   I1.laid (t':=s.toks) (λb o e=>Zk _ e) (Ze _) (show ObjOk X.prog X.w _ _ _ (.tup ys) from ⟨hz,its,r',IsTup.new _ _⟩)
  exact ⟨.ref h'.objs.size,_,I2,rfl,q _ (I1.hok.fresh (Ze _))⟩
 ·obtain ⟨its,r',pl,hz⟩:=I.tuple hq
  exact call_tuple_same pl ⟨.ref p,H,I,rfl,q⟩
noncomputable def Yn(K:Zb)(T:String)(x:V)(H:Hp):Prop:=match x with
 | .str _=>T= "str"
 | .int _=>T= "int"
 | .ref p=>(T= "list"/\∃ xs,SqL K H p xs)∨(T= "tuple"/\∃ o,K.lookup p=YW o/\o.cls= .type "tuple"/\o.dict=YY)∨
  (T= "dict"/\((∃ kvs,H p=YW (.dK kvs))∨∃ kvs,H p=YW (.dT kvs)))∨(T= "set"/\∃ S n,H p=YW (.set S n))
 | _=>False
theorem Pr{lh:List (Zh×bX)}{σ:St}{H:Hp}{s:Zd}{T:String}{x:V}{v:YZ}(I:Inv X lh σ H s)(r:RelV x v)(ty:Yn X.K T x H):
  s.TypeIs v T/\∀ a,v= .ref a->∃ ob,s.heap.get? a=YW ob/\ob.dict=YY:=by
 cases x with
 | str z=>
  obtain ⟨t,rfl⟩:=r
  cases (show T= "str" from ty)
  exact ⟨typeIs_str s z t,λ_ e=>nomatch e⟩
 | int i=>
  obtain ⟨t,rfl⟩:=r
  cases (show T= "int" from ty)
  exact ⟨typeIs_int s i t,λ_ e=>nomatch e⟩
 | ref p=>
  cases r
  rcases ty with ⟨rfl,xs,hq⟩ | ⟨rfl,o,hk,hc,hd⟩ | ⟨rfl,hk⟩ | ⟨rfl,S,n,hk⟩
  ·obtain ⟨its,_,pl,_⟩:=I.list hq
   refine ⟨pl.isList.typeIs,λa e=>?_⟩
   cases e
   obtain ⟨o,n,e,c,hd,_⟩:=pl
   exact ⟨o,e,hd⟩
  ·refine ⟨⟨o,I.kIn p o hk,hc⟩,λa e=>?_⟩
   cases e
   exact ⟨o,I.kIn _ o hk,hd⟩
  ·have z:∃ o,s.heap.get? p=YW o/\o.ExactDict:=by
     rcases hk with ⟨kvs,hk⟩ | ⟨kvs,hk⟩
     ·obtain ⟨_,_,_,_,o,_,_,e,ex,_⟩:=I.hok p _ hk
      exact ⟨o,e,ex⟩
     ·obtain ⟨_,_,_,_,o,_,_,e,ex,_⟩:=I.hok p _ hk
      exact ⟨o,e,ex⟩
   obtain ⟨o,e,ex⟩:=z
   refine ⟨⟨o,e,ex.1⟩,λa e2=>?_⟩
   cases e2
   exact ⟨o,e,ex.2.1⟩
  ·obtain ⟨o,_,_,_,e,ex,_⟩:=I.hok p _ hk
   refine ⟨⟨o,e,ex.1⟩,λa e2=>?_⟩
   cases e2
   exact ⟨o,e,ex.2.1⟩
 | _=>exact bL ty
noncomputable def XJ(K:Zb)(T:String)(r:V->List V->Hp->VK->Prop)(to:TE):TE:=λσ H Q=>to σ H λx H1=>Yn K T x H1/\r x [] H1 Q
noncomputable def YB(K:Zb)(T:String)(r:V->List V->Hp->VK->Prop)(to:TE)(t:TA):TE:=λσ H Q=>to σ H λx H1=>Yn K T x H1/\t σ H1 λxs H2=>r x xs H2 Q
variable{o e:ZY}{es:List ZY}{to:TE}{t:TA}{name:Z3}{apos cpos:eE}{T id:String}{r:V->List V->Hp->VK->Prop}
theorem UX(pa:PlainAttrs T)(slot:Slot T name id)(hty:typeOf (.builtin id)=pure (.type "method_descriptor"))(hm:Yx X id r)(ho:PE X o to)
  (hbase:cI o name X.env (bB o X.env)=bB o X.env:=by rfl) (hline:(apos.endLine == cpos.line)=true:=by rfl):PE X (.Call (.Attribute o name apos) [] [] cpos) (XJ X.K T r to):=by
 intro lh s σ H Q I h
 refine wpAny_Call_method0_late hbase hline (bj (ho lh s σ H _ I h) λv s1 ⟨x,H1,I1,r1,ty,q1⟩=>?_)
 obtain ⟨h1,h2⟩:=Pr I1 r1 ty
 exact ⟨T,id,pa,slot,hty,h1,h2,Calls.callWith_builtin rfl (PySem.evalArgs_none (hm lh s1 σ H1 x [] v [] Q I1 r1 .nil q1))⟩
theorem GA(pa:PlainAttrs T)(slot:Slot T name id)(hty:typeOf (.builtin id)=pure (.type "method_descriptor"))(hm:Yx X id r)(ho:PE X o to)(ha:PA X (e::es) t)
  (hbase:cI o name X.env (bB o X.env)=bB o X.env:=by rfl)
  (hfew:((aF cpos (Zf (e::es) X.env)).all (λx=>!x.1) && (iX cpos (gB [] X.env)).all (λx=>x.1.isSome)
    && decide ((e::es).length+([]:List fL).length+(if ([]:List fL).isEmpty then 0 else 1) < 30))=true:=by rfl)
  (hline:(apos.endLine == cpos.line)=true:=by rfl) (hs:Zf (e::es) X.env=(false,bB e X.env)::Zf es X.env:=by rfl) (hplain:(aF cpos (Zf es X.env)).any (·.1)=false:=by rfl):
  PE X (.Call (.Attribute o name apos) (e::es) [] cpos) (YB X.K T r to t):=by
 intro lh s σ H Q I h
 refine wpAny_Call_method_late hbase hfew hline rfl (bj (ho lh s σ H _ I h) λv s1 ⟨x,H1,I1,r1,ty,q1⟩=>?_)
 obtain ⟨h1,h2⟩:=Pr I1 r1 ty
 refine ⟨T,id,pa,slot,hty,h1,h2,?_⟩
 have hA:=ha cpos lh s1 σ H1 _ I1 q1
 rw [hs] at hA ⊢
 refine Calls.callWith_builtin (by show (false || (aF cpos (Zf es X.env)).any (·.1))=false;rw [hplain]<;>rfl) (Calls.evalArgs_plain ?_)
 exact bj hA λus s2 ⟨vs,H2,I2,r2,q2⟩=>hm lh s2 σ H2 x vs v us Q I2 r1 r2 q2
end
end L2
namespace L2
open PySem PySem.Spec PyProof.Rows
noncomputable def X3(X:Cx)(id:String)(r:V->List V->Hp->VK->Prop):Prop:=
 ∀ (lh:List (Zh×bX)) (s:Zd) (σ:St) (H:Hp) (x:V) (xs:List V) (v:YZ) (us:List YZ) (Q:VK),Inv X lh σ H s->RelV x v->Vals xs us->r x xs H Q->
  Z0 (ZD X.prog X.w) X.A (call (.builtin id) (v::us)) (EP X lh σ Q) X.xe s
theorem Vals.one:∀ {x:V} {us:List YZ},Vals [x] us->∃ u,us=[u]/\RelV x u
 | _,_,.cons r .nil=>⟨_,rfl,r⟩
theorem Vals.zero:∀ {us:List YZ},Vals [] us->us=[]
 | _,.nil=>rfl
theorem Vals.dropLast{xs:List V}{us:List YZ}(h:Vals xs us):Vals xs.dropLast us.dropLast:=by
 induction h with
 | nil=>exact .nil
 | cons r t ih=>
  cases t with
  | nil=>exact .nil
  | cons q t'=>exact .cons r ih
theorem Vals.eraseIdx:∀ {xs:List V} {us:List YZ} (i:Nat),Vals xs us->Vals (xs.eraseIdx i) (us.eraseIdx i)
 | _,_,_,.nil=>.nil
 | _,_,0,.cons _ t=>t
 | _,_,i+1,.cons r t=>.cons r (Vals.eraseIdx i t)
theorem Vals.rep{xs:List V}{us:List YZ}(h:Vals xs us):∀ k:Nat,Vals (Z1 k xs).flatten (Z1 k us).flatten
 | 0=>.nil
 | k+1=>by
  rw [aR,aR,cC,cC]
  exact Vals.append h (Vals.rep h k)
theorem Lj{α:Type}(l:List α):l.eraseIdx (l.length - 1)=l.dropLast:=by
 induction l with
 | nil=>rfl
 | cons a r ih=>
  cases r with
  | nil=>rfl
  | cons b r=>
   have e:(a::b::r).length - 1=((b::r).length - 1)+1:=by
    have h1:(a::b::r).length=r.length+2:=rfl
    have h2:(b::r).length=r.length+1:=rfl
    omega
   rw [e,List.eraseIdx_cons_succ,ih]
   all_goals rfl
theorem GB{α:Type}:∀ (l:List α) (i:Nat),(l.eraseIdx i).length<=l.length
 | [],_=>Ze _
 | _::_,0=>Nat.le_succ _
 | _::r,i+1=>fM (GB r i)
theorem Df(its:List YZ):∀ (k:Nat) (acc:List YZ),
  iP (λx1 x2=>x1++x2) acc.toArray (Z1 k its.toArray)=(acc++(Z1 k its).flatten).toArray
 | 0,acc=>by simp
 | k+1,acc=>by
  have e:acc.toArray++its.toArray=(acc++its).toArray:=by simp
  have e2:(acc++its)++(Z1 k its).flatten=acc++(Z1 (k+1) its).flatten:=by
   rw [aR,cC,Z6]
  rw [<- e2,<- Df its k (acc++its),<- e,aR,List.foldl_cons]
section
variable{X:Cx}{lh:List (Zh×bX)}{σ:St}{H:Hp}{s:Zd}{l b:Zh}{xs ys zs:List V}
theorem Inv.lset{its its':List YZ}{n:Nat}{f:Array YZ->Array YZ}{t':Nat}(I:Inv X lh σ H s)(hH:H l=YW (.lst xs))
  (e:s.heap.get? l=YW {cls:=.type "list",data:=.seq its.toArray n}) (hf:f its.toArray=its'.toArray) (hv:Vals ys its') (hz:ys.length<=Zx):
  Inv X lh σ (upd H l (.lst ys)) {s with heap:=s.heap.update l (iQ f),toks:=t'}:=by
 have q:=PySem.IsL.update e f
 rw [hf] at q
 refine I.write (x:=l) (e:=l) (by rw [hH];exact trivial) (.inl rfl) (λb' u hb hu=>(bA s.heap (iQ f) (eT hb)).trans hu) ⟨_,q⟩ ?_
 exact ⟨hz,its',_,hv,q⟩
theorem Inv.lnew{its:List YZ}{t':Nat}(I:Inv X lh σ H s)(hv:Vals ys its)(hz:ys.length<=Zx):
  Inv X lh σ (upd H s.heap.objs.size (.lst ys)) {s with heap:=s.heap.push {cls:=.type "list",data:=.seq its.toArray},toks:=t'}:=
 I.laid (λ_ _ q=>Zk _ q) (Ze _) ⟨hz,its,0,hv,ZK _ rfl⟩
theorem Inv.fresh(I:Inv X lh σ H s):H s.heap.objs.size=YY:=I.hok.fresh (Ze _)
theorem Inv.lstM(I:Inv X lh σ H s)(hH:H l=YW (.lst xs)):xs.length<=Zx/\∃ (its:List YZ) (n:Nat),Vals xs its/\xs.length=its.length/\s.heap.get? l=YW {cls:=.type "list",data:=.seq its.toArray n}:=by
 obtain ⟨z,its,n,r,e⟩:=I.hok l _ hH
 exact ⟨z,its,n,r,r.length,e⟩
theorem E9{n:Nat}(h:n<=Zx):bD n=false:=by
 unfold bD
 exact decide_eq_false (by omega)
end
section
variable{X:Cx}
noncomputable def Sf:V->List V->Hp->VK->Prop:=λx vs H Q=>∃ l xs y,x= .ref l/\vs=[y]/\H l=YW (.lst xs)/\xs.length < Zx/\Q .non (upd H l (.lst (xs++[y])))
theorem Be:X3 X "list.append" Sf:=by
 intro lh s σ H x vs v us Q I rx rv h
 obtain ⟨l,xs,y,rfl,rfl,hH,hz,q⟩:=h
 cases rx
 obtain ⟨u,rfl,ru⟩:=rv.one
 obtain ⟨z,its,n,r,hl,e⟩:=I.lstM hH
 refine cQ F.slot_list_append ⟨_,e,rfl⟩ F.entry_list_append (F.args_list_append_2 _ _) (PySem.list_append l its.toArray n u (by rw [Zl];omega)) ⟨e,?_⟩
 refine ⟨.non,_,I.lset (its':=its++[u]) hH e (by simp) (r.append (.cons ru .nil)) ?_,rfl,q⟩
 rw [Za,Zy]
 omega
noncomputable def XE:V->List V->Hp->VK->Prop:=λx vs H Q=>∃ l xs y,x= .ref l/\vs=[]/\H l=YW (.lst xs)/\xs[xs.length - 1]? =YW y/\Q y (upd H l (.lst xs.dropLast))
theorem UD:X3 X "list.pop" XE:=by
 intro lh s σ H x vs v us Q I rx rv h
 obtain ⟨l,xs,y,rfl,rfl,hH,hy,q⟩:=h
 cases rx
 have hus:=rv.zero
 subst hus
 obtain ⟨z,its,n,r,hl,e⟩:=I.lstM hH
 obtain ⟨u,hu,ru⟩:=r.get hy
 have hy':its.toArray[its.toArray.size - 1]? =YW u:=by
  show its.toArray[its.length - 1]? =YW u
  rw [<- bS,<- hl]
  exact hu
 refine cQ F.slot_list_pop ⟨_,e,rfl⟩ F.entry_list_pop (F.args_list_pop_1 _) (MeetsSeq.list_pop_last l its.toArray n u hy' (by rw [Zl];omega)) ⟨e,?_⟩
 refine ⟨y,_,I.lset (its':=its.dropLast) hH e ?_ r.dropLast ?_,ru,q⟩
 ·show its.toArray.eraseIdxIfInBounds (its.toArray.size - 1)=its.dropLast.toArray
  rw [Zl,List.eraseIdxIfInBounds_toArray,Lj]
 ·rw [List.length_dropLast]
  omega
noncomputable def Ue:V->List V->Hp->VK->Prop:=λx vs H Q=>∃ l xs i k y,x= .ref l/\vs=[.int i]/\H l=YW (.lst xs)/\-(2 ^ 63)<=i/\i < 2 ^ 63/\seqIndex? i xs.length=YW k/\xs[k]? =YW y/\Q y (upd H l (.lst (xs.eraseIdx k)))
theorem Pc:X3 X "list.pop" Ue:=by
 intro lh s σ H x vs v us Q I rx rv h
 obtain ⟨l,xs,i,k,y,rfl,rfl,hH,h1,h2,hk,hy,q⟩:=h
 cases rx
 obtain ⟨u,rfl,ru⟩:=rv.one
 obtain ⟨t,rfl⟩:=ru
 obtain ⟨z,its,n,r,hl,e⟩:=I.lstM hH
 obtain ⟨w,hw,rw'⟩:=r.get hy
 refine cQ F.slot_list_pop ⟨_,e,rfl⟩ F.entry_list_pop (F.args_list_pop_2 _ _)
  (MeetsSeq.list_pop_at l its.toArray n i t k w (fitsIndex_both h1 h2) (by rw [Zl,<- hl];exact hk) (by rw [<- bS];exact hw) (by rw [Zl];omega)) ⟨e,?_⟩
 refine ⟨y,_,I.lset (its':=its.eraseIdx k) hH e ?_ (r.eraseIdx k) ?_,rw',q⟩
 ·show its.toArray.eraseIdxIfInBounds k=(its.eraseIdx k).toArray
  rw [List.eraseIdxIfInBounds_toArray]
 ·have:=GB xs k
  omega
theorem HD{α:Type}(xs:List α)(k:Nat):(Z1 k xs).flatten.length=k * xs.length:=by
 induction k with
 | zero=>simp
 | succ k ih=>rw [aR,cC,Za,ih,Nat.succ_mul,Nat.add_comm]
end
end L2
namespace Att
open PySem PySem.W PySem.Calls PyProof.Rows
theorem DE{P:Params}{h:ZM}:∀ (ns:List Int) (vs:List YZ),WellAll P h vs (ns.map WData.int)->dM vs ns:=by
 intro ns
 induction ns with
 | nil=>
  intro vs w
  rw [iJ] at w
  cases w
  exact .nil
 | cons n ns ih=>
  intro vs w
  rw [ZC] at w
  cases w with
  | cons a b=>
   cases a
   exact .cons _ _ (ih _ b)
theorem Nb{l:OpenLaw}{n:Nat}(hn:l.most=YW n){P:Params}{h:ZM}{args:List WData}{vals:List YZ}
  (hpre:l.row.toRowW.claim.pre args=true) (hwl:WellAll P h vals args):
  ∃ a vs ns,vals=[aA a]/\args=[WData.list (ns.map WData.int)]/\h.get? a=YW {cls:=.type "list",data:=.seq vs.toArray}/\dM vs ns/\ns.length<=n:=by
 have hsh:WShape.hasAll [] args [.list .int]=true:=(pre_splitW hpre).1
 have hc:l.pre.holds [] {args:=args} =true:=(pre_splitW hpre).2
 obtain ⟨d,r,rfl,h1,h2⟩:=hasAllW_cons hsh
 obtain rfl:=hasAllW_nil h2
 obtain ⟨xs,rfl,h3⟩:=hasW_list h1
 obtain ⟨ns,rfl⟩:=items_int h3
 have lq:ns.length<=n:=by
  unfold OpenLaw.pre at hc
  have h4:(WTm.not (.lt (.lit (.int (n:Int))) (.len (.arg 0)))).holds [] {args:=[.list (ns.map .int)]} =true:=by
   have h4:=(holds_andW hc).1
   rw [hn] at h4
   exact h4
  have h5:=condW_of h4 (w_not (w_lt w_lit (w_len_list (w_arg rfl))))
  rw [Z9] at h5
  refine gR λq=>?_
  have q':(n:Int) < ((ns.length:Nat):Int):=by omega
  first
   | (rw [decide_eq_true q'] at h5;exact absurd h5 (by decide))
   | (simp at h5;omega)
 cases hwl with
 | cons w1 w2=>
  cases w2
  cases w1 with
  | list ho hall=>exact ⟨_,_,ns,rfl,rfl,ho,DE ns _ hall,lq⟩
theorem N9(l:OpenLaw)(args:List WData):l.row.toRowW.claim.post args (.bool true) args=true:=
 postW_of (r:=l.row.toRowW) (X:=(true == true))
  (show WShape.has [] (.bool true) .bool=true by first | rfl | decide | simp [WShape.has,WShape.arms,WShape.armsAll])
  (show (WTm.eq .res (.lit (.bool true))).value [] {args:=args,res:=YW (.bool true),after:=args} =YW (.bool (true == true)) from w_eq_bool (w_res rfl) w_lit) rfl
theorem attach_call{l:OpenLaw}{n:Nat}{q:Z8}{loose:List Z3}{XP:(Z3->Option YZ)->ZM->Prop}{YP:ZN->ZM->Prop}{d:DefRec}
  (hn:l.most=YW n) (hdf:d.params.defaults=[])
  (call:∀ (w:ZN) (s₀ s₁:Zd) (mg mb:Z3->Option YZ) (fa:Zh) (o:bX) (pm cd doc:YZ) (a:Zh) (vs:List YZ) (ns:List Int),
    Ground q loose [] XP w s₀ mg mb s₁.heap->YP w s₁.heap->
    s₁.heap.get? fa=YW o->o.data= .func (docDef d.name d.params d.body d.scope pm cd doc)->s₁.heap.CodeRec cd d.name->mg d.name=YW (.ref fa)->
    s₁.heap.get? a=YW {cls:=.type "list",data:=.seq vs.toArray}->dM vs ns->ns.length<=n->s₁.gens= #[]->
    codeAny (ZD l.prog w) callerA (.call (.ref fa) ⟨[.ref a],[]⟩) (λr s'=>r= .ok (.ret (.bool true))/\OldK s₁.heap s'.heap/\s'.os=s₁.os/\iG s'.gens) s₁):
  WalkO q loose XP YP l.row.toRowW d [] (λf vs=>PySem.call f vs):=by
 intro w s₀ s₁ mg mb G Y fa o pm cd doc dV kV ho hd hcd hD hmg hg args vals as hpre hlay hrd hwl hlo
 obtain rfl:dV= .none:=Dflts.none hD hdf
 obtain rfl:kV= .none:=Dflts.noKw hD
 obtain ⟨a,vs,ns,rfl,rfl,hobj,hints,lq⟩:=Nb hn hpre hwl
 refine enter_call (iK (call w s₀ s₁ mg mb fa o pm cd doc a vs ns G Y ho (fd_plain hd) hcd hmg hobj hints lq hg) λr s' hq=>?_)
 obtain ⟨rfl,h2,h3,h4⟩:=hq
 exact ⟨.inl ⟨.bool true,.bool true,[],rfl,λ_=>rfl,.bool true,N9 l _,λ_=>⟨List.Pairwise.nil,λ_ hm=>(nomatch hm)⟩⟩,h2,h3,h4⟩
end Att
namespace L2
open PySem PySem.Spec PyProof.Rows
theorem FW:∀ {vs:List YZ} {ns:List Int},dM vs ns->Vals (ns.map V.int) vs
 | _,_,.nil=>.nil
 | _,_,.cons n t h=>.cons ⟨t,rfl⟩ (FW h)
noncomputable def U7(H:Hp):Prop:=∀ b,H b=YY∨∃ o u,H b=YW (.frz o u)
noncomputable def UB(K:Zb)(b:Zh):Option HO:=match K.lookup b with
 | some o=>(Vq o).map λvs=>.frz o (.tup vs)
 | none=>YY
theorem E2{K:Zb}{b:Zh}{u:HO}(e:UB K b=YW u):∃ o vs,K.lookup b=YW o/\Vq o=YW vs/\u= .frz o (.tup vs):=by
 unfold UB at e
 split at e
 ·rename_i o ho
  cases q:Vq o with
  | none=>rw [q] at e;cases e
  | some vs=>rw [q] at e;cases e;exact ⟨o,vs,ho,q,rfl⟩
 ·cases e
noncomputable def QD(K:Zb)(H:Hp):Hp:=λb=>match H b with
 | some u=>YW u
 | none=>UB K b
theorem BZ{K:Zb}{H:Hp}{b:Zh}{u:HO}(e:H b=YW u):QD K H b=YW u:=by unfold QD;rw [e]
theorem BO{K:Zb}{H:Hp}{b:Zh}(e:H b=YY):QD K H b=UB K b:=by unfold QD;rw [e]
theorem Om{P:Z8}{w:ZN}{K:Zb}{mg mb:Z3->Option YZ}{CX:GY}{k:Nat}{fa a:Zh}{fd:fR}{x:Z3}{sp:Sp}{s₁:Zd}{vs:List YZ}{ns:List Int}
  (KX:K.In s₁.heap) (hns:s₁.heap.Ns ZF mg) (hb:s₁.heap.Ns builtinsNs mb) (hbb:∀ x:Z3,x≠"__name__"->mb x=bE x) (hlim:s₁.heap.NoLimit) (hg:s₁.gens= #[])
  (ha:s₁.heap.get? a=YW {cls:=.type "list",data:=.seq vs.toArray}) (hi:dM vs ns) (hl:ns.length<=Zx) (hr:Room k callerA)
  (F:∀ base:ZM,K.In base->base.Ns ZF mg->FnOk P w K mg base CX k fa fd [x] sp) (hbind:∀ (s:Zd) (u:YZ),BindsTo s fd ⟨[u],[]⟩ [(x,u)])
  (hsp:∀ H:Hp,U7 H->SqL K H a (ns.map V.int)->sp [.ref a] H (λv _=>v= .bl true) λ_ _ _=>False)
  (hCX:∀ H e s',CX [] H s₁ (λ_ _ _=>False) e s'->False):
  codeAny (ZD P w) callerA (.call (.ref fa) ⟨[.ref a],[]⟩) (λr s'=>r= .ok (.ret (.bool true))/\OldK s₁.heap s'.heap/\s'.os=s₁.os/\iG s'.gens) s₁:=by
 have rv:=FW hi
 have lenV:=hi.length
 have core:∀ H:Hp,(∀ b,H b=YY∨∃ o xs,H b=YW (.frz o (.lst xs)))->SqL K H a (ns.map V.int)->HOk P w H s₁.heap->(∀ b,H b≠YY->b=a)->(H a≠YY->K.lookup a=YY)->
   codeAny (ZD P w) callerA (.call (.ref fa) ⟨[.ref a],[]⟩) (λr s'=>r= .ok (.ret (.bool true))/\OldK s₁.heap s'.heap/\s'.os=s₁.os/\iG s'.gens) s₁:=by
  intro H hO hS hok hA hK
  have base_of:∀ {b:Zh} {o:bX},s₁.heap.get? b=YW o->H b=YY->(FU s₁.heap H).get? b=YW o:=λe n=>OW e n
  have noA:∀ {b:Zh} {o:bX} {es:Array DictEntry} {ep:Nat},s₁.heap.get? b=YW o->o.data= .dict es ep->H b=YY:=λ{b o es ep} e d=>by
   cases q:H b with
   | none=>rfl
   | some u=>
    have e':b=a:=hA b (by rw [q];simp)
    subst e'
    rw [ha] at e;cases e
    have d':Data.seq vs.toArray _=Data.dict es ep:=d
    cases d'
  have nsK:∀ {b:Zh} {m:Z3->Option YZ},s₁.heap.Ns b m->(FU s₁.heap H).Ns b m:=λ{b m} ⟨o,es,ep,e,d,r⟩=>⟨o,es,ep,base_of e (noA e d),d,r⟩
  have hKb:K.In (FU s₁.heap H):=λb o e=>base_of (KX b o e) (by
   cases q:H b with
   | none=>rfl
   | some u=>
    have e':b=a:=hA b (by rw [q];simp)
    subst e'
    rw [hK (by rw [q];simp)] at e;cases e)
  have hM:Mod K mg (FU s₁.heap H):=⟨hKb,nsK hns,⟨mb,nsK hb,hbb⟩,let ⟨mc,h1,h2⟩:=hlim;⟨mc,nsK h1,h2⟩⟩
  have hO2:U7 (QD K H):=λb=>by
   rcases hO b with z | ⟨o,xs,z⟩
   ·rw [BO z]
    cases q:UB K b with
    | none=>exact .inl rfl
    | some u=>obtain ⟨o,vs,_,_,rfl⟩:=E2 q;exact .inr ⟨o,_,rfl⟩
   ·exact .inr ⟨o,_,BZ z⟩
  have hok2:HOk P w (QD K H) s₁.heap:=λb u e=>by
   rcases hO b with z | ⟨o,xs,z⟩
   ·rw [BO z] at e
    obtain ⟨o,vs,k1,k2,rfl⟩:=E2 e
    exact ⟨KX b o k1,UT (KX b o k1) k2⟩
   ·have e1:=hok b _ z
    rw [BZ z] at e
    cases e
    exact e1
  have hS2:SqL K (QD K H) a (ns.map V.int):=by
   rcases hS with (z | ⟨o,z⟩) | z
   ·exact .inl (.inl (BZ z))
   ·exact .inl (.inr ⟨o,BZ z⟩)
   ·exact .inr z
  have hsb:∀ b o,(FU s₁.heap H).get? b=YW o->s₁.heap.get? b=YW o/\Sb K (QD K H) b o:=λb o e=>by
   obtain ⟨e1,e2⟩:=R0 e
   refine ⟨e1,?_,λvs k q=>?_⟩
   ·rw [BO e2]
    cases q:UB K b with
    | none=>exact .inl rfl
    | some u=>
     obtain ⟨o',vs,k1,_,rfl⟩:=E2 q
     have:=KX b o' k1
     rw [e1] at this
     cases this
     exact .inr ⟨_,rfl⟩
   ·rw [BO e2]
    unfold UB
    rw [k]
    dsimp only
    rw [q]
    rfl
  have e0:Env0 P w K mg (FU s₁.heap H) callerA [] s₁ (QD K H):=⟨rfl,hM,hsb,iL (Ni _ _),trivial,λb hb=>absurd (show b∈([]:List Zh) from hb) (by simp),hok2,.of_eq hg⟩
  refine iK ((F _ hKb (nsK hns)).run callerA [] s₁ (QD K H) ⟨[.ref a],[]⟩ [.ref a] [.ref a] _ _ hr e0 (hbind s₁ (.ref a)) (.cons rfl .nil) (hsp _ hO2 hS2)) λr s' h=>?_
  cases r with
  | error e=>exact (hCX _ e s' h).elim
  | ok fl=>
   cases fl with
   | next=>exact bL h
   | brk=>exact bL h
   | cont=>exact bL h
   | ret u=>
    obtain ⟨v,H',os,bare,un,hok',r',q⟩:=h
    have q':v= .bl true:=q
    subst q'
    obtain rfl:u=YZ.bool true:=r'
    refine ⟨rfl,OldK.of_keep λb o e=>?_,os,bare⟩
    rcases hO2 b with q | ⟨ob,u,z⟩
    ·exact un.keep b o e q (by intro z;exact absurd (show b∈([]:List Zh) from z) (by simp)) (by simp)
    ·have z2:=un.frzs b ob _ z
     obtain ⟨e1,_⟩:=hok2 b _ z
     obtain ⟨e2,_⟩:=hok' b _ z2
     rw [e] at e1;cases e1
     exact e2
 cases hk:K.lookup a with
 | some o=>
  have e:=KX a o hk
  rw [ha] at e
  cases e
  refine core (λ_=>YY) (λ_=>.inl rfl) (.inr ⟨_,vs.toArray,_,hk,rfl,rfl,rfl,by rw [Zl,lenV];exact hl,by simpa using rv⟩) (λb u z=>by have z':(YY:Option HO)=YW u:=z;cases z') (λb z=>absurd rfl z) λz=>absurd rfl z
 | none=>
  refine core (λb=>if b=a then YW (.frz {cls:=.type "list",data:=.seq vs.toArray} (.lst (ns.map V.int))) else YY) (λb=>?_) (.inl (.inr ⟨{cls:=.type "list",data:=.seq vs.toArray},jn rfl⟩)) (λb u z=>?_) (λb z=>?_) λ_=>hk
  ·by_cases hb:b=a
   ·exact .inr ⟨_,_,jn hb⟩
   ·exact .inl (qz hb)
  ·by_cases hb:b=a
   ·have z':=(jn hb).symm.trans z
    cases z'
    subst hb
    exact ⟨ha,by rw [Z9];exact hl,vs,_,rv,ha⟩
   ·have z':=(qz hb).symm.trans z
    cases z'
  ·by_cases hb:b=a
   ·exact hb
   ·exact absurd (qz hb) z
end L2
namespace L2
open PySem PySem.Spec PyProof.Rows
theorem Rf{l:PySem.W.OpenLaw}{n k:Nat}{q:Z8}{loose:List Z3}{XP:(Z3->Option YZ)->ZM->Prop}{YP:ZN->ZM->Prop}{d:DefRec}{K:Params->Zb}{CX:ZN->GY}{sp:ZN->Sp}{x:Z3}
  (hn:l.most=YW n) (hn2:n<=Zx) (hdf:d.params.defaults=[]) (hr:Room k callerA)
  (hY:∀ (w:ZN) (h:ZM),YP w h->(K w.params).In h)
  (F:∀ (w:ZN) (mg:Z3->Option YZ) (fa:Zh) (h:ZM),(K w.params).In h->h.Ns ZF mg->mg d.name=YW (.ref fa)->
    ∃ fd:fR,(∀ (s:Zd) (u:YZ),BindsTo s fd ⟨[u],[]⟩ [(x,u)])/\
     ∀ base:ZM,(K w.params).In base->base.Ns ZF mg->FnOk l.prog w (K w.params) mg base (CX w) k fa fd [x] (sp w))
  (hsp:∀ (w:ZN) (H:Hp) (a:Zh) (ns:List Int),ns.length<=n->U7 H->SqL (K w.params) H a (ns.map V.int)->sp w [.ref a] H (λv _=>v= .bl true) λ_ _ _=>False)
  (hCX:∀ (w:ZN) (H:Hp) (s:Zd) (e:YZ) (s':Zd),CX w [] H s (λ_ _ _=>False) e s'->False):
  PySem.W.WalkO q loose XP YP l.row.toRowW d [] (λf vs=>PySem.call f vs):=by
 refine Att.attach_call hn hdf λw s₀ s₁ mg mb fa o pm cd doc a vs ns G Y ho hd hcd hmg hobj hints lq hg=>?_
 have KX:=hY w _ Y
 obtain ⟨fd,hb,hF⟩:=F w mg fa _ KX G.T.g hmg
 exact Om KX G.T.g G.T.b G.T.builtins G.T.nolimit hg hobj hints (Zo lq hn2) hr hF hb (λH hO hS=>hsp w H a ns lq hO hS) λH e s'=>hCX w H s₁ e s'
end L2
namespace L2
open PySem PySem.Spec PyProof.Rows
noncomputable def u0(s:aG):Arguments:=match s with
 | .FunctionDef _ a _ _ _ _ _ _ _ _=>a
 | _=>{posonlyargs:=[],args:=[],vararg:=YY,kwonlyargs:=[],kw_defaults:=[],kwarg:=YY,defaults:=[]}
noncomputable def g8(s:aG):List aG:=match s with
 | .FunctionDef _ _ b _ _ _ _ _ _ _=>b
 | _=>[]
noncomputable def zx(s:aG):jC:=match s with
 | .FunctionDef _ _ _ _ _ _ sc _ _ _=>sc
 | _=>{kind:=.function,names:=[],isGenerator:=false,isCoroutine:=false}
structure Fun(K:Zb)(x qual:Z3)(st:aG)(f:Zh)(fd:fR):Prop where
 ex:∃ (oc:YZ) (od:Option Zh) (kV doc pm:YZ) (an:Option Zh) (cdv ct:YZ) (osl:Array (Option YZ)),
  fd=aU x qual (u0 st) (g8 st) (zx st) .none kV doc pm an cdv ct/\K.lookup f=YW ⟨oc,od,.func fd,osl⟩/\fD K cdv qual=true
 kp:eF K (.ref f)=true
section
variable{P:Z8}{w:ZN}{K:Zb}{mg:Z3->Option YZ}{base:ZM}
theorem Fun.binds{x qual:Z3}{st:aG}{f:Zh}{fd:fR}{ps:List Z3}(F:Fun K x qual st f fd)
  (h:∀ (kV doc pm:YZ) (an:Option Zh) (cdv ct:YZ) (us:List YZ),us.length=ps.length->iO (aU x qual (u0 st) (g8 st) (zx st) .none kV doc pm an cdv ct) ⟨us,[]⟩=pure (ps.zip us)):Binds K fd ps []:=by
 obtain ⟨oc,od,kV,doc,pm,an,cdv,ct,osl,rfl,lk,hcd⟩:=F.ex
 exact .all (h kV doc pm an cdv ct)
theorem UY{x qual:Z3}{st:aG}{f:Zh}{oc:YZ}{od an:Option Zh}{osl:Array (Option YZ)}{kV doc pm cdv ct:YZ}(l:K.lookup f=YW ⟨oc,od,.func (aU x qual (u0 st) (g8 st) (zx st) .none kV doc pm an cdv ct),osl⟩)
 (c:fD K cdv qual=true) (k:eF K (.ref f)=true):Fun K x qual st f (aU x qual (u0 st) (g8 st) (zx st) .none kV doc pm an cdv ct):=⟨⟨oc,od,kV,doc,pm,an,cdv,ct,osl,rfl,l,c⟩,k⟩
end
theorem Jk{A B:Prop}(h:B):if false=true then A else B:=by
 rw [qz Zv]
 exact h
theorem Jf{A B:Prop}(h:A):if true=true then A else B:=by
 rw [jn rfl]
 exact h
noncomputable def Same(H H':Hp):Prop:=∀ b o,H b=YW o->H' b=YW o
theorem Same.refl(H:Hp):Same H H:=λ_ _ h=>h
theorem Same.trans{H H1 H2:Hp}(a:Same H H1)(b:Same H1 H2):Same H H2:=λc o h=>b c o (a c o h)
theorem Same.free{H H':Hp}(e:Same H H'){l:Zh}(h:H' l=Option.none):H l=Option.none:=by
 cases q:H l with
 | none=>rfl
 | some o=>
  rw [e l o q] at h
  cases h
end L2
namespace L2
open PySem PySem.Spec PyProof.Rows
section
variable{κ:Type} [DecidableEq κ]
noncomputable def DI(kvs:List (κ×V))(k:κ):Option V:=(kvs.find? λkv=>decide (kv.1=k)).map (·.2)
noncomputable def wb(kvs:List (κ×V))(k:κ)(v:V):List (κ×V):=
 if (kvs.any λkv=>decide (kv.1=k))=true then kvs.map (λkv=>if kv.1=k then (kv.1,v) else kv) else kvs++[(k,v)]
theorem BJ{p:κ×V}{r:List (κ×V)}{k:κ}(e:p.1=k):DI (p::r) k=YW p.2:=by simp [DI,dF,e]
theorem BX{p:κ×V}{r:List (κ×V)}{k:κ}(e:¬ p.1=k):DI (p::r) k=DI r k:=by simp [DI,dF,e]
theorem Fm(k:κ):∀ kvs:List (κ×V),(kvs.any λkv=>decide (kv.1=k))=(DI kvs k).isSome
 | []=>rfl
 | p::r=>by
  rw [fU]
  by_cases e:p.1=k
  ·simp only [BJ e,decide_eq_true e,Bool.true_or,Option.isSome_some]
  ·rw [BX e,decide_eq_false e,gY];exact Fm k r
theorem Dt(kvs:List (κ×V))(k:κ)(v:V):(wb kvs k v).length<=kvs.length+1:=by
 unfold wb
 split
 ·rw [Z9];exact eG _ _
 ·rw [Za,Zj,ZJ];exact Ze _
theorem RelO.isSome_eq{o:Option V}{u:Option YZ}(r:RelO o u):o.isSome=u.isSome:=by
 cases o with
 | none=>cases u with
  | none=>rfl
  | some _=>exact (show False from r).elim
 | some _=>cases u with
  | none=>exact (show False from r).elim
  | some _=>rfl
theorem KV.val{kvs:List (κ×V)}{vs:List (κ×YZ)}(r:KV kvs vs)(k:κ):RelO (DI kvs k) (valueAt vs k):=by
 unfold KV at r
 induction r with
 | nil=>exact eK
 | @cons p q ps qs h t ih=>
  obtain ⟨h1,h2⟩:=h
  by_cases e:p.1=k
  ·have e':q.1=k:=h1.symm.trans e
   have b:valueAt (q::qs) k=YW q.2:=by simp [valueAt,dF,e']
   rw [BJ e,b];exact h2
  ·have e':¬ q.1=k:=λz=>e (h1.trans z)
   have b:valueAt (q::qs) k=valueAt qs k:=by simp [valueAt,dF,e']
   rw [BX e,b];exact ih
theorem KV.any{kvs:List (κ×V)}{vs:List (κ×YZ)}(r:KV kvs vs)(k:κ):(kvs.any λkv=>decide (kv.1=k))=vs.any λkv=>decide (kv.1=k):=by
 unfold KV at r
 induction r with
 | nil=>rfl
 | cons h t ih=>rw [fU,fU,ih,h.1]
theorem KV.repl{kvs:List (κ×V)}{vs:List (κ×YZ)}(r:KV kvs vs)(k:κ){y:V}{u:YZ}(ry:RelV y u):
  KV (kvs.map λkv=>if kv.1=k then (kv.1,y) else kv) (vs.map λkv=>if kv.1=k then (kv.1,u) else kv):=by
 unfold KV at r ⊢
 induction r with
 | nil=>exact .nil
 | @cons p q ps qs h t ih=>
  rw [ZC,ZC]
  refine .cons ?_ ih
  obtain ⟨h1,h2⟩:=h
  by_cases e:p.1=k
  ·rw [jn e,jn (h1.symm.trans e)];exact ⟨h1,ry⟩
  ·rw [qz e,qz (λz=>e (h1.trans z))];exact ⟨h1,h2⟩
theorem KV.put{kvs:List (κ×V)}{vs:List (κ×YZ)}(r:KV kvs vs)(k:κ){y:V}{u:YZ}(ry:RelV y u):KV (wb kvs k y) (stored vs k u):=by
 unfold wb stored
 rw [r.any k]
 by_cases e:(vs.any λkv=>decide (kv.1=k))=true
 ·rw [jn e,jn e];exact r.repl k ry
 ·rw [qz e,qz e];exact Paired.snoc r ⟨rfl,ry⟩
theorem KV.length{kvs:List (κ×V)}{vs:List (κ×YZ)}(r:KV kvs vs):kvs.length=vs.length:=Paired.length r
end
theorem Mq{P:Z8}{w:ZN}{k:i4}{u:YZ}(r:RelV (kV k) u):(uy P w).is k u=true:=by
 cases k with
 | inl i=>obtain ⟨t,e⟩:=(show ∃ t,u=YZ.int i t from r);subst e;exact IA P w i t
 | inr x=>obtain ⟨t,e⟩:=(show ∃ t,u=YZ.str x t from r);subst e;exact JN P w x t
theorem Gp{P:Z8}{w:ZN}:∀ {ks:List i4} {us:List YZ},Vals (ks.map kV) us->ItemsAre (uy P w) ks us
 | [],_,r=>by rw [iJ] at r;cases r;exact .nil
 | k::ks,_,r=>by
  rw [ZC] at r
  cases r with
  | cons h t=>exact .cons (Mq h) (Gp t)
abbrev KT(H:Hp):List (List i4×V)->List (List i4×Zh×YZ)->Prop:=Paired λp q=>p.1=q.1/\H q.2.1=YW (.tup (p.1.map kV))/\RelV p.2 q.2.2
theorem KT.val{H:Hp}{kvs:List (List i4×V)}{xs:List (List i4×Zh×YZ)}(r:KT H kvs xs)(k:List i4):RelO (DI kvs k) ((atKey xs k).map (·.2)):=by
 induction r with
 | nil=>exact eK
 | @cons p q ps qs h t ih=>
  obtain ⟨h1,_,h2⟩:=h
  by_cases e:p.1=k
  ·have e':q.1=k:=h1.symm.trans e
   have b:atKey (q::qs) k=YW q.2:=by simp [atKey,dF,e']
   rw [BJ e,b];exact h2
  ·have e':¬ q.1=k:=λz=>e (h1.trans z)
   have b:atKey (q::qs) k=atKey qs k:=by simp [atKey,dF,e']
   rw [BX e,b];exact ih
theorem KT.repl{H:Hp}{kvs:List (List i4×V)}{xs:List (List i4×Zh×YZ)}(r:KT H kvs xs)(k:List i4){y:V}{u:YZ}(ry:RelV y u):
  KT H (kvs.map λkv=>if kv.1=k then (kv.1,y) else kv) (xs.map (putAt k u)):=by
 induction r with
 | nil=>exact .nil
 | @cons p q ps qs h t ih=>
  rw [ZC,ZC]
  refine .cons ?_ ih
  obtain ⟨h1,h2,h3⟩:=h
  unfold putAt
  by_cases e:p.1=k
  ·rw [jn e,jn (h1.symm.trans e)];exact ⟨h1,h2,ry⟩
  ·rw [qz e,qz (λz=>e (h1.trans z))];exact ⟨h1,h2,h3⟩
theorem KT.put{H:Hp}{kvs:List (List i4×V)}{xs:List (List i4×Zh×YZ)}(r:KT H kvs xs)(k:List i4){b:Zh}{y:V}{u:YZ}(hb:H b=YW (.tup (k.map kV)))(ry:RelV y u):
  KT H (wb kvs k y) (storedH xs k b u):=by
 have e:(kvs.any λkv=>decide (kv.1=k))=(atKey xs k).isSome:=by
  rw [Fm,(r.val k).isSome_eq,Option.isSome_map]
 unfold wb storedH
 rw [e]
 by_cases q:(atKey xs k).isSome=true
 ·rw [jn q,jn q];exact r.repl k ry
 ·rw [qz q,qz q];exact Paired.snoc r ⟨rfl,hb,ry⟩
theorem KT.keeps{H H':Hp}{kvs:List (List i4×V)}{xs:List (List i4×Zh×YZ)}(r:KT H kvs xs)(ht:∀ b ys,H b=YW (.tup ys)->H' b=YW (.tup ys)):KT H' kvs xs:=
 Paired.mapP r λ_ _ z=>⟨z.1,ht _ _ z.2.1,z.2.2⟩
section
variable{P:Z8}{w:ZN}{H:Hp}{h:ZM}{a:Zh}
theorem Tb{u:HO}(ok:HOk P w H h)(e:Rd H a u):ObjOk P w H h a u:=e.ok ok
theorem PM{kvs:List (i4×V)}(ok:HOk P w H h)(e:Rd H a (.dK kvs)):kvs.length<=Zx/\(a == cD)=false/\∃ vs,KV kvs vs/\h.DictOf (uy P w) a vs:=
 show ObjOk P w H h a (.dK kvs) from Tb ok e
theorem P5{kvs:List (i4×V)}(ok:HOk P w H h)(e:H a=YW (.dK kvs)):kvs.length<=Zx/\(a == cD)=false/\∃ vs,KV kvs vs/\h.DictOf (uy P w) a vs:=PM ok (.inl e)
theorem Ib{ks:List i4}(ok:HOk P w H h)(e:H a=YW (.tup (ks.map kV))):(tupleKind (uy P w)).is h ks a:=by
 obtain ⟨_,its,r,o,h1,h2,n,h3⟩:=(show ObjOk P w H h a (.tup (ks.map kV)) from ok a _ e)
 exact ⟨o,its.toArray,n,h1,h2,h3,by simpa using Gp r⟩
theorem Pv{kvs:List (List i4×V)}(ok:HOk P w H h)(e:Rd H a (.dT kvs)):kvs.length<=Zx/\(a == cD)=false/\
  ∃ xs,KT H kvs xs/\h.DictOfH (tupleKind (uy P w)) a xs:=by
 obtain ⟨z,y,xs,r,o,es,ep,h1,h2,h3,h4,h5⟩:=(show ObjOk P w H h a (.dT kvs) from Tb ok e)
 refine ⟨z,y,xs,r,o,es,ep,h1,h2,h3,h4,λx hx=>?_,h5⟩
 have all:∀ {l:List (List i4×V)} {m:List (List i4×Zh×YZ)},KT H l m->∀ x∈m,(tupleKind (uy P w)).is h x.1 x.2.1:=by
  intro l m q
  induction q with
  | nil=>intro x hx;exact nomatch hx
  | @cons p q ps qs hq t ih=>
   intro x hx
   rcases ZP.mp hx with e | hx
   ·subst e
    exact Ib ok (by rw [<- hq.1];exact hq.2.1)
   ·exact ih x hx
 exact all r x hx
theorem WU{kvs:List (List i4×V)}(ok:HOk P w H h)(e:H a=YW (.dT kvs)):kvs.length<=Zx/\(a == cD)=false/\
 ∃ xs,KT H kvs xs/\h.DictOfH (tupleKind (uy P w)) a xs:=Pv ok (.inl e)
end
noncomputable def DGet(H:Hp)(a:Zh)(y:V)(r:Option V):Prop:=
 (∃ kvs k,Rd H a (.dK kvs)/\y=kV k/\r=DI kvs k)∨∃ kvs k b,Rd H a (.dT kvs)/\y= .ref b/\H b=YW (.tup (k.map kV))/\r=DI kvs k
noncomputable def DPut(H:Hp)(a:Zh)(y v:V)(H':Hp):Prop:=
 (∃ kvs k,H a=YW (.dK kvs)/\y=kV k/\kvs.length < Zx/\H'=upd H a (.dK (wb kvs k v)))∨
 ∃ kvs k b,H a=YW (.dT kvs)/\y= .ref b/\H b=YW (.tup (k.map kV))/\kvs.length < Zx/\H'=upd H a (.dT (wb kvs k v))
theorem DGet.k{H:Hp}{a:Zh}{kvs:List (i4×V)}{k:i4}(e:H a=YW (.dK kvs)):DGet H a (kV k) (DI kvs k):=.inl ⟨kvs,k,.inl e,rfl,rfl⟩
theorem DPut.k{H:Hp}{a:Zh}{kvs:List (i4×V)}{k:i4}{v:V}(e:H a=YW (.dK kvs))(hl:kvs.length < Zx):DPut H a (kV k) v (upd H a (.dK (wb kvs k v))):=.inl ⟨kvs,k,e,rfl,hl,rfl⟩
section
variable{X:Cx}{lh:List (Zh×bX)}{σ:St}{H:Hp}{s:Zd}{a:Zh}{y v:V}{u r:YZ}{o:Option V}{A:aC}{E:YZ->Zd->Prop}
theorem Inv.big(I:Inv X lh σ H s):cD < s.heap.objs.size:=by
 have h:ZF < s.heap.objs.size:=(I.mod.glob.keeps I.bk).lt
 exact Nat.lt_trans (by decide) h
theorem Yo{Q:YZ->Zd->Prop}(hu:A.units+1 < eD)(I:Inv X lh σ H s)(g:DGet H a y o)(ry:RelV y u)(h:∀ s',Inv X lh σ H s'->Q (.bool o.isSome) s'):
  Z0 (ZD X.prog X.w) A (aL .In u (.ref a)) Q E s:=by
 rcases g with ⟨kvs,k,e,ey,l⟩ | ⟨kvs,k,b,e,ey,eb,l⟩
 ·subst ey
  obtain ⟨z,hd,vs,rel,dd⟩:=PM I.hok e
  refine wpAny_in_of (Mq ry) hd dd.mapOf ?_
  rw [<- (rel.val k).isSome_eq,<- l]
  exact h _ (I.tok _)
 ·subst ey
  cases (show u=aA b from ry)
  obtain ⟨z,hd,xs,rel,dd⟩:=Pv I.hok e
  refine wpAny_in_heap (tupleKind_room_in1 hu) (Ib I.hok eb) hd dd ?_
  have q:=(rel.val k).isSome_eq
  rw [Option.isSome_map] at q
  rw [<- q,<- l]
  exact h _ (I.tok _)
theorem Rc{Q:YZ->Zd->Prop}(hu:A.units+1 < eD)(I:Inv X lh σ H s)(g:DGet H a y o)(ry:RelV y u)(h:∀ s',Inv X lh σ H s'->Q (.bool (!o.isSome)) s'):
  Z0 (ZD X.prog X.w) A (aL .NotIn u (.ref a)) Q E s:=by
 rcases g with ⟨kvs,k,e,ey,l⟩ | ⟨kvs,k,b,e,ey,eb,l⟩
 ·subst ey
  obtain ⟨z,hd,vs,rel,dd⟩:=PM I.hok e
  refine wpAny_notIn_of (Mq ry) hd dd.mapOf ?_
  rw [<- (rel.val k).isSome_eq,<- l]
  exact h _ (I.tok _)
 ·subst ey
  cases (show u=aA b from ry)
  obtain ⟨z,hd,xs,rel,dd⟩:=Pv I.hok e
  refine wpAny_notIn_heap (tupleKind_room_in1 hu) (Ib I.hok eb) hd dd ?_
  have q:=(rel.val k).isSome_eq
  rw [Option.isSome_map] at q
  rw [<- q,<- l]
  exact h _ (I.tok _)
theorem GV{h':ZM}{t':Nat}{ob:HO}(I:Inv X lh σ H s)(mu:WT (H a))(hs:fJ a s.heap h')(he:∃ q,h'.get? a=YW q)(new:ObjOk X.prog X.w (upd H a ob) h' a ob):
  Inv X lh σ (upd H a ob) {s with heap:=h',toks:=t'}:=
 I.write (x:=a) (e:=a) mu (.inl rfl) (λb q hb z=>(hs.2 b hb).trans z) he new
theorem TF{P:Z8}{w:ZN}{H':Hp}{h':ZM}{kvs:List (i4×V)}{vs:List (i4×YZ)}(z:kvs.length<=Zx)(hd:(a == cD)=false)(rel:KV kvs vs)(dd:h'.DictOf (uy P w) a vs):
 ObjOk P w H' h' a (.dK kvs):=⟨z,hd,vs,rel,dd⟩
theorem MX{H':Hp}{Q:Unit->Zd->Prop}(hu:A.units+1 < eD)(I:Inv X lh σ H s)(g:DPut H a y v H')(ry:RelV y u)(rv:RelV v r)(h:∀ s',Inv X lh σ H' s'->Q () s'):
  Z0 (ZD X.prog X.w) A (setItem (.ref a) u r) Q E s:=by
 rcases g with ⟨kvs,k,e,ey,l,eH⟩ | ⟨kvs,k,b,e,ey,eb,l,eH⟩
 ·subst ey eH
  obtain ⟨z,hd,vs,rel,dd⟩:=P5 I.hok e
  have hz:vs.length<=Zx:=by rw [<- rel.length];exact z
  have hl:(wb kvs k v).length<=Zx:=by have:=Dt kvs k v;exact Zo ‹_› ‹_›
  refine wpAny_setItem_pairs (hsz:=hz) (Mq ry) dd λh' dd' hs=>h _ ?_
  have he:∃ q,h'.get? a=YW q:=let ⟨q,_,_,hq,_⟩:=dd';⟨q,hq⟩
  exact GV I (by rw [e];exact eK) hs he (TF hl hd (rel.put k rv) dd')
 ·subst ey eH
  cases (show u=aA b from ry)
  obtain ⟨z,hd,xs,rel,dd⟩:=WU I.hok e
  have hz:xs.length<=Zx:=by rw [<- Paired.length rel];exact z
  have hl:(wb kvs k v).length<=Zx:=by have:=Dt kvs k v;exact Zo ‹_› ‹_›
  refine wpAny_setItem_heap (hsz:=hz) (tupleKind_room_in1 hu) (Ib I.hok eb) dd λh' dd' hs=>h _ ?_
  obtain ⟨q,es,ep,hq,h2,h3,h4,_,h5⟩:=dd'
  refine GV I (by rw [e];exact eK) hs ⟨q,hq⟩ ⟨hl,hd,_,(rel.put k eb rv).keeps λc ys ec=>?_,q,es,ep,hq,h2,h3,h4,h5⟩
  rw [qb (VZ ec e (λz=>nomatch z))]
  exact ec
end
theorem Qg{P:Z8}{w:ZN}{H:Hp}(h:ZM)(hb:cD < h.objs.size):ObjOk P w H (h.push {cls:=.type "dict",data:=.dict #[]}) h.objs.size (.dK []):=
 ⟨aY _,beq_eq_false_iff_ne.mpr (eT (aE hb)),[],.nil,ZM.DictOf.new h⟩
noncomputable def U9:TE:=λ_ H Q=>∀ p,H p=YY->Q (.ref p) (upd H p (.dK []))
section
variable{X:Cx}{pos:eE}
theorem Qp:PE X (.Dict [] [] pos) U9:=λlh s σ H Q I h=>
 wpAny_Dict_empty ⟨.ref s.heap.objs.size,_,I.laid (a:=s.heap.objs.size) (o:=.dK []) (t':=s.toks) (λ_ _ q=>Zk _ q) (Ze _) (Qg s.heap I.big),rfl,h _ (I.hok.fresh (Ze _))⟩
end
end L2
namespace KT
open PySem
mutual
noncomputable def lf:YX->Bool
 | .none=>true
 | .bool _=>true
 | .int _=>true
 | .str _=>true
 | .tuple xs=>lfs xs
 | .list _=>false
 | .dict _=>false
noncomputable def lfs:List YX->Bool
 | []=>true
 | x::xs=>lf x && lfs xs
end
inductive Slot where
 | par (d:YX)
 | loc (d:YX)
 | own (ds:List YX)
 | own2 (ds:List YX)
 | dct (ks:List YX)
 | lent (ds:List YX)
 | ex (c:Nat)
abbrev f9:=List (Option Slot)
inductive RE where
 | ok (l:Nat) (d:YX)
 | exc (c:Nat)
inductive RC where
 | ok (d:YX)
 | exc (c:Nat)
inductive RI where
 | ok (l:Nat) (ds:List YX)
 | exc (c:Nat)
inductive RS where
 | next (ρ:f9)
 | ret (d:YX)
 | retL (d:YX) (ds:List YX)
 | exc (c:Nat) (ρ:f9)
 | brk (ρ:f9)
 | cont (ρ:f9)
abbrev FE:=f9->Option RE
abbrev FI:=f9->Option RI
abbrev FS:=f9->Option RS
abbrev FC:=List YX->Option RC
noncomputable def zm(o:Option RE)(k:Nat->YX->Option RE):Option RE:=
 match o with
 | none=>YY
 | some (.exc c)=>YW (.exc c)
 | some (.ok l d)=>k l d
noncomputable def big:Nat:=100000
noncomputable def lim:Nat:=2 ^ 256
noncomputable def eC(d:YX):FE:=λ_=>YW (.ok 2 d)
noncomputable def za(i:Nat):FE:=λρ=>match ρ[i]? with
 | some (YW (.par d))=>YW (.ok 0 d)
 | some (YW (.loc d))=>YW (.ok 1 d)
 | some (YW (.own ds))=>YW (.ok 1 (.list ds))
 | some (YW (.own2 ds))=>YW (.ok 1 (.list ds))
 | some (YW (.lent ds))=>YW (.ok 1 (.list ds))
 | _=>YY
noncomputable def e2(op:YX->YX->Option YX)(fr:Bool)(fa fb:FE):FE:=λρ=>zm (fa ρ) λl x=>zm (fb ρ) λm y=>(op x y).map λd=>.ok (if fr then 2 else min l m) d
noncomputable def e1(op:YX->Option YX)(fr:Bool)(fa:FE):FE:=λρ=>zm (fa ρ) λl x=>(op x).map λd=>.ok (if fr then 2 else l) d
noncomputable def il:YX->YX->Option YX
 | .int i,.int j=>YW (.int (i+j))
 | .str x,.str y=>if x.length+y.length<=big then YW (.str (x++y)) else YY
 | .tuple xs,.tuple ys=>if (lfs xs && lfs ys && decide (xs.length+ys.length<=big))=true then YW (.tuple (xs++ys)) else YY
 | .list xs,.list ys=>if (lfs xs && lfs ys && decide (xs.length+ys.length<=big))=true then YW (.list (xs++ys)) else YY
 | _,_=>YY
noncomputable def NL:YX->YX->Option YX
 | .int i,.int j=>YW (.int (i - j))
 | _,_=>YY
noncomputable def CMulD(i j:Int):Prop:=i.natAbs < 2 ^ 64∨j.natAbs < 2 ^ 64∨(i.natAbs < lim/\j.natAbs < lim)
instance (i j:Int):Decidable (CMulD i j):=by unfold CMulD;infer_instance
noncomputable def Az:YX->YX->Option YX
 | .int i,.int j=>if CMulD i j then YW (.int (i * j)) else YY
 | .list xs,.int k=>if (lfs xs && decide (xs.length * k.toNat<=big) && decide (k.natAbs<=big))=true then YW (.list (Z1 k.toNat xs).flatten) else YY
 | _,_=>YY
noncomputable def Nu:YX->YX->Option YX
 | .int i,.int j=>if 0 < j/\j.natAbs < lim then YW (.int (i / j)) else YY
 | _,_=>YY
noncomputable def FP:YX->YX->Option YX
 | .int i,.int j=>if 0 < j then YW (.int (i % j)) else YY
 | _,_=>YY
noncomputable def Vc:YX->YX->Option YX
 | .int i,.int j=>if 0<=j/\j<=1000/\i.natAbs < 2 ^ 64 then YW (.int (i ^ j.toNat)) else YY
 | _,_=>YY
noncomputable def IW:YX->Option YX
 | .int i=>YW (.int (-i))
 | _=>YY
noncomputable def ij(x y:YX):Bool:=x.canLay0 && y.canLay0 && decide (min x.depth y.depth<=60)
noncomputable def vh:YX->YX->Option Bool
 | .int i,.int j=>YW (i == j)
 | .str i,.str j=>YW (i == j)
 | .bool i,.bool j=>YW (i == j)
 | x,y=>if ij x y=true then YW (Zm x y) else YY
noncomputable def av(x y:YX):Option YX:=(vh x y).map .bool
noncomputable def Ir(x y:YX):Option YX:=(vh x y).map λb=>.bool (!b)
noncomputable def Ih:YX->YX->Option YX
 | .int i,.int j=>YW (.bool (decide (i < j)))
 | _,_=>YY
noncomputable def YU:YX->YX->Option YX
 | .int i,.int j=>YW (.bool (decide (i<=j)))
 | _,_=>YY
noncomputable def Vz:YX->YX->Option YX
 | .int i,.int j=>YW (.bool (decide (j < i)))
 | _,_=>YY
noncomputable def YK:YX->YX->Option YX
 | .int i,.int j=>YW (.bool (decide (j<=i)))
 | _,_=>YY
noncomputable def Cr(x:YX)(ys:List YX):Bool:=x.canLay0 && Zg ys && decide (min (Zs ys) x.depth<=60)
noncomputable def Ep:YX->YX->Option Bool
 | x,.tuple ys=>if Cr x ys=true then YW (ys.any λy=>Zm y x) else YY
 | x,.list ys=>if Cr x ys=true then YW (ys.any λy=>Zm y x) else YY
 | _,_=>YY
noncomputable def W0(x y:YX):Option YX:=(Ep x y).map .bool
noncomputable def m8(x y:YX):Option YX:=(Ep x y).map λb=>.bool (!b)
noncomputable def Dg:YX->Bool
 | .none=>true
 | _=>false
noncomputable def Ot(x y:YX):Option YX:=if Dg y=true then YW (.bool (Dg x)) else YY
noncomputable def Io(x y:YX):Option YX:=if Dg y=true then YW (.bool (!Dg x)) else YY
noncomputable def BE(n:Nat)(i:Int):Option Nat:=if 0<=i then (if i < n then YW i.toNat else YY) else if -(n:Int)<=i then YW (i+n).toNat else YY
noncomputable def vg{α:Type}(xs:List α)(i:Int):Option α:=(BE xs.length i).bind λj=>xs[j]?
noncomputable def xr:YX->YX->Option YX
 | .tuple xs,.int i=>vg xs i
 | .list xs,.int i=>vg xs i
 | .str z,.int i=>if z.length<=big then (vg z.cps.toList i).map λc=>.str ⟨#[c]⟩ else YY
 | _,_=>YY
noncomputable def V2(n d:Nat):Option Int->Nat
 | none=>d
 | some v=>if v < 0 then (v+n).toNat else min v.toNat n
noncomputable def L6{α:Type}(xs:List α)(lo hi:Option Int):List α:=(xs.drop (V2 xs.length 0 lo)).take (V2 xs.length xs.length hi - V2 xs.length 0 lo)
noncomputable def Vy(lo hi:Option Int):YX->Option YX
 | .tuple xs=>if lfs xs=true then YW (.tuple (L6 xs lo hi)) else YY
 | .list xs=>if lfs xs=true then YW (.list (L6 xs lo hi)) else YY
 | _=>YY
noncomputable def qt:FE->FE->FE:=e2 il true
noncomputable def u4:FE->FE->FE:=e2 NL true
noncomputable def kf:FE->FE->FE:=e2 Az true
noncomputable def ni:FE->FE->FE:=e2 Nu true
noncomputable def v9:FE->FE->FE:=e2 FP true
noncomputable def QK:FE->FE->FE:=e2 Vc true
noncomputable def i8:FE->FE:=e1 IW true
noncomputable def qx:FE->FE->FE:=e2 av true
noncomputable def An:FE->FE->FE:=e2 Ir true
noncomputable def pq:FE->FE->FE:=e2 Ih true
noncomputable def Q3:FE->FE->FE:=e2 YU true
noncomputable def FA:FE->FE->FE:=e2 Vz true
noncomputable def OQ:FE->FE->FE:=e2 YK true
noncomputable def Kj:FE->FE->FE:=e2 W0 true
noncomputable def yf:FE->FE->FE:=e2 m8 true
noncomputable def Sn:FE->FE->FE:=e2 Ot true
noncomputable def JR:FE->FE->FE:=e2 Io true
noncomputable def z9:FE->FE->FE:=e2 xr false
inductive RO where
 | ok (i:Option Int)
 | exc (c:Nat)
abbrev FO:=f9->Option RO
noncomputable def D5:FO:=λ_=>YW (.ok YY)
noncomputable def BQ(f:FE):FO:=λρ=>match f ρ with
 | some (.ok _ (.int i))=>YW (.ok (YW i))
 | some (.exc c)=>YW (.exc c)
 | _=>YY
noncomputable def Tz(f:FE)(lo hi:FO):FE:=λρ=>zm (f ρ) λ_ x=>match lo ρ with
 | some (.ok l)=>(match hi ρ with
  | some (.ok h)=>(Vy l h x).map λd=>.ok 2 d
  | some (.exc c)=>YW (.exc c)
  | none=>YY)
 | some (.exc c)=>YW (.exc c)
 | none=>YY
noncomputable def yv(fa fb:FE):FE:=λρ=>zm (fa ρ) λ_ x=>match x with
 | .bool true=>fb ρ
 | .bool false=>YW (.ok 2 (.bool false))
 | _=>YY
noncomputable def o7(fa fb:FE):FE:=λρ=>zm (fa ρ) λ_ x=>match x with
 | .bool true=>YW (.ok 2 (.bool true))
 | .bool false=>fb ρ
 | _=>YY
noncomputable def Aw(fa:FE):FE:=λρ=>zm (fa ρ) λ_ x=>match x with
 | .bool b=>YW (.ok 2 (.bool (!b)))
 | _=>YY
noncomputable def Ag(fc fa fb:FE):FE:=λρ=>zm (fc ρ) λ_ x=>match x with
 | .bool true=>fa ρ
 | .bool false=>fb ρ
 | _=>YY
noncomputable def zq:List FE->FI
 | [],_=>YW (.ok 2 [])
 | f::fs,ρ=>match f ρ with
  | none=>YY
  | some (.exc c)=>YW (.exc c)
  | some (.ok l d)=>match zq fs ρ with
   | none=>YY
   | some (.exc c)=>YW (.exc c)
   | some (.ok m ds)=>YW (.ok (min l m) (d::ds))
noncomputable def zt(o:Option RI)(k:Nat->List YX->Option RE):Option RE:=
 match o with
 | none=>YY
 | some (.exc c)=>YW (.exc c)
 | some (.ok l ds)=>k l ds
noncomputable def zv(fs:List FE):FE:=λρ=>zt (zq fs ρ) λl ds=>YW (.ok l (.tuple ds))
noncomputable def qv(fs:List FE):FE:=λρ=>zt (zq fs ρ) λ_ ds=>if lfs ds=true then YW (.ok 2 (.list ds)) else YY
noncomputable def jx:Option RC->Option RE
 | none=>YY
 | some (.exc c)=>YW (.exc c)
 | some (.ok d)=>YW (.ok 2 d)
noncomputable def zg(g:FC)(fs:List FE):FE:=λρ=>zt (zq fs ρ) λ_ ds=>jx (g ds)
noncomputable def xx:YX->Option YX
 | .tuple xs=>YW (.int xs.length)
 | .list xs=>YW (.int xs.length)
 | .str z=>if z.length<=big then YW (.int z.length) else YY
 | _=>YY
noncomputable def Jy:YX->Option YX
 | .int i=>YW (.int i)
 | .bool b=>YW (.int (if b then 1 else 0))
 | _=>YY
noncomputable def Fn:YX->Option YX
 | .list xs=>if lfs xs=true then YW (.tuple xs) else YY
 | .tuple xs=>if lfs xs=true then YW (.tuple xs) else YY
 | _=>YY
noncomputable def Mb:YX->Option YX
 | .list xs=>if lfs xs=true then YW (.list xs) else YY
 | .tuple xs=>if lfs xs=true then YW (.list xs) else YY
 | _=>YY
inductive Ty where
 | int | bool | str | tuple | list
noncomputable def HA:Ty->YX->Bool
 | .int,.int _=>true
 | .int,.bool _=>true
 | .bool,.bool _=>true
 | .str,.str _=>true
 | .tuple,.tuple _=>true
 | .list,.list _=>true
 | _,_=>false
noncomputable def SY(t:Ty):YX->Option YX
 | .dict _=>YY
 | d=>YW (.bool (HA t d))
noncomputable def jr:FE->FE:=e1 xx true
noncomputable def r8:FE->FE:=e1 Jy true
noncomputable def sr:FE->FE:=e1 Fn true
noncomputable def D7:FE->FE:=e1 Mb true
noncomputable def E7(t:Ty):FE->FE:=e1 (SY t) true
noncomputable def mz(f:FE):FI:=λρ=>match f ρ with
 | some (.ok l (.list ds))=>if lfs ds=true then YW (.ok l ds) else YY
 | some (.ok _ (.tuple ds))=>if lfs ds=true then YW (.ok 2 ds) else YY
 | some (.exc c)=>YW (.exc c)
 | _=>YY
noncomputable def bu(n:Nat):List YX:=(ZR n).map λ(k:Nat)=>.int (k:Int)
noncomputable def Ra(f:FE):FI:=λρ=>match f ρ with
 | some (.ok _ (.int n))=>if n.natAbs<=big then YW (.ok 2 (bu n.toNat)) else YY
 | some (.exc c)=>YW (.exc c)
 | _=>YY
noncomputable def yu(n:Nat):List YX:=(ZR n).map λ(k:Nat)=>.int ((n:Int) - 1 - (k:Int))
noncomputable def i0(f:FE):FI:=λρ=>match f ρ with
 | some (.ok _ (.int a))=>if a.natAbs<=big then YW (.ok 2 (yu (a+1).toNat)) else YY
 | some (.exc c)=>YW (.exc c)
 | _=>YY
noncomputable def Mr(a:Nat):YX:=.dict [(.none,.int a)]
noncomputable def EG(i:Nat)(gs:List (Nat×FC))(fs:List FE):FE:=λρ=>match ρ[i]? with
 | some (YW (.par (.dict [(.none,.int a)])))=>(match gs.lookup a.toNat with
  | some g=>zt (zq fs ρ) λ_ ds=>jx (g ds)
  | none=>YY)
 | _=>YY
noncomputable def cg:List YX->Option (List Int)
 | []=>YW []
 | .int i::r=>(cg r).map (i::·)
 | _=>YY
noncomputable def ao:List Int->List Int->Bool
 | [],[]=>false
 | [],_::_=>true
 | _::_,[]=>false
 | x::xs,y::ys=>if x=y then ao xs ys else decide (x < y)
noncomputable def Cp:YX->Option YX
 | .int n=>if n.natAbs<=big then YW (.list (bu n.toNat)) else YY
 | _=>YY
noncomputable def EF:FE->FE:=e1 Cp true
noncomputable def yk:Nat->List YX->List YX
 | _,[]=>[]
 | n,d::ds=>.tuple [.int (n:Int),d]::yk (n+1) ds
noncomputable def mw:Option (Option Slot)->Option Slot
 | some (YW (.par d))=>YW (.par d)
 | some (YW (.loc d))=>YW (.par d)
 | some (YW (.own ds))=>YW (.par (.list ds))
 | _=>YY
noncomputable def b7(elt:FE)(env:f9):List YX->Option (List YX)
 | []=>YW []
 | d::ds=>match elt (YW (.par d)::env) with
  | some (.ok _ x)=>if lf x=true then (b7 elt env ds).map (x::·) else YY
  | _=>YY
noncomputable def ro(it:FI)(ids:List Nat)(elt:FE):FE:=λρ=>match it ρ with
 | none=>YY
 | some (.exc c)=>YW (.exc c)
 | some (.ok _ ds)=>if ds.length<=big then (b7 elt (ids.map λi=>mw ρ[i]?) ds).map λxs=>.ok 2 (.list xs) else YY
noncomputable def u7(l:Nat)(d:YX):Option Slot:=
 if lf d=true then YW (.loc d) else if 2<=l then (match d with
  | .list ds=>if lfs ds=true then YW (.own ds) else YW (.loc d)
  | _=>YW (.loc d)) else YY
noncomputable def zk(o:Option RE)(ρ:f9)(k:Nat->YX->Option RS):Option RS:=
 match o with
 | none=>YY
 | some (.exc c)=>YW (.exc c ρ)
 | some (.ok l d)=>k l d
noncomputable def zl:FS:=λρ=>YW (.next ρ)
noncomputable def zd(a b:FS):FS:=λρ=>match a ρ with
 | some (.next ρ')=>b ρ'
 | r=>r
noncomputable def zo(i:Nat)(f:FE):FS:=λρ=>zk (f ρ) ρ λl d=>(u7 l d).map λs=>.next (ρ.set i (YW s))
noncomputable def oo(f:FE):FS:=λρ=>zk (f ρ) ρ λ_ _=>YW (.next ρ)
noncomputable def zr(f:FE):FS:=λρ=>zk (f ρ) ρ λl d=>if (lf d || decide (1<=l))=true then YW (.ret d) else YY
noncomputable def qm(c:FE)(a b:FS):FS:=λρ=>zk (c ρ) ρ λ_ d=>match d with
 | .bool true=>a ρ
 | .bool false=>b ρ
 | _=>YY
noncomputable def yz(i:Nat)(f:FE):FS:=λρ=>match ρ[i]? with
 | some (YW (.own xs))=>zk (f ρ) ρ λ_ d=>if (lf d && decide (xs.length < big))=true then YW (.next (ρ.set i (YW (.own (xs++[d]))))) else YY
 | _=>YY
noncomputable def my(i j:Nat):FS:=λρ=>match ρ[j]? with
 | some (YW (.own ys))=>(match ρ[i]? with
  | some (YW (.own xs))=>if i≠j/\xs.length < big then YW (.next ((ρ.set j (YW (.loc (.list ys)))).set i (YW (.own2 (xs++[.list ys]))))) else YY
  | some (YW (.own2 xs))=>if i≠j/\xs.length < big then YW (.next ((ρ.set j (YW (.loc (.list ys)))).set i (YW (.own2 (xs++[.list ys]))))) else YY
  | _=>YY)
 | _=>YY
noncomputable def ug(i:Nat)(f:FE):FS:=λρ=>match ρ[i]? with
 | some (YW (.own xs))=>zk (f ρ) ρ λ_ d=>match d with
  | .list ys=>if (lfs ys && decide (xs.length+ys.length<=big))=true then YW (.next (ρ.set i (YW (.own (xs++ys))))) else YY
  | .tuple ys=>if (lfs ys && decide (xs.length+ys.length<=big))=true then YW (.next (ρ.set i (YW (.own (xs++ys))))) else YY
  | _=>YY
 | _=>YY
noncomputable def Np(j i:Nat):FS:=λρ=>match ρ[i]? with
 | some (YW (.own xs))=>(match xs[xs.length - 1]? with
  | some d=>if i=j then YY else YW (.next ((ρ.set i (YW (.own xs.dropLast))).set j (YW (.loc d))))
  | none=>YY)
 | _=>YY
noncomputable def Aj(c:Nat):FS:=λρ=>YW (.exc c ρ)
abbrev FT:=YX->f9->Option f9
noncomputable def z8(i:Nat):FT:=λd ρ=>YW (ρ.set i (YW (.loc d)))
noncomputable def f7(i j:Nat):FT:=λd ρ=>match d with
 | .tuple [x,y]=>YW ((ρ.set i (YW (.loc x))).set j (YW (.loc y)))
 | _=>YY
noncomputable def Cm(t:FT)(f:FE):FS:=λρ=>zk (f ρ) ρ λ_ d=>if lf d=true then (t d ρ).map .next else YY
noncomputable def qy(tg:FT)(body:FS):List YX->f9->Option RS
 | [],ρ=>YW (.next ρ)
 | d::ds,ρ=>match tg d ρ with
  | none=>YY
  | some ρ1=>match body ρ1 with
   | some (.next ρ2)=>qy tg body ds ρ2
   | some (.cont ρ2)=>qy tg body ds ρ2
   | some (.brk ρ2)=>YW (.next ρ2)
   | r=>r
noncomputable def bz(it:FI)(tg:FT)(body:FS):FS:=λρ=>match it ρ with
 | none=>YY
 | some (.exc c)=>YW (.exc c ρ)
 | some (.ok l ds)=>if 2<=l then qy tg body ds ρ else YY
noncomputable def vf(i:Nat)(tg:FT)(body:FS):FS:=λρ=>match ρ[i]? with
 | some (YW (.own xs))=>qy tg body xs (ρ.set i (YW (.loc (.list xs))))
 | some (YW (.par (.list xs)))=>if lfs xs=true then qy tg body xs ρ else YY
 | some (YW (.loc (.list xs)))=>if lfs xs=true then qy tg body xs ρ else YY
 | some (YW (.par (.tuple xs)))=>if lfs xs=true then qy tg body xs ρ else YY
 | some (YW (.loc (.tuple xs)))=>if lfs xs=true then qy tg body xs ρ else YY
 | _=>YY
noncomputable def CN(i:Nat)(tg:FT)(body:FS):FS:=λρ=>match ρ[i]? with
 | some (YW (.par (.tuple xs)))=>if lfs xs=true then qy tg body (yk 0 xs) ρ else YY
 | some (YW (.loc (.tuple xs)))=>if lfs xs=true then qy tg body (yk 0 xs) ρ else YY
 | _=>YY
noncomputable def gu(c:FE)(body:FS):Nat->f9->Option RS
 | 0,_=>YY
 | n+1,ρ=>zk (c ρ) ρ λ_ d=>match d with
  | .bool true=>(match body ρ with
   | some (.next ρ')=>gu c body n ρ'
   | some (.cont ρ')=>gu c body n ρ'
   | some (.brk ρ')=>YW (.next ρ')
   | r=>r)
  | .bool false=>YW (.next ρ)
  | _=>YY
noncomputable def G7:Nat:=100000
noncomputable def Bu(c:FE)(body:FS):FS:=λρ=>gu c body G7 ρ
noncomputable def PD(body:FS)(sub:Nat->Bool)(i:Nat)(h:FS):FS:=λρ=>match body ρ with
 | some (.exc c ρ')=>if sub c then (match h (ρ'.set i (YW (.ex c))) with
  | some (.ret d)=>YW (.ret d)
  | some (.next ρ2)=>YW (.next (ρ2.set i YY))
  | _=>YY) else YY
 | r=>r
noncomputable def NY(i:Nat)(sub:Nat->Bool):FE:=λρ=>match ρ[i]? with
 | some (YW (.ex c))=>YW (.ok 2 (.bool (sub c)))
 | _=>YY
noncomputable def z7(n:Nat)(b:FS):FC:=λds=>match b (ds.map (λd=>YW (.par d))++Z1 (n - ds.length) YY) with
 | some (.ret d)=>YW (.ok d)
 | some (.next _)=>YW (.ok .none)
 | some (.exc c _)=>YW (.exc c)
 | _=>YY
end KT
namespace KT
open PySem L2
abbrev PP:=Bool->Zh->Prop
noncomputable def Rl(P:PP)(H:Hp)(a:Zh)(vs:List V):Prop:=(P false a/\H a=YW (.lst vs))∨(P true a/\∃ o,H a=YW (.frz o (.lst vs)))
theorem Rl.rd{P:PP}{H:Hp}{a:Zh}{vs:List V}(h:Rl P H a vs):Rd H a (.lst vs):=h.elim (λx=>.inl x.2) λx=>.inr x.2
theorem Rd.same{H H':Hp}(s:Same H H'){a:Zh}{u:HO}(h:Rd H a u):Rd H' a u:=by
 rcases h with h | ⟨o,h⟩
 ·exact .inl (s _ _ h)
 ·exact .inr ⟨o,s _ _ h⟩
mutual
noncomputable def Rep(P:PP)(H:Hp):YX->V->Prop
 | .none,v=>v= .non
 | .bool b,v=>v= .bl b
 | .int i,v=>v= .int i
 | .str x,v=>v= .str x
 | .tuple ds,v=>∃ a vs,v= .ref a/\Rd H a (.tup vs)/\Reps P H ds vs
 | .list ds,v=>∃ a vs,v= .ref a/\Rl P H a vs/\Reps P H ds vs
 | .dict kvs,v=>∃ a:Nat,kvs=[(.none,.int a)]/\v= .ref a
noncomputable def Reps(P:PP)(H:Hp):List YX->List V->Prop
 | [],vs=>vs=[]
 | d::ds,vs=>∃ v r,vs=v::r/\Rep P H d v/\Reps P H ds r
end
mutual
theorem Rep.mono{P P':PP}{H H':Hp}(hT:∀ a vs,Rd H a (.tup vs)->Rd H' a (.tup vs))(hL:∀ a vs,Rl P H a vs->Rl P' H' a vs):
  ∀ (d:YX) (v:V),Rep P H d v->Rep P' H' d v
 | .none,_,h=>h
 | .bool _,_,h=>h
 | .int _,_,h=>h
 | .str _,_,h=>h
 | .tuple ds,_,⟨a,vs,e,h,r⟩=>⟨a,vs,e,hT a vs h,Reps.mono hT hL ds vs r⟩
 | .list ds,_,⟨a,vs,e,h,r⟩=>⟨a,vs,e,hL a vs h,Reps.mono hT hL ds vs r⟩
 | .dict _,_,h=>h
theorem Reps.mono{P P':PP}{H H':Hp}(hT:∀ a vs,Rd H a (.tup vs)->Rd H' a (.tup vs))(hL:∀ a vs,Rl P H a vs->Rl P' H' a vs):
  ∀ (ds:List YX) (vs:List V),Reps P H ds vs->Reps P' H' ds vs
 | [],_,h=>h
 | d::ds,_,⟨v,r,e,h,t⟩=>⟨v,r,e,Rep.mono hT hL d v h,Reps.mono hT hL ds r t⟩
end
theorem Rl.same{P:PP}{H H':Hp}(s:Same H H'){a:Zh}{vs:List V}(h:Rl P H a vs):Rl P H' a vs:=by
 rcases h with ⟨p,h⟩ | ⟨p,o,h⟩
 ·exact .inl ⟨p,s _ _ h⟩
 ·exact .inr ⟨p,o,s _ _ h⟩
theorem Rl.imp{P P':PP}{H:Hp}(hP:∀ z a,P z a->P' z a){a:Zh}{vs:List V}(h:Rl P H a vs):Rl P' H a vs:=by
 rcases h with ⟨p,h⟩ | ⟨p,o,h⟩
 ·exact .inl ⟨hP _ _ p,h⟩
 ·exact .inr ⟨hP _ _ p,o,h⟩
theorem Rep.same{P:PP}{H H':Hp}(s:Same H H'){d:YX}{v:V}(h:Rep P H d v):Rep P H' d v:=
 Rep.mono (λ_ _ e=>Rd.same s e) (λ_ _ r=>r.same s) d v h
theorem Reps.same{P:PP}{H H':Hp}(s:Same H H'){d:List YX}{v:List V}(h:Reps P H d v):Reps P H' d v:=
 Reps.mono (λ_ _ e=>Rd.same s e) (λ_ _ r=>r.same s) d v h
theorem Rep.imp{P P':PP}{H:Hp}(hP:∀ z a,P z a->P' z a){d:YX}{v:V}(h:Rep P H d v):Rep P' H d v:=
 Rep.mono (λ_ _ e=>e) (λ_ _ r=>r.imp hP) d v h
theorem Reps.imp{P P':PP}{H:Hp}(hP:∀ z a,P z a->P' z a){d:List YX}{v:List V}(h:Reps P H d v):Reps P' H d v:=
 Reps.mono (λ_ _ e=>e) (λ_ _ r=>r.imp hP) d v h
mutual
theorem Rep.free{P P':PP}{H H':Hp}(hT:∀ a vs,Rd H a (.tup vs)->Rd H' a (.tup vs)):∀ (d:YX) (v:V),lf d=true->Rep P H d v->Rep P' H' d v
 | .none,_,_,h=>h
 | .bool _,_,_,h=>h
 | .int _,_,_,h=>h
 | .str _,_,_,h=>h
 | .tuple ds,_,f,⟨a,vs,e,h,r⟩=>⟨a,vs,e,hT a vs h,Reps.free hT ds vs (by simpa [lf] using f) r⟩
 | .list _,_,f,_=>by simp [lf] at f
 | .dict _,_,f,_=>by simp [lf] at f
theorem Reps.free{P P':PP}{H H':Hp}(hT:∀ a vs,Rd H a (.tup vs)->Rd H' a (.tup vs)):∀ (ds:List YX) (vs:List V),lfs ds=true->Reps P H ds vs->Reps P' H' ds vs
 | [],_,_,h=>h
 | d::ds,_,f,⟨v,r,e,h,t⟩=>by
  have f':lf d=true/\lfs ds=true:=by simpa [lfs] using f
  exact ⟨v,r,e,Rep.free hT d v f'.1 h,Reps.free hT ds r f'.2 t⟩
end
theorem Rep.nl{P P':PP}{H:Hp}{d:YX}{v:V}(f:lf d=true)(h:Rep P H d v):Rep P' H d v:=Rep.free (λ_ _ e=>e) d v f h
theorem Reps.nl{P P':PP}{H:Hp}{d:List YX}{v:List V}(f:lfs d=true)(h:Reps P H d v):Reps P' H d v:=Reps.free (λ_ _ e=>e) d v f h
theorem Reps.length{P:PP}{H:Hp}:∀ {ds:List YX} {vs:List V},Reps P H ds vs->vs.length=ds.length
 | [],_,h=>by cases (show _=_ from h);rfl
 | d::ds,_,⟨v,r,e,_,t⟩=>by subst e;simp [Reps.length t]
theorem Reps.get{P:PP}{H:Hp}:∀ {ds:List YX} {vs:List V} {i:Nat} {d:YX},Reps P H ds vs->ds[i]? =YW d->∃ v,vs[i]? =YW v/\Rep P H d v
 | [],_,_,_,_,e=>by simp at e
 | d::ds,_,0,d',⟨v,r,e,h,t⟩,q=>by subst e;simp at q;subst q;exact ⟨v,rfl,h⟩
 | d::ds,_,i+1,d',⟨v,r,e,h,t⟩,q=>by
  subst e
  obtain ⟨u,q1,q2⟩:=Reps.get (i:=i) t (by simpa using q)
  exact ⟨u,by simpa using q1,q2⟩
theorem Reps.append{P:PP}{H:Hp}:∀ {ds es:List YX} {vs us:List V},Reps P H ds vs->Reps P H es us->Reps P H (ds++es) (vs++us)
 | [],_,_,_,h,t=>by cases (show _=_ from h);exact t
 | d::ds,_,_,_,⟨v,r,e,h,t⟩,q=>by subst e;exact ⟨v,_,rfl,h,Reps.append t q⟩
theorem Reps.one{P:PP}{H:Hp}{d:YX}{v:V}(h:Rep P H d v):Reps P H [d] [v]:=⟨v,[],rfl,h,rfl⟩
theorem Reps.drop{P:PP}{H:Hp}:∀ {ds:List YX} {vs:List V} (n:Nat),Reps P H ds vs->Reps P H (ds.drop n) (vs.drop n)
 | _,_,0,h=>h
 | [],_,n+1,h=>by cases (show _=_ from h);exact rfl
 | d::ds,_,n+1,⟨v,r,e,h,t⟩=>by subst e;exact Reps.drop n t
theorem Reps.take{P:PP}{H:Hp}:∀ {ds:List YX} {vs:List V} (n:Nat),Reps P H ds vs->Reps P H (ds.take n) (vs.take n)
 | _,_,0,h=>rfl
 | [],_,n+1,h=>by cases (show _=_ from h);exact rfl
 | d::ds,_,n+1,⟨v,r,e,h,t⟩=>by subst e;exact ⟨v,_,rfl,h,Reps.take n t⟩
section
variable{X:Cx}{lh:List (Zh×bX)}{σ:St}{H:Hp}{s:Zd}{P:PP}
mutual
theorem xq(I:Inv X lh σ H s):∀ (d:YX) (v:V) (u:YZ),d.canLay0=true->Rep P H d v->RelV v u->∃ as,Reads s.heap u d as
 | .none,_,_,_,h,r=>by cases (show _=_ from h);cases r;exact ⟨_,.none⟩
 | .bool b,_,_,_,h,r=>by cases (show _=_ from h);cases r;exact ⟨_,.bool b⟩
 | .int i,_,_,_,h,r=>by cases (show _=_ from h);obtain ⟨t,rfl⟩:=r;exact ⟨_,.int i t⟩
 | .str x,_,_,_,h,r=>by cases (show _=_ from h);obtain ⟨t,rfl⟩:=r;exact ⟨_,.str x t⟩
 | .tuple ds,_,_,c,⟨a,vs,e,h,t⟩,r=>by
  subst e;cases r
  obtain ⟨its,rs,⟨o,ho,hc,n,hd⟩,_⟩:=I.tuple (.inl h)
  obtain ⟨as,q⟩:=readsAll_of I ds vs its (by simpa [Zw] using c) t rs
  exact ⟨_,.tuple ho hc hd q⟩
 | .list ds,_,_,c,⟨a,vs,e,h,t⟩,r=>by
  subst e;cases r
  obtain ⟨its,rs,⟨o,n,ho,hc,hd0,hd⟩,_⟩:=I.list (.inl h.rd)
  obtain ⟨as,q⟩:=readsAll_of I ds vs its (by simpa [Zw] using c) t rs
  exact ⟨_,.list ho hc hd q⟩
 | .dict _,_,_,c,_,_=>by simp [Zw] at c
theorem readsAll_of(I:Inv X lh σ H s):∀ (ds:List YX) (vs:List V) (us:List YZ),Zg ds=true->Reps P H ds vs->Vals vs us->∃ as,ReadsAll s.heap us ds as
 | [],_,_,_,h,r=>by cases (show _=_ from h);cases r;exact ⟨_,.nil⟩
 | d::ds,_,_,c,⟨v,t,e,h,hs⟩,r=>by
  subst e
  have c':d.canLay0=true/\Zg ds=true:=by simpa [Zg] using c
  cases r with
  | cons r1 r2=>
   obtain ⟨as,q⟩:=xq I d v _ c'.1 h r1
   obtain ⟨bs,q'⟩:=readsAll_of I ds t _ c'.2 hs r2
   exact ⟨_,.cons q q'⟩
end
end
noncomputable def PL(H₀ Hs:Hp):Nat->PP
 | 0=>λ_ _=>True
 | 1=>λz a=>z=false/\H₀ a=YY
 | _=>λz a=>z=false/\Hs a=YY
theorem PL.le{H₀ Hs:Hp}(s:Same H₀ Hs){l m:Nat}(h:l<=m){z:Bool}{a:Zh}(p:PL H₀ Hs m z a):PL H₀ Hs l z a:=by
 match l,m with
 | 0,_=>exact trivial
 | 1,1=>exact p
 | 1,m+2=>exact ⟨p.1,s.free p.2⟩
 | l+2,m+2=>exact p
 | l+1,0=>exact absurd ‹_› (cE _)
 | l+2,1=>omega
noncomputable def XRep(cv:Nat->YZ)(H:Hp)(c:Nat)(a:Zh):Prop:=∃ φ,H a=YW (.ext φ)/\∀ h,φ h->∃ o,h.get? a=YW o/\o.cls=cv c/\o.dict=YY/\∃ vs,o.data= .fields vs
theorem XRep.same{cv:Nat->YZ}{H H':Hp}{c:Nat}{a:Zh}(s:Same H H')(h:XRep cv H c a):XRep cv H' c a:=let ⟨φ,e,r⟩:=h;⟨φ,s _ _ e,r⟩
noncomputable def DR(H:Hp)(ks:List YX)(a:Zh):Prop:=(∃ is:List Int,ks=is.map .int/\H a=YW (.dK (is.map λi=>(.inl i,.bl true))))∨(ks≠[]/\H a=YW (.dN ks))
theorem DR.same{H H':Hp}{ks:List YX}{a:Zh}(s:Same H H')(h:DR H ks a):DR H' ks a:=by
 rcases h with ⟨is,e,h⟩ | ⟨n,h⟩
 ·exact .inl ⟨is,e,s _ _ h⟩
 ·exact .inr ⟨n,s _ _ h⟩
noncomputable def VS(cv:Nat->YZ)(H₀:Hp)(o:Option (Option V))(H:Hp):Slot->Prop
 | .par d=>∃ v,o=YW (YW v)/\Rep (λ_ _=>True) H d v
 | .loc d=>∃ v,o=YW (YW v)/\Rep (λz a=>z=false/\H₀ a=YY) H d v
 | .own ds=>∃ v,o=YW (YW v)/\Rep (λz a=>z=false/\H₀ a=YY) H (.list ds) v
 | .own2 ds=>∃ v,o=YW (YW v)/\Rep (λz a=>z=false/\H₀ a=YY) H (.list ds) v
 | .lent ds=>∃ v,o=YW (YW v)/\Rep (λz a=>z=false/\H₀ a=YY) H (.list ds) v
 | .dct ks=>∃ a,o=YW (YW (.ref a))/\DR H ks a
 | .ex c=>∃ a,o=YW (YW (.ref a))/\XRep cv H c a
theorem VS.same{cv:Nat->YZ}{H₀ H H':Hp}{o:Option (Option V)}(s:Same H H'):∀ {t:Slot},VS cv H₀ o H t->VS cv H₀ o H' t
 | .par _,⟨v,e,h⟩=>⟨v,e,h.same s⟩
 | .loc _,⟨v,e,h⟩=>⟨v,e,h.same s⟩
 | .own _,⟨v,e,h⟩=>⟨v,e,h.same s⟩
 | .own2 _,⟨v,e,h⟩=>⟨v,e,h.same s⟩
 | .lent _,⟨v,e,h⟩=>⟨v,e,h.same s⟩
 | .dct _,⟨a,e,h⟩=>⟨a,e,h.same s⟩
 | .ex _,⟨a,e,h⟩=>⟨a,e,h.same s⟩
structure G(cv:Nat->YZ)(H₀ Hs:Hp)(ρ:f9)(σ:St)(H:Hp):Prop where
 s0:Same H₀ Hs
 s1:Same Hs H
 vr:∀ (i:Nat) t,ρ[i]? =YW (YW t)->VS cv H₀ σ[i]? H t
theorem G.same{cv:Nat->YZ}{H₀ Hs H H':Hp}{ρ:f9}{σ:St}(g:G cv H₀ Hs ρ σ H)(s:Same H H'):G cv H₀ Hs ρ σ H':=⟨g.s0,g.s1.trans s,λi t e=>(g.vr i t e).same s⟩
abbrev F7:=Nat->St->Hp->Prop
structure XOT where
 cv:Nat->YZ
 f:F7
noncomputable def KK(XO:XOT)(H₀ Hs:Hp)(σ:St)(H:Hp)(Q:VK)(r:RE):Prop:=
 (∀ l d v H',r= .ok l d->Same H H'->Rep (PL H₀ Hs l) H' d v->Q v H')/\∀ c H',r= .exc c->Same H H'->XO.f c σ H'
theorem KK.same{XO:XOT}{H₀ Hs:Hp}{σ:St}{H H':Hp}{Q:VK}{r:RE}(k:KK XO H₀ Hs σ H Q r)(s:Same H H'):KK XO H₀ Hs σ H' Q r:=
 ⟨λl d v H2 e t=>k.1 l d v H2 e (s.trans t),λc H2 e t=>k.2 c H2 e (s.trans t)⟩
noncomputable def tF(XO:XOT)(f:FE):TE:=λσ H Q=>∃ H₀ Hs ρ r,G XO.cv H₀ Hs ρ σ H/\f ρ=YW r/\KK XO H₀ Hs σ H Q r
theorem g9{XO:XOT}{H₀ Hs:Hp}{ρ:f9}{σ:St}{H:Hp}{Q Q':VK}{fa:FE}{k:Nat->YX->Option RE}{r:RE}(g:G XO.cv H₀ Hs ρ σ H)(e:zm (fa ρ) k=YW r)(kk:KK XO H₀ Hs σ H Q r)
  (cont:∀ l d v H1,Same H H1->G XO.cv H₀ Hs ρ σ H1->Rep (PL H₀ Hs l) H1 d v->k l d=YW r->KK XO H₀ Hs σ H1 Q r->Q' v H1):tF XO fa σ H Q':=by
 cases h:fa ρ with
 | none=>rw [h] at e;cases e
 | some x=>
  rw [h] at e
  cases x with
  | exc c=>
   cases (ZS e)
   exact ⟨H₀,Hs,ρ,.exc c,g,h,⟨λl d v H' e=>(nomatch e),kk.2⟩⟩
  | ok l d=>
   refine ⟨H₀,Hs,ρ,.ok l d,g,h,⟨λl' d' v H' e' s rp=>?_,λc H' e=>(nomatch e)⟩⟩
   cases e'
   exact cont l d v H' s (g.same s) rp e (kk.same s)
theorem KK.give{XO:XOT}{H₀ Hs:Hp}{σ:St}{H:Hp}{Q:VK}{r:RE}{l:Nat}{d:YX}{v:V}{H':Hp}(kk:KK XO H₀ Hs σ H Q r)(e:YW (RE.ok l d)=YW r)(s:Same H H')(rp:Rep (PL H₀ Hs l) H' d v):Q v H':=
 kk.1 l d v H' (ZS e).symm s rp
section
variable{X:Cx}{XO:XOT}{a b c:ZY}{fa fb fc:FE}{pos:eE}
theorem PE.imp{e:ZY}{t t':TE}(h:PE X e t)(f:∀ σ H Q,t' σ H Q->t σ H Q):PE X e t':=λlh s σ H Q I q=>h lh s σ H Q I (f σ H Q q)
theorem PT.imp{e:ZY}{t t':TT}(h:PT X e t)(f:∀ σ H Q,t' σ H Q->t σ H Q):PT X e t':=λlh s σ H Q I q=>h lh s σ H Q I (f σ H Q q)
theorem PS.imp{e:aG}{t t':TS}(h:PS X e t)(f:∀ D σ H,t' D σ H->t D σ H):PS X e t':=λlh s σ H D I q=>h lh s σ H D I (f D σ H q)
theorem zf{i:Int}{j pos}:PE X (.Constant (.int i) j pos) (tF XO (eC (.int i))):=PE.imp KQ λσ H Q ⟨H₀,Hs,ρ,r,g,e,kk⟩=>kk.give e (Same.refl _) rfl
theorem qc{i:Z3}{j pos}:PE X (.Constant (.str i) j pos) (tF XO (eC (.str i))):=PE.imp Po λσ H Q ⟨H₀,Hs,ρ,r,g,e,kk⟩=>kk.give e (Same.refl _) rfl
theorem Sm{i:Bool}{j pos}:PE X (.Constant (.bool i) j pos) (tF XO (eC (.bool i))):=PE.imp Tt λσ H Q ⟨H₀,Hs,ρ,r,g,e,kk⟩=>kk.give e (Same.refl _) rfl
theorem Ge{j pos}:PE X (.Constant .none j pos) (tF XO (eC .none)):=PE.imp UR λσ H Q ⟨H₀,Hs,ρ,r,g,e,kk⟩=>kk.give e (Same.refl _) rfl
theorem zb(i:Nat){x:Z3}{pos:eE}(hN:X.N[i]? =YW x:=by rfl)(hv:DS X.env.scope x:=by first | exact ZZ rfl | exact ZE (ZZ rfl) | exact ZE (ZE rfl))(hd:(x == ("__debug__":Z3))=false:=by decide)
  (hcd:(x == ("__classdict__":Z3))=false:=by decide):PE X (.Name x pos) (tF XO (za i)):=PE.imp (vo hN hv hd hcd) λσ H Q ⟨H₀,Hs,ρ,r,g,e,kk⟩=>by
 unfold za at e
 have vr:=g.vr i
 split at e
 ·rename_i d hρ
  obtain ⟨v,h1,h2⟩:=vr _ hρ
  exact ⟨v,h1,kk.give e (Same.refl _) h2⟩
 ·rename_i d hρ
  obtain ⟨v,h1,h2⟩:=vr _ hρ
  exact ⟨v,h1,kk.give e (Same.refl _) h2⟩
 ·rename_i d hρ
  obtain ⟨v,h1,h2⟩:=vr _ hρ
  exact ⟨v,h1,kk.give e (Same.refl _) h2⟩
 ·rename_i d hρ
  obtain ⟨v,h1,h2⟩:=vr _ hρ
  exact ⟨v,h1,kk.give e (Same.refl _) h2⟩
 ·rename_i d hρ
  obtain ⟨v,h1,h2⟩:=vr _ hρ
  exact ⟨v,h1,kk.give e (Same.refl _) h2⟩
 ·cases e
noncomputable def Gc(r:R2)(op:YX->YX->Option YX)(fr:Bool):Prop:=
 ∀ (H₀ Hs H:Hp) (l m:Nat) (x y d:YX) (v u:V) (Q:VK),Same H₀ Hs->Same Hs H->op x y=YW d->Rep (PL H₀ Hs l) H x v->Rep (PL H₀ Hs m) H y u->
  (∀ z H',Same H H'->Rep (PL H₀ Hs (if fr then 2 else min l m)) H' d z->Q z H')->r v u H Q
theorem Ef{r:R2}{op:YX->YX->Option YX}{fr:Bool}(ho:Gc r op fr){σ:St}{H:Hp}{Q:VK}(h:tF XO (e2 op fr fa fb) σ H Q):UU r (tF XO fa) (tF XO fb) σ H Q:=by
 obtain ⟨H₀,Hs,ρ,rr,g,e,kk⟩:=h
 refine g9 g e kk λl x v H1 s1 g1 r1 e1 k1=>?_
 refine g9 g1 e1 k1 λm y u H2 s2 g2 r2 e2' k2=>?_
 cases hd:op x y with
 | none=>rw [hd] at e2';cases e2'
 | some d=>
  rw [hd] at e2'
  exact ho H₀ Hs H2 l m x y d v u Q g2.s0 g2.s1 hd (r1.same s2) r2 λz H' s rp=>k2.give e2' s rp
theorem K5{op:Operator}{r:R2}{f:YX->YX->Option YX}{fr:Bool}(ho:OpR X (cN op) r)(hd:Gc r f fr)(ha:PE X a (tF XO fa))(hb:PE X b (tF XO fb)):PE X (.BinOp a op b pos) (tF XO (e2 f fr fa fb)):=
 PE.imp (Wg ho ha hb) λ_ _ _ h=>Ef hd h
theorem Xi{op:CmpOp}{r:R2}{f:YX->YX->Option YX}{fr:Bool}(ho:OpR X (aL op) r)(hd:Gc r f fr)(ha:PE X a (tF XO fa))(hb:PE X b (tF XO fb))(hm:dR op b=false):PE X (.Compare a [op] [b] pos) (tF XO (e2 f fr fa fb)):=
 PE.imp (RL ho ha hb hm) λ_ _ _ h=>Ef hd h
theorem XX{r:R2}{f:YX->YX->Option YX}{fr:Bool}(ho:IxR X r)(hd:Gc r f fr)(ha:PE X a (tF XO fa))(hb:PE X b (tF XO fb))(hs:DW b):PE X (.Subscript a b pos) (tF XO (e2 f fr fa fb)):=
 PE.imp (Py ho ha hb hs) λ_ _ _ h=>Ef hd h
end
end KT
namespace KT
open PySem PySem.Spec PyProof.Rows L2
theorem qp{H:Hp}{p:Zh}(h:H p=YY)(o:HO):Same H (upd H p o):=λb u q=>by rw [qb (jq q h)];exact q
theorem B1:big<=Zx:=by decide
theorem iy{n:Nat}(h:n<=big):n<=Zx:=Zo h B1
section
variable{X:Cx}{XO:XOT}{a b c:ZY}{fa fb fc:FE}{pos:eE}
noncomputable def Ti:R2:=λx y H Q=>∃ a b ys,x= .ref a/\y= .ref b/\Rd H a (.tup [])/\Rd H b (.tup ys)/\Q (.ref b) H
theorem op_catE:OpR X (cN .Add) Ti:=by
 intro lh s σ H x y v u Q I rx ry h
 obtain ⟨a,b,ys,rfl,rfl,ha,hb,q⟩:=h
 cases rx
 cases ry
 obtain ⟨its,r1,p1,_⟩:=I.tuple (.inl ha)
 obtain ⟨its2,r2,p2,_⟩:=I.tuple (.inl hb)
 obtain ⟨⟨cls,dd,data,sl⟩,ho,hc,n,hd⟩:=id p1
 obtain ⟨⟨cls2,dd2,data2,sl2⟩,ho2,hc2,n2,hd2⟩:=id p2
 simp only at hc hd hc2 hd2
 subst hc hd hc2 hd2
 have hv:its=[]:=r1.nil_iff.mpr rfl
 exact concat_meets ⟨_,ho,rfl⟩ ⟨_,ho2,rfl⟩ noFill_tuple_add seq_tuple_add gI fZ (fT _ _)
  (tuple_addW0 a b its.toArray its2.toArray n n2 dd dd2 sl sl2 (by simp [hv])) ⟨ho,ho2,⟨.ref b,H,I,rfl,q⟩⟩
theorem QM{lh:List (Zh×bX)}{σ:L2.St}{H:Hp}{s:Zd}{l:Zh}{xs:List V}(I:Inv X lh σ H s)(hH:Rd H l (.lst xs)):
  xs.length<=Zx/\∃ (its:List YZ) (n:Nat),Vals xs its/\xs.length=its.length/\s.heap.get? l=YW {cls:=.type "list",data:=.seq its.toArray n}:=by
 obtain ⟨z,its,n,r,e⟩:=hH.ok I.hok
 exact ⟨z,its,n,r,r.length,e⟩
noncomputable def SN:R2:=λx y H Q=>∃ l b xs zs,x= .ref l/\y= .ref b/\Rd H l (.lst xs)/\Rd H b (.lst zs)/\xs.length+zs.length<=Zx/\∀ p,H p=YY->Q (.ref p) (upd H p (.lst (xs++zs)))
theorem QL:OpR X (cN .Add) SN:=by
 intro lh s σ H x y v u Q I rx ry h
 obtain ⟨l,b,xs,zs,rfl,rfl,hH,hB,hz,q⟩:=h
 cases rx
 cases ry
 obtain ⟨z,its,n,r,hl,e⟩:=QM I hH
 obtain ⟨z2,its2,n2,r2,hl2,e2⟩:=QM I hB
 refine PySem.P.add_list e e2 ?_ (by rw [Zl,Zl];omega)
 have ea:its.toArray++its2.toArray=(its++its2).toArray:=by simp
 rw [ea]
 exact ⟨.ref _,_,I.lnew (t':=s.toks) (r.append r2) (by rw [Za];omega),rfl,q _ I.fresh⟩
noncomputable def Wk:R2:=λx y H Q=>∃ i j,x= .str i/\y= .str j/\i.length+j.length<=Zx/\Q (.str (i++j)) H
noncomputable def SX(K:Zb):R2:=λx y H Q=>Rz (λi j=>.int (i+j)) x y H Q∨Wk x y H Q∨Tc K x y H Q∨Ti x y H Q∨SN x y H Q
theorem S9:OpR X (cN .Add) (SX X.K):=op_add.or (OpR.or Le (op_catT.or (op_catE.or QL)))
theorem UZ{K:Zb}:Gc (SX K) il true:=by
 intro H₀ Hs H l m x y d v u Q s0 s1 e rx ry q
 unfold il at e
 split at e
 ·rename_i i j
  cases (show v= .int i from rx);cases (show u= .int j from ry);cases e
  exact .inl ⟨i,j,rfl,rfl,q _ H (Same.refl H) rfl⟩
 ·rename_i x y
  split at e
  ·rename_i hz
   cases (show v= .str x from rx);cases (show u= .str y from ry);cases e
   exact .inr (.inl ⟨x,y,rfl,rfl,iy hz,q _ H (Same.refl H) rfl⟩)
  ·cases e
 ·rename_i xs ys
  split at e
  ·rename_i hz
   simp only [Zn,decide_eq_true_eq] at hz
   obtain ⟨⟨f1,f2⟩,hz⟩:=hz
   cases e
   obtain ⟨pa,vs,rfl,ha,ra⟩:=rx
   obtain ⟨pb,us,rfl,hb,rb⟩:=ry
   have l1:=ra.length
   have l2:=rb.length
   by_cases hv:vs=[]
   ·subst hv
    have:xs=[]:=by cases xs with | nil=>rfl | cons _ _=>simp at l1
    subst this
    exact .inr (.inr (.inr (.inl ⟨pa,pb,us,rfl,rfl,ha,hb,q _ H (Same.refl H) ⟨pb,us,rfl,hb,rb.nl f2⟩⟩)))
   ·refine .inr (.inr (.inl ⟨pa,pb,vs,us,rfl,rfl,.inl ha,.inl hb,hv,by rw [l1,l2];exact iy hz,λhu=>?_,λhu p hp=>?_⟩))
    ·subst hu
     have:ys=[]:=by cases ys with | nil=>rfl | cons _ _=>simp at l2
     subst this
     rw [ZL] at q
     exact q _ H (Same.refl H) ⟨pa,vs,rfl,ha,ra.nl f1⟩
    ·exact q _ _ (qp hp _) ⟨p,_,rfl,(.inl qr),((ra.nl f1).append (rb.nl f2)).same (qp hp _)⟩
  ·cases e
 ·rename_i xs ys
  split at e
  ·rename_i hz
   simp only [Zn,decide_eq_true_eq] at hz
   obtain ⟨⟨f1,f2⟩,hz⟩:=hz
   cases e
   obtain ⟨pa,vs,rfl,ha,ra⟩:=rx
   obtain ⟨pb,us,rfl,hb,rb⟩:=ry
   have l1:=ra.length
   have l2:=rb.length
   refine .inr (.inr (.inr (.inr ⟨pa,pb,vs,us,rfl,rfl,ha.rd,hb.rd,by rw [l1,l2];exact iy hz,λp hp=>?_⟩)))
   exact q _ _ (qp hp _) ⟨p,_,rfl,.inl ⟨⟨rfl,s1.free hp⟩,qr⟩,((ra.nl f1).append (rb.nl f2)).same (qp hp _)⟩
  ·cases e
 ·cases e
theorem ya(ha:PE X a (tF XO fa))(hb:PE X b (tF XO fb)):PE X (.BinOp a .Add b pos) (tF XO (qt fa fb)):=K5 S9 UZ ha hb
theorem HM{C:Int->Int->Prop}{g:Int->Int->Int}{f:YX->YX->Option YX}(hf:∀ x y d,f x y=YW d->∃ i j,x= .int i/\y= .int j/\C i j/\d= .int (g i j)):Gc (rI C λi j=>.int (g i j)) f true:=by
 intro H₀ Hs H l m x y d v u Q s0 s1 e rx ry q
 obtain ⟨i,j,rfl,rfl,hc,rfl⟩:=hf x y d e
 cases (show v= .int i from rx);cases (show u= .int j from ry)
 exact ⟨i,j,rfl,rfl,hc,q _ H (Same.refl H) rfl⟩
theorem QW:OpR X (cN .Sub) (rI (λ_ _=>True) λi j=>.int (i - j)):=VF λ_ _ _ _ _ _ _ _ q=>sub_int q
theorem ER(ha:PE X a (tF XO fa))(hb:PE X b (tF XO fb)):PE X (.BinOp a .Sub b pos) (tF XO (u4 fa fb)):=
 K5 QW (HM λx y d e=>by unfold NL at e;split at e<;>first | (cases e;exact ⟨_,_,rfl,rfl,trivial,rfl⟩) | cases e) ha hb
theorem J4{i:Int}(h:i.natAbs < lim):aT.Int.intBits i<=2 ^ 20:=by
 unfold aT.Int.intBits
 split
 ·exact aY _
 ·rename_i h0
  have h1:i.natAbs≠0:=by
   intro z
   exact h0 (by simp [Int.natAbs_eq_zero.mp z])
  have h2:i.natAbs.log2 < 256:=(Nat.log2_lt h1).mpr h
  have h3:(256:Nat)<=2 ^ 20:=by decide
  exact Zt ‹_› ‹_›
theorem CMulD.ok{i j:Int}(h:CMulD i j):IntMulOk i j:=by
 rcases h with h | h | ⟨h1,h2⟩
 ·exact IntMulOk.of_left (intBits_le_64 (by omega) (by omega))
 ·exact IntMulOk.of_right (intBits_le_64 (by omega) (by omega))
 ·exact IntMulOk.of_bits (J4 h1) (J4 h2)
theorem op_mulI:OpR X (cN .Mult) (rI CMulD λi j=>.int (i * j)):=VF λ_ _ _ _ _ _ _ hc q=>mul_int q hc.ok
noncomputable def SW:R2:=λx y H Q=>∃ l k xs,x= .ref l/\y= .int k/\Rd H l (.lst xs)/\-(2 ^ 63)<=k/\k < 2 ^ 63/\xs.length * k.toNat<=Zx/\
 ∀ p,H p=YY->Q (.ref p) (upd H p (.lst (Z1 k.toNat xs).flatten))
theorem S2:OpR X (cN .Mult) SW:=by
 intro lh s σ H x y v u Q I rx ry h
 obtain ⟨l,k,xs,rfl,rfl,hH,h1,h2,hz,q⟩:=h
 cases rx
 obtain ⟨t,rfl⟩:=ry
 obtain ⟨z,its,n,r,hl,e⟩:=QM I hH
 have lq:its.toArray.size * k.toNat<=Zx:=by rw [Zl,<- hl];exact hz
 have hcap:¬ its.toArray.size * k.toNat > (2 ^ 63 - 1) / 8:=by
  have:(Zx:Nat)<=(2 ^ 63 - 1) / 8:=by decide
  omega
 have hfit:¬ (!aT.List.listFitsIndex k)=true:=by
  rw [fitsIndex_both h1 h2]
  exact Zv
 have hlong:¬ bD (its.toArray.size * k.toNat)=true:=by
  rw [E9 lq]
  exact Zv
 have hnew:iP (λx1 x2=>x1++x2) #[] (Z1 (if its.toArray.isEmpty=true then 0 else k.toNat) its.toArray)=(Z1 k.toNat its).flatten.toArray:=by
  have f0:∀ m:Nat,iP (λx1 x2=>x1++x2) #[] (Z1 m its.toArray)=(Z1 m its).flatten.toArray:=λm=>by
   have:=Df its m []
   rw [dG] at this
   exact this
  rw [f0]
  cases its with
  | nil=>simp
  | cons a r'=>rw [qz (by simp)]
 refine wpAny_binaryOp_repeat_ref (T:="list") (U:="int") (by decide) ⟨_,e,rfl⟩ (λs'=>typeIs_int s' k t) noFill_list_mul F.fills_int_mul iF repeat_list F.slot_int_index.lookup
  (cQ iF (typeIs_int s k t) F.entry_int_rmul (F.args_int_rmul_2 _ _) (int___rmul___int_list k t l its.toArray n)
    ⟨e,rfl,⟨_,e,rfl⟩,cQ F.slot_list_mul ⟨_,e,rfl⟩ F.entry_list_mul (F.args_list_mul_2 _ _) (AutoListH.list___mul___list_int_3 l its.toArray n k t hfit hcap hlong) ⟨e,?_⟩⟩)
 rw [hnew]
 exact ⟨.ref _,_,I.lnew (t':=s.toks) (r.rep k.toNat) (by rw [HD,dO];exact hz),rfl,q _ I.fresh⟩
theorem Reps.rep{P:PP}{H:Hp}{ds:List YX}{vs:List V}(h:Reps P H ds vs):∀ k:Nat,Reps P H (Z1 k ds).flatten (Z1 k vs).flatten
 | 0=>rfl
 | k+1=>by
  rw [aR,aR,cC,cC]
  exact h.append (Reps.rep h k)
noncomputable def VM:R2:=λx y H Q=>rI CMulD (λi j=>.int (i * j)) x y H Q∨SW x y H Q
theorem UA:Gc VM Az true:=by
 intro H₀ Hs H l m x y d v u Q s0 s1 e rx ry q
 unfold Az at e
 split at e
 ·rename_i i j
  split at e
  ·rename_i hc
   cases (show v= .int i from rx);cases (show u= .int j from ry);cases e
   exact .inl ⟨i,j,rfl,rfl,hc,q _ H (Same.refl H) rfl⟩
  ·cases e
 ·rename_i xs k
  split at e
  ·rename_i hz
   simp only [Zn,decide_eq_true_eq] at hz
   obtain ⟨⟨f1,hz⟩,hk⟩:=hz
   cases e
   obtain ⟨pa,vs,rfl,ha,ra⟩:=rx
   cases (show u= .int k from ry)
   have l1:=ra.length
   have hb:big < 2 ^ 63:=by decide
   refine .inr ⟨pa,k,vs,rfl,rfl,ha.rd,by omega,by omega,by rw [l1];exact iy hz,λp hp=>?_⟩
   exact q _ _ (qp hp _) ⟨p,_,rfl,.inl ⟨⟨rfl,s1.free hp⟩,qr⟩,((ra.nl f1).rep _).same (qp hp _)⟩
  ·cases e
 ·cases e
theorem cw(ha:PE X a (tF XO fa))(hb:PE X b (tF XO fb)):PE X (.BinOp a .Mult b pos) (tF XO (kf fa fb)):=K5 (op_mulI.or S2) UA ha hb
theorem Sj:OpR X (cN .FloorDiv) (rI (λ_ j=>0 < j/\j.natAbs < lim) λi j=>.int (i / j)):=VF λi j _ _ _ _ _ hc q=>by
 have h0:j≠0:=by omega
 refine floordiv_int h0 ?_ (.inl (PyProof.noPylong_of_log2 ?_))
 ·rw [Int.fdiv_eq_ediv_of_nonneg _ (by omega)]
  exact q
 ·have h1:j.natAbs≠0:=by omega
  have h2:j.natAbs.log2 < 256:=(Nat.log2_lt h1).mpr hc.2
  omega
theorem OK(ha:PE X a (tF XO fa))(hb:PE X b (tF XO fb)):PE X (.BinOp a .FloorDiv b pos) (tF XO (ni fa fb)):=
 K5 Sj (HM λx y d e=>by
  unfold Nu at e
  split at e
  ·split at e
   ·rename_i hc;cases e;exact ⟨_,_,rfl,rfl,hc,rfl⟩
   ·cases e
  ·cases e) ha hb
theorem m7(ha:PE X a (tF XO fa))(hb:PE X b (tF XO fb)):PE X (.BinOp a .Mod b pos) (tF XO (v9 fa fb)):=
 K5 Ux (HM λx y d e=>by
  unfold FP at e
  split at e
  ·split at e
   ·rename_i hc;cases e;exact ⟨_,_,rfl,rfl,hc,rfl⟩
   ·cases e
  ·cases e) ha hb
theorem W5(ha:PE X a (tF XO fa))(hb:PE X b (tF XO fb)):PE X (.BinOp a .Pow b pos) (tF XO (QK fa fb)):=
 K5 UV (HM λx y d e=>by
  unfold Vc at e
  split at e
  ·split at e
   ·rename_i hc;cases e;exact ⟨_,_,rfl,rfl,⟨hc.1,by omega,hc.2.2⟩,rfl⟩
   ·cases e
  ·cases e) ha hb
noncomputable def Yf(r:V->Hp->VK->Prop)(op:YX->Option YX)(fr:Bool):Prop:=
 ∀ (H₀ Hs H:Hp) (l:Nat) (x d:YX) (v:V) (Q:VK),Same H₀ Hs->Same Hs H->op x=YW d->Rep (PL H₀ Hs l) H x v->
  (∀ z H',Same H H'->Rep (PL H₀ Hs (if fr then 2 else l)) H' d z->Q z H')->r v H Q
theorem QS{r:V->Hp->VK->Prop}{op:YX->Option YX}{fr:Bool}(ho:Yf r op fr){σ:L2.St}{H:Hp}{Q:VK}(h:tF XO (e1 op fr fa) σ H Q):tF XO fa σ H λx H1=>r x H1 Q:=by
 obtain ⟨H₀,Hs,ρ,rr,g,e,kk⟩:=h
 refine g9 g e kk λl x v H1 s1 g1 r1 e1 k1=>?_
 cases hd:op x with
 | none=>rw [hd] at e1;cases e1
 | some d=>
  rw [hd] at e1
  exact ho H₀ Hs H1 l x d v Q g1.s0 g1.s1 hd r1 λz H' s rp=>k1.give e1 s rp
theorem FY(ha:PE X a (tF XO fa)):PE X (.UnaryOp .USub a pos) (tF XO (i8 fa)):=
 PE.imp (WV Ua ha) λ_ _ _ h=>QS (op:=IW) (λH₀ Hs H l x d v Q s0 s1 e rx q=>by
  unfold IW at e
  split at e
  ·rename_i i
   cases (show v= .int i from rx);cases e
   exact ⟨i,rfl,q _ H (Same.refl H) rfl⟩
  ·cases e) h
end
structure BC(X:Cx):Prop where
 hu:X.A.units+64 < eD
 mlen:X.mg "len" =YY
 mint:X.mg "int" =YY
 mbool:X.mg "bool" =YY
 mstr:X.mg "str" =YY
 mtuple:X.mg "tuple" =YY
 mlist:X.mg "list" =YY
 misi:X.mg "isinstance" =YY
 mrange:X.mg "range" =YY
 menum:X.mg "enumerate" =YY
 mzip:X.mg "zip" =YY
 mrev:X.mg "reversed" =YY
section
variable{X:Cx}{XO:XOT}{a b c:ZY}{fa fb fc:FE}{pos:eE}
noncomputable def SI(neg:Bool):R2:=λx y H Q=>∃ (P1 P2:PP) (d1 d2:YX),Rep P1 H d1 x/\Rep P2 H d2 y/\d1.canLay0=true/\d2.canLay0=true/\min d1.depth d2.depth<=60/\Q (.bl (if neg then !Zm d1 d2 else Zm d1 d2)) H
theorem OR(hu:X.A.units+64 < eD):OpR X (aL .Eq) (SI false):=by
 intro lh s σ H x y v u Q I rx ry h
 obtain ⟨P1,P2,d1,d2,r1,r2,c1,c2,hd,q⟩:=h
 obtain ⟨as,ra⟩:=xq I d1 x v c1 r1 rx
 obtain ⟨bs,rb⟩:=xq I d2 y u c2 r2 ry
 exact SeqAt.compareEq_reads ra rb c1 c2 (by omega) ⟨.bl _,H,I,rfl,q⟩
theorem Vg(hu:X.A.units+64 < eD):OpR X (aL .NotEq) (SI true):=by
 intro lh s σ H x y v u Q I rx ry h
 obtain ⟨P1,P2,d1,d2,r1,r2,c1,c2,hd,q⟩:=h
 obtain ⟨as,ra⟩:=xq I d1 x v c1 r1 rx
 obtain ⟨bs,rb⟩:=xq I d2 y u c2 r2 ry
 exact SeqAt.compareNe_reads ra rb c1 c2 (by omega) ⟨.bl _,H,I,rfl,q⟩
theorem E3{x y:YX}{b:Bool}(h:vh x y=YW b):(∃ i j,x= .int i/\y= .int j/\b=(i == j))∨(∃ i j,x= .str i/\y= .str j/\b=(i == j))∨(∃ i j,x= .bool i/\y= .bool j/\b=(i == j))∨(ij x y=true/\b=Zm x y):=by
 unfold vh at h
 split at h
 ·cases h;exact .inl ⟨_,_,rfl,rfl,rfl⟩
 ·cases h;exact .inr (.inl ⟨_,_,rfl,rfl,rfl⟩)
 ·cases h;exact .inr (.inr (.inl ⟨_,_,rfl,rfl,rfl⟩))
 ·split at h
  ·rename_i hk;cases h;exact .inr (.inr (.inr ⟨hk,rfl⟩))
  ·cases h
theorem Jn{x y:YX}(h:ij x y=true):x.canLay0=true/\y.canLay0=true/\min x.depth y.depth<=60:=by
 simp only [ij,Zn,decide_eq_true_eq] at h
 exact ⟨h.1.1,h.1.2,h.2⟩
theorem Tj:Gc (λx y H Q=>Yz x y H Q∨SI false x y H Q) av true:=by
 intro H₀ Hs H l m x y d v u Q s0 s1 e rx ry q
 unfold av at e
 cases hb:vh x y with
 | none=>rw [hb] at e;cases e
 | some k=>
  rw [hb] at e
  cases e
  rcases E3 hb with ⟨i,j,rfl,rfl,rfl⟩ | ⟨i,j,rfl,rfl,rfl⟩ | ⟨i,j,rfl,rfl,rfl⟩ | ⟨hk,rfl⟩
  ·cases (show v= .int i from rx);cases (show u= .int j from ry)
   exact .inl ⟨rfl,q _ H (Same.refl H) (by rw [Ei];rfl)⟩
  ·cases (show v= .str i from rx);cases (show u= .str j from ry)
   exact .inl ⟨rfl,q _ H (Same.refl H) (by rw [Eh];rfl)⟩
  ·cases (show v= .bl i from rx);cases (show u= .bl j from ry)
   exact .inl ⟨rfl,q _ H (Same.refl H) (by rw [Hf];rfl)⟩
  ·obtain ⟨c1,c2,hd⟩:=Jn hk
   exact .inr ⟨_,_,x,y,rx,ry,c1,c2,hd,q _ H (Same.refl H) rfl⟩
theorem W2:Gc (λx y H Q=>Y8 x y H Q∨SI true x y H Q) Ir true:=by
 intro H₀ Hs H l m x y d v u Q s0 s1 e rx ry q
 unfold Ir at e
 cases hb:vh x y with
 | none=>rw [hb] at e;cases e
 | some k=>
  rw [hb] at e
  cases e
  rcases E3 hb with ⟨i,j,rfl,rfl,rfl⟩ | ⟨i,j,rfl,rfl,rfl⟩ | ⟨i,j,rfl,rfl,rfl⟩ | ⟨hk,rfl⟩
  ·cases (show v= .int i from rx);cases (show u= .int j from ry)
   exact .inl ⟨rfl,q _ H (Same.refl H) (by rw [Ei];rfl)⟩
  ·cases (show v= .str i from rx);cases (show u= .str j from ry)
   exact .inl ⟨rfl,q _ H (Same.refl H) (by rw [Eh];rfl)⟩
  ·cases (show v= .bl i from rx);cases (show u= .bl j from ry)
   exact .inl ⟨rfl,q _ H (Same.refl H) (by rw [Hf];rfl)⟩
  ·obtain ⟨c1,c2,hd⟩:=Jn hk
   exact .inr ⟨_,_,x,y,rx,ry,c1,c2,hd,q _ H (Same.refl H) rfl⟩
noncomputable def RR(neg:Bool):R2:=λx y H Q=>∃ (P1 P2:PP) (d1:YX) (ds:List YX),Rep P1 H d1 x/\(Rep P2 H (.list ds) y∨Rep P2 H (.tuple ds) y)/\d1.canLay0=true/\Zg ds=true/\min (Zs ds) d1.depth<=60/\
 Q (.bl (if neg then !(ds.any λy=>Zm y d1) else ds.any λy=>Zm y d1)) H
theorem Uy(hu:X.A.units+64 < eD):OpR X (aL .In) (RR false):=by
 intro lh s σ H x y v u Q I rx ry h
 obtain ⟨P1,P2,d1,ds,r1,r2,c1,c2,hd,q⟩:=h
 obtain ⟨as,ra⟩:=xq I d1 x v c1 r1 rx
 rcases r2 with r2 | r2
 ·obtain ⟨bs,rb⟩:=xq I _ y u (by simpa [Zw] using c2) r2 ry
  exact SeqAt.in_list_reads rb ra c2 c1 (by omega) ⟨.bl _,H,I,rfl,q⟩
 ·obtain ⟨bs,rb⟩:=xq I _ y u (by simpa [Zw] using c2) r2 ry
  exact SeqAt.in_tuple_reads rb ra c2 c1 (by omega) ⟨.bl _,H,I,rfl,q⟩
theorem Oa(hu:X.A.units+64 < eD):OpR X (aL .NotIn) (RR true):=by
 intro lh s σ H x y v u Q I rx ry h
 obtain ⟨P1,P2,d1,ds,r1,r2,c1,c2,hd,q⟩:=h
 obtain ⟨as,ra⟩:=xq I d1 x v c1 r1 rx
 rcases r2 with r2 | r2
 ·obtain ⟨bs,rb⟩:=xq I _ y u (by simpa [Zw] using c2) r2 ry
  exact SeqAt.notIn_list_reads rb ra c2 c1 (by omega) ⟨.bl _,H,I,rfl,q⟩
 ·obtain ⟨bs,rb⟩:=xq I _ y u (by simpa [Zw] using c2) r2 ry
  exact SeqAt.notIn_tuple_reads rb ra c2 c1 (by omega) ⟨.bl _,H,I,rfl,q⟩
theorem Cz{x:YX}{ys:List YX}(h:Cr x ys=true):x.canLay0=true/\Zg ys=true/\min (Zs ys) x.depth<=60:=by
 simp only [Cr,Zn,decide_eq_true_eq] at h
 exact ⟨h.1.1,h.1.2,h.2⟩
theorem Xa:Gc (RR false) W0 true:=by
 intro H₀ Hs H l m x y d v u Q s0 s1 e rx ry q
 unfold W0 at e
 cases hb:Ep x y with
 | none=>rw [hb] at e;cases e
 | some k=>
  rw [hb] at e
  cases e
  unfold Ep at hb
  split at hb
  ·split at hb
   ·rename_i hk
    cases hb
    obtain ⟨c1,c2,hd⟩:=Cz hk
    exact ⟨_,_,_,_,rx,.inr ry,c1,c2,hd,q _ H (Same.refl H) rfl⟩
   ·cases hb
  ·split at hb
   ·rename_i hk
    cases hb
    obtain ⟨c1,c2,hd⟩:=Cz hk
    exact ⟨_,_,_,_,rx,.inl ry,c1,c2,hd,q _ H (Same.refl H) rfl⟩
   ·cases hb
  ·cases hb
theorem OF:Gc (RR true) m8 true:=by
 intro H₀ Hs H l m x y d v u Q s0 s1 e rx ry q
 unfold m8 at e
 cases hb:Ep x y with
 | none=>rw [hb] at e;cases e
 | some k=>
  rw [hb] at e
  cases e
  unfold Ep at hb
  split at hb
  ·split at hb
   ·rename_i hk
    cases hb
    obtain ⟨c1,c2,hd⟩:=Cz hk
    exact ⟨_,_,_,_,rx,.inr ry,c1,c2,hd,q _ H (Same.refl H) rfl⟩
   ·cases hb
  ·split at hb
   ·rename_i hk
    cases hb
    obtain ⟨c1,c2,hd⟩:=Cz hk
    exact ⟨_,_,_,_,rx,.inl ry,c1,c2,hd,q _ H (Same.refl H) rfl⟩
   ·cases hb
  ·cases hb
theorem LL{g:Int->Int->Bool}{f:YX->YX->Option YX}(hf:∀ x y d,f x y=YW d->∃ i j,x= .int i/\y= .int j/\d= .bool (g i j)):Gc (Rz λi j=>.bl (g i j)) f true:=by
 intro H₀ Hs H l m x y d v u Q s0 s1 e rx ry q
 obtain ⟨i,j,rfl,rfl,rfl⟩:=hf x y d e
 cases (show v= .int i from rx);cases (show u= .int j from ry)
 exact ⟨i,j,rfl,rfl,q _ H (Same.refl H) rfl⟩
theorem W4:Gc (Rz λi j=>.bl (decide (i < j))) Ih true:=LL λx y d e=>by unfold Ih at e;split at e<;>first | (cases e;exact ⟨_,_,rfl,rfl,rfl⟩) | cases e
theorem Ww:Gc (Rz λi j=>.bl (decide (j < i))) Vz true:=LL λx y d e=>by unfold Vz at e;split at e<;>first | (cases e;exact ⟨_,_,rfl,rfl,rfl⟩) | cases e
theorem JV{P:PP}{H:Hp}:∀ {x:YX} {v:V},Rep P H x v->decide (v= .non)=Dg x
 | .none,_,h=>by cases (show _=_ from h);rfl
 | .bool _,_,h=>by cases (show _=_ from h);rfl
 | .int _,_,h=>by cases (show _=_ from h);rfl
 | .str _,_,h=>by cases (show _=_ from h);rfl
 | .tuple _,_,⟨_,_,e,_⟩=>by subst e;rfl
 | .list _,_,⟨_,_,e,_⟩=>by subst e;rfl
 | .dict _,_,⟨_,_,e⟩=>by subst e;rfl
theorem Gw{y:YX}(h:Dg y=true):y= .none:=by cases y<;>first | rfl | cases h
theorem TX:Gc (λx y H Q=>y= .non/\Q (.bl (decide (x= .non))) H) Ot true:=by
 intro H₀ Hs H l m x y d v u Q s0 s1 e rx ry q
 unfold Ot at e
 split at e
 ·rename_i hn
  cases Gw hn
  cases e
  exact ⟨ry,q _ H (Same.refl H) (by rw [JV rx];rfl)⟩
 ·cases e
theorem S1:Gc (λx y H Q=>y= .non/\Q (.bl (!decide (x= .non))) H) Io true:=by
 intro H₀ Hs H l m x y d v u Q s0 s1 e rx ry q
 unfold Io at e
 split at e
 ·rename_i hn
  cases Gw hn
  cases e
  exact ⟨ry,q _ H (Same.refl H) (by rw [JV rx];rfl)⟩
 ·cases e
theorem Co{op:CmpOp}{r:R2}{f:YX->YX->Option YX}{fr:Bool}(ho:OpR X (aL op) r)(hd:Gc r f fr)(ha:PE X a (tF XO fa))(hb:PE X b (tF XO fb))(hm:dR op b=false):PT X (.Compare a [op] [b] pos) (ku (tF XO (e2 f fr fa fb))):=
 PT.imp (MD ho ha hb hm) λ_ _ _ h=>Ef hd h
theorem Au(C:BC X)(ha:PE X a (tF XO fa))(hb:PE X b (tF XO fb)):PE X (.Compare a [.Eq] [b] pos) (tF XO (qx fa fb)):=Xi (op_eq.or (OR C.hu)) Tj ha hb (A3 _)
theorem yb(C:BC X)(ha:PE X a (tF XO fa))(hb:PE X b (tF XO fb)):PT X (.Compare a [.Eq] [b] pos) (ku (tF XO (qx fa fb))):=Co (op_eq.or (OR C.hu)) Tj ha hb (A3 _)
theorem N4(C:BC X)(ha:PE X a (tF XO fa))(hb:PE X b (tF XO fb)):PT X (.Compare a [.NotEq] [b] pos) (ku (tF XO (An fa fb))):=Co (op_ne.or (Vg C.hu)) W2 ha hb (A3 _)
theorem Yp(C:BC X)(ha:PE X a (tF XO fa))(hb:PE X b (tF XO fb))(hm:dR .In b=false:=by rfl):PT X (.Compare a [.In] [b] pos) (ku (tF XO (Kj fa fb))):=Co (Uy C.hu) Xa ha hb hm
theorem BP(C:BC X)(ha:PE X a (tF XO fa))(hb:PE X b (tF XO fb))(hm:dR .NotIn b=false:=by rfl):PT X (.Compare a [.NotIn] [b] pos) (ku (tF XO (yf fa fb))):=Co (Oa C.hu) OF ha hb hm
theorem Kq(C:BC X)(ha:PE X a (tF XO fa))(hb:PE X b (tF XO fb)):PT X (.Compare a [.Lt] [b] pos) (ku (tF XO (pq fa fb))):=Co Wd W4 ha hb (A3 _)
theorem VQ(C:BC X)(ha:PE X a (tF XO fa))(hb:PE X b (tF XO fb)):PT X (.Compare a [.Gt] [b] pos) (ku (tF XO (FA fa fb))):=Co WR Ww ha hb (A3 _)
theorem WK(C:BC X)(ha:PE X a (tF XO fa))(hb:PE X b (tF XO fb)):PT X (.Compare a [.Is] [b] pos) (ku (tF XO (Sn fa fb))):=Co Vd TX ha hb (A3 _)
theorem UF(C:BC X)(ha:PE X a (tF XO fa))(hb:PE X b (tF XO fb)):PT X (.Compare a [.IsNot] [b] pos) (ku (tF XO (JR fa fb))):=Co R6 S1 ha hb (A3 _)
theorem Bs{op:BoolOp}(ha:PE X a (tF XO fa)):PE X (.BoolOp op [a] pos) (tF XO fa):=Vj ha
theorem EI{rest:List ZY}(ha:PE X a (tF XO fa))(hb:PE X (.BoolOp .And (b::rest) pos) (tF XO fb)):PE X (.BoolOp .And (a::b::rest) pos) (tF XO (yv fa fb)):=
 PE.imp (Ut ha hb) λσ H Q ⟨H₀,Hs,ρ,r,g,e,kk⟩=>g9 g e kk λl x v H1 s1 g1 r1 e1 k1=>by
  split at e1
  ·exact ⟨true,r1,L2.Jf (⟨H₀,Hs,ρ,r,g1,e1,k1⟩)⟩
  ·exact ⟨false,r1,L2.Jk (k1.give e1 (Same.refl _) rfl)⟩
  ·cases e1
theorem QN{rest:List ZY}(ha:PE X a (tF XO fa))(hb:PE X (.BoolOp .Or (b::rest) pos) (tF XO fb)):PE X (.BoolOp .Or (a::b::rest) pos) (tF XO (o7 fa fb)):=
 PE.imp (WY ha hb) λσ H Q ⟨H₀,Hs,ρ,r,g,e,kk⟩=>g9 g e kk λl x v H1 s1 g1 r1 e1 k1=>by
  split at e1
  ·exact ⟨true,r1,L2.Jf (k1.give e1 (Same.refl _) rfl)⟩
  ·exact ⟨false,r1,L2.Jk (⟨H₀,Hs,ρ,r,g1,e1,k1⟩)⟩
  ·cases e1
theorem WE(ha:PE X a (tF XO fa)):PE X (.UnaryOp .Not a pos) (tF XO (Aw fa)):=
 PE.imp (Uj ha) λσ H Q ⟨H₀,Hs,ρ,r,g,e,kk⟩=>g9 g e kk λl x v H1 s1 g1 r1 e1 k1=>by
  split at e1
  ·exact ⟨_,r1,k1.give e1 (Same.refl _) rfl⟩
  ·cases e1
theorem C4{cc:ZY}(hc:PT X cc (ku (tF XO fc)))(ha:PE X a (tF XO fa))(hb:PE X b (tF XO fb)):PE X (.IfExp cc a b pos) (tF XO (Ag fc fa fb)):=
 PE.imp (JQ hc ha hb) λσ H Q ⟨H₀,Hs,ρ,r,g,e,kk⟩=>g9 g e kk λl x v H1 s1 g1 r1 e1 k1=>by
  split at e1
  ·exact ⟨true,r1,L2.Jf (⟨H₀,Hs,ρ,r,g1,e1,k1⟩)⟩
  ·exact ⟨false,r1,L2.Jk (⟨H₀,Hs,ρ,r,g1,e1,k1⟩)⟩
  ·cases e1
theorem Aq(ha:PE X a (tF XO fa))(he:∀ whole,isTrue a X.env whole=(do let v <- whole;standAt a.pos;holding [v] (truthy v)):=by intro _;rfl):PT X a (ku (tF XO fa)):=Vv ha he
theorem Xf(ha:PT X a (ku (tF XO fa))):PT X (.UnaryOp .Not a pos) (ku (tF XO (Aw fa))):=
 PT.imp (Vf ha) λσ H Q ⟨H₀,Hs,ρ,r,g,e,kk⟩=>g9 g e kk λl x v H1 s1 g1 r1 e1 k1=>by
  split at e1
  ·obtain ⟨z,hz,q⟩:=k1.give e1 (Same.refl _) (v:=.bl _) rfl
   cases hz
   exact ⟨_,r1,q⟩
  ·cases e1
theorem o9(ha:PT X a (ku (tF XO fa))):PW X (.BoolOp .And [a] pos) (ku (tF XO fa)):=RT ha
theorem Hl(ha:PT X a (ku (tF XO fa))):PW X (.BoolOp .Or [a] pos) (ku (tF XO fa)):=Ud ha
theorem PW.imp{e:ZY}{t t':TT}(h:PW X e t)(f:∀ σ H Q,t' σ H Q->t σ H Q):PW X e t':=λwhole lh s σ H Q I q=>h whole lh s σ H Q I (f σ H Q q)
theorem D6{rest:List ZY}(ha:PT X a (ku (tF XO fa)))(hb:PW X (.BoolOp .And (b::rest) pos) (ku (tF XO fb))):PW X (.BoolOp .And (a::b::rest) pos) (ku (tF XO (yv fa fb))):=
 PW.imp (Vl ha hb) λσ H Q ⟨H₀,Hs,ρ,r,g,e,kk⟩=>g9 g e kk λl x v H1 s1 g1 r1 e1 k1=>by
  split at e1
  ·exact ⟨true,r1,L2.Jf (⟨H₀,Hs,ρ,r,g1,e1,k1⟩)⟩
  ·obtain ⟨z,hz,q⟩:=k1.give e1 (Same.refl _) (v:=.bl _) rfl
   cases hz
   exact ⟨false,r1,L2.Jk (q)⟩
  ·cases e1
theorem RW{rest:List ZY}(ha:PT X a (ku (tF XO fa)))(hb:PW X (.BoolOp .Or (b::rest) pos) (ku (tF XO fb))):PW X (.BoolOp .Or (a::b::rest) pos) (ku (tF XO (o7 fa fb))):=
 PW.imp (VL ha hb) λσ H Q ⟨H₀,Hs,ρ,r,g,e,kk⟩=>g9 g e kk λl x v H1 s1 g1 r1 e1 k1=>by
  split at e1
  ·obtain ⟨z,hz,q⟩:=k1.give e1 (Same.refl _) (v:=.bl _) rfl
   cases hz
   exact ⟨true,r1,L2.Jf (q)⟩
  ·exact ⟨false,r1,L2.Jk (⟨H₀,Hs,ρ,r,g1,e1,k1⟩)⟩
  ·cases e1
end
noncomputable def MJ:ZY->Bool
 | .Starred _ _=>false
 | _=>true
theorem jf{e:ZY}{es:List ZY}{env:Env}(h:MJ e=true):Zf (e::es) env=(false,bB e env)::Zf es env:=by
 cases e<;>first | cases h;done | (rw [Zf];intro _ _ z;cases z)
theorem ym{pos:eE}{env:Env}:∀ {es:List ZY},es.all MJ=true->(aF pos (Zf es env)).any (·.1)=false
 | [],_=>by simp [Zf,aF]
 | e::es,h=>by
  rw [List.all_cons,Zn] at h
  rw [jf h.1]
  show (false || (aF pos (Zf es env)).any (·.1))=false
  rw [ym h.2]
  rfl
section
variable{X:Cx}{XO:XOT}{a b c e:ZY}{es:List ZY}{fa fb fc f:FE}{fs:List FE}{pos:eE}
noncomputable def KI(XO:XOT)(H₀ Hs:Hp)(σ:L2.St)(H:Hp)(Q:List V->Hp->Prop)(r:RI):Prop:=
 (∀ l ds vs H',r= .ok l ds->Same H H'->Reps (PL H₀ Hs l) H' ds vs->Q vs H')/\∀ c H',r= .exc c->Same H H'->XO.f c σ H'
noncomputable def QE(XO:XOT)(fs:List FE):TA:=λσ H Q=>∃ H₀ Hs ρ r,G XO.cv H₀ Hs ρ σ H/\zq fs ρ=YW r/\KI XO H₀ Hs σ H Q r
theorem PA.imp{t t':TA}(h:PA X es t)(g:∀ σ H Q,t' σ H Q->t σ H Q):PA X es t':=λpos lh s σ H Q I q=>h pos lh s σ H Q I (g σ H Q q)
theorem zi:PA X [] (QE XO []):=PA.imp xo λσ H Q ⟨H₀,Hs,ρ,r,g,e,k⟩=>by
 cases e
 exact k.1 2 [] [] H rfl (Same.refl H) rfl
theorem Rep.low{H₀ Hs H:Hp}(s:Same H₀ Hs){l m:Nat}(h:l<=m){d:YX}{v:V}(r:Rep (PL H₀ Hs m) H d v):Rep (PL H₀ Hs l) H d v:=r.imp λ_ _ p=>PL.le s h p
theorem Reps.low{H₀ Hs H:Hp}(s:Same H₀ Hs){l m:Nat}(h:l<=m){d:List YX}{v:List V}(r:Reps (PL H₀ Hs m) H d v):Reps (PL H₀ Hs l) H d v:=r.imp λ_ _ p=>PL.le s h p
theorem zc(ha:PE X e (tF XO f))(hr:PA X es (QE XO fs))(hs:Zf (e::es) X.env=(false,bB e X.env)::Zf es X.env:=by exact jf rfl):PA X (e::es) (QE XO (f::fs)):=
 PA.imp (wy ha hr hs) λσ H Q ⟨H₀,Hs,ρ,r,g,e,k⟩=>by
  unfold zq at e
  cases hf:f ρ with
  | none=>rw [hf] at e;cases e
  | some x=>
   rw [hf] at e
   cases x with
   | exc c=>
    cases e
    exact ⟨H₀,Hs,ρ,.exc c,g,hf,⟨λl d v H' e=>(nomatch e),λc' H' e' s=>k.2 c' H' (by cases e';rfl) s⟩⟩
   | ok l d=>
    refine ⟨H₀,Hs,ρ,.ok l d,g,hf,⟨λl' d' v H1 e' s1 r1=>?_,λc H' e=>(nomatch e)⟩⟩
    cases e'
    dsimp only at e
    cases ht:zq fs ρ with
    | none=>rw [ht] at e;cases e
    | some y=>
     rw [ht] at e
     cases y with
     | exc c=>
      cases e
      exact ⟨H₀,Hs,ρ,.exc c,g.same s1,ht,⟨λl d v H' e=>(nomatch e),λc' H' e' s=>k.2 c' H' (by cases e';rfl) (s1.trans s)⟩⟩
     | ok m ds=>
      cases e
      refine ⟨H₀,Hs,ρ,.ok m ds,g.same s1,ht,⟨λm' ds' vs H2 e' s2 r2=>?_,λc H' e=>(nomatch e)⟩⟩
      cases e'
      exact k.1 _ _ (v::vs) H2 rfl (s1.trans s2) ⟨v,vs,rfl,(r1.same s2).low g.s0 (Nat.min_le_left _ _),r2.low g.s0 (Nat.min_le_right _ _)⟩
theorem G8:∀ {fs:List FE} {ρ:f9} {l:Nat} {ds:List YX},zq fs ρ=YW (.ok l ds)->ds.length=fs.length
 | [],_,_,_,e=>by cases e;rfl
 | f::fs,ρ,l,ds,e=>by
  unfold zq at e
  cases hf:f ρ with
  | none=>rw [hf] at e;cases e
  | some x=>
   rw [hf] at e
   cases x with
   | exc c=>cases e
   | ok l d=>
    dsimp only at e
    cases ht:zq fs ρ with
    | none=>rw [ht] at e;cases e
    | some y=>
     rw [ht] at e
     cases y with
     | exc c=>cases e
     | ok m ds'=>cases e;simp [G8 ht]
theorem Ct{H₀ Hs:Hp}{ρ:f9}{σ:L2.St}{H:Hp}{Q:VK}{Q':List V->Hp->Prop}{k:Nat->List YX->Option RE}{r:RE}(g:G XO.cv H₀ Hs ρ σ H)(e:zt (zq fs ρ) k=YW r)(kk:KK XO H₀ Hs σ H Q r)
  (cont:∀ l ds vs H1,Same H H1->G XO.cv H₀ Hs ρ σ H1->Reps (PL H₀ Hs l) H1 ds vs->ds.length=fs.length->k l ds=YW r->KK XO H₀ Hs σ H1 Q r->Q' vs H1):QE XO fs σ H Q':=by
 cases h:zq fs ρ with
 | none=>rw [h] at e;cases e
 | some x=>
  rw [h] at e
  cases x with
  | exc c=>
   cases (ZS e)
   exact ⟨H₀,Hs,ρ,.exc c,g,h,⟨λl d v H' e=>(nomatch e),λc' H' e' s=>kk.2 c' H' (by cases e';rfl) s⟩⟩
  | ok l ds=>
   refine ⟨H₀,Hs,ρ,.ok l ds,g,h,⟨λl' d' v H' e' s rp=>?_,λc H' e=>(nomatch e)⟩⟩
   cases e'
   exact cont l ds v H' s (g.same s) rp (G8 h) e (kk.same s)
theorem qg{x1}(h:PA X es (QE XO fs))(hl:Nat.ble fs.length 1000=true:=by rfl):PE X (.Tuple es x1 pos) (tF XO (zv fs)):=
 PE.imp (Us h) λσ H Q ⟨H₀,Hs,ρ,r,g,e,kk⟩=>Ct g e kk λl ds vs H1 s1 g1 r1 hn e1 k1=>by
  have hz:vs.length<=Zx:=by
   rw [r1.length,hn]
   exact Zo (Nat.le_of_ble_eq_true hl) (by decide)
  exact ⟨hz,λp hp=>k1.give e1 (qp hp _) ⟨p,vs,rfl,(.inl qr),r1.same (qp hp _)⟩⟩
theorem vj(h:PA X es (QE XO fs))(hl:Nat.ble fs.length 1000=true:=by rfl):PE X (.List es pos) (tF XO (qv fs)):=
 PE.imp (Qu h) λσ H Q ⟨H₀,Hs,ρ,r,g,e,kk⟩=>Ct g e kk λl ds vs H1 s1 g1 r1 hn e1 k1=>by
  have hz:vs.length<=Zx:=by
   rw [r1.length,hn]
   exact Zo (Nat.le_of_ble_eq_true hl) (by decide)
  refine ⟨hz,λp hp=>?_⟩
  split at e1
  ·rename_i f1
   exact k1.give e1 (qp hp _) ⟨p,vs,rfl,.inl ⟨⟨rfl,g1.s1.free hp⟩,qr⟩,(r1.nl f1).same (qp hp _)⟩
  ·cases e1
theorem Ur{α:Type}(xs:List α)(i:Int):vg xs i=atI xs i:=rfl
theorem Reps.atI{P:PP}{H:Hp}{ds:List YX}{vs:List V}{i:Int}{d:YX}(r:Reps P H ds vs)(h:vg ds i=YW d):∃ v,L2.atI vs i=YW v/\Rep P H d v:=by
 rw [Ur] at h
 unfold L2.atI at h ⊢
 rw [r.length]
 cases q:Vx ds.length i with
 | none=>rw [q] at h;cases h
 | some j=>
  rw [q] at h
  exact r.get h
theorem Wm{K:Zb}:Gc (Yh K) xr false:=by
 intro H₀ Hs H l m x y d v u Q s0 s1 e rx ry q
 unfold xr at e
 split at e
 ·rename_i xs i
  obtain ⟨pa,vs,rfl,ha,ra⟩:=rx
  cases (show u= .int i from ry)
  obtain ⟨z,hz,rz⟩:=ra.atI e
  exact .inr (.inl ⟨pa,vs,i,z,rfl,rfl,.inl ha,hz,q z H (Same.refl H) (rz.low s0 (Nat.min_le_left _ _))⟩)
 ·rename_i xs i
  obtain ⟨pa,vs,rfl,ha,ra⟩:=rx
  cases (show u= .int i from ry)
  obtain ⟨z,hz,rz⟩:=ra.atI e
  exact .inl ⟨pa,vs,i,z,rfl,rfl,.inl ha.rd,hz,q z H (Same.refl H) (rz.low s0 (Nat.min_le_left _ _))⟩
 ·rename_i z i
  split at e
  ·rename_i hz
   cases (show v= .str z from rx)
   cases (show u= .int i from ry)
   cases hc:vg z.cps.toList i with
   | none=>rw [hc] at e;cases e
   | some c=>
    rw [hc] at e
    cases e
    exact .inr (.inr ⟨z,i,c,rfl,rfl,iy hz,hc,q _ H (Same.refl H) rfl⟩)
  ·cases e
 ·cases e
theorem qd(ha:PE X a (tF XO fa))(hb:PE X b (tF XO fb))(hs:DW b:=by exact λ_ _=>rfl):PE X (.Subscript a b pos) (tF XO (z9 fa fb)):=XX Li Wm ha hb hs
noncomputable def tO(XO:XOT)(f:FO):TO:=λσ H Q=>∃ H₀ Hs ρ r,G XO.cv H₀ Hs ρ σ H/\f ρ=YW r/\(∀ i H',r= .ok i->Same H H'->Q i H')/\∀ c H',r= .exc c->Same H H'->XO.f c σ H'
theorem PO.imp{o:Option ZY}{t t':TO}(h:PO X o t)(g:∀ σ H Q,t' σ H Q->t σ H Q):PO X o t':=λlh s σ H Q I q=>h lh s σ H Q I (g σ H Q q)
theorem OX:PO X YY (tO XO D5):=PO.imp RN λσ H Q ⟨H₀,Hs,ρ,r,g,e,k,_⟩=>by
 cases e
 exact k YY H rfl (Same.refl H)
theorem Pe(h:PE X a (tF XO fa)):PO X (YW a) (tO XO (BQ fa)):=PO.imp (Si h) λσ H Q ⟨H₀,Hs,ρ,r,g,e,k,kx⟩=>by
 unfold BQ at e
 split at e
 ·rename_i l i hf
  cases e
  refine ⟨H₀,Hs,ρ,_,g,hf,⟨λl' d' v H' e' s rp=>?_,λc H' e=>(nomatch e)⟩⟩
  cases e'
  exact ⟨i,rp,k _ H' rfl s⟩
 ·rename_i c hf
  cases e
  exact ⟨H₀,Hs,ρ,_,g,hf,⟨λl d v H' e=>(nomatch e),λc' H' e' s=>kx c' H' (by cases e';rfl) s⟩⟩
 ·cases e
theorem Px(n d:Nat)(o:Option Int):V2 n d o=HT.sIx n d o:=by
 cases o with
 | none=>rfl
 | some v=>
  have h:=HT.clip_eq v n d
  show (if v < 0 then (v+n).toNat else min v.toNat n)=HT.sIx n d (YW v)
  by_cases hv:v < 0
  ·rw [jn hv] at h ⊢
   omega
  ·rw [qz hv] at h ⊢
   omega
theorem HE{P:PP}{H:Hp}{ds:List YX}{vs:List V}(r:Reps P H ds vs)(lo hi:Option Int):Reps P H (L6 ds lo hi) (GP vs lo hi):=by
 unfold L6 GP
 rw [Px,Px,r.length]
 exact (r.drop _).take _
theorem Cd{prog:Z8}{w:ZN}{A:aC}{E:YZ->Zd->Prop}{s:Zd}{t sl:Zh}{items:Array YZ}{vl vu:YZ}{lo hi:Option Int}{Q:YZ->Zd->Prop}(ht:IsTup s.heap t items)(hs:s.heap.IsSliceOf sl vl vu .none)(pl:jA vl lo)(pu:jA vu hi)
  (h1:HT.sIx items.size 0 lo=0) (h2:HT.sIx items.size items.size hi=items.size) (h:Q (.ref t) s):Z0 (ZD prog w) A (getItem (.ref t) (.ref sl)) Q E s:=by
 obtain ⟨os,hos,hcs,hds⟩:=id hs
 have hTs:s.TypeIs (.ref sl) "slice":=⟨os,hos,hcs⟩
 obtain ⟨ot,hot,hct,nt,hdt⟩:=id ht
 unfold getItem
 try with_reducible refine dU ?_
 first | refine Zc (Zr ?_) | skip
 refine Zc (wpAny_sequenceKey ht.typeIs (by decide) ?_)
 refine Zc (bG (name:=fK "__getitem__") ht.typeIs aI
  (cL aI ht.typeIs entry_tuple_getitem ?_ (args_tuple_getitem _ _)))
 show Z0 _ _ (eY (.ref t) >>= _) _ _ s
 refine Zc (tupleItemsOf_ ht ?_)
 refine Zc (wpAny_typeOf hTs ?_)
 rw [jn (by decide)]
 refine Zc (HT.sliceApplied_gen hs pl pu ?_)
 rw [h1,h2]
 show Z0 _ _ (if (((0:Nat):Int) == 0 && (1:Int) == 1 && (items.size - 0) == items.size)=true then (aT.Tuple.tupleIsExact (.ref t) >>= _) else _) _ _ s
 rw [jn (by simp)]
 refine Zc ?_
 unfold aT.Tuple.tupleIsExact
 refine Zc (wpAny_typeOf ht.typeIs (Zr ?_))
 rw [jn (by decide)]
 exact Zc (wpAny_rule (Zr ⟨_,rfl,Zr h⟩))
noncomputable def Yc(K:Zb):V->Option Int->Option Int->Hp->VK->Prop:=λx lo hi H Q=>∃ a xs,x= .ref a/\Di K H a xs/\HT.sIx xs.length 0 lo=0/\HT.sIx xs.length xs.length hi=xs.length/\Q (.ref a) H
theorem sl_all:SlR X (Yc X.K):=by
 intro lh s σ H x v vl vu lo hi sl Q I rx hs pl pu h
 obtain ⟨a,xs,rfl,hx,h1,h2,q⟩:=h
 cases rx
 obtain ⟨its,r,ht,hz⟩:=I.tuple hx
 have lq:its.toArray.size=xs.length:=by rw [Zl];exact r.length.symm
 exact ⟨"tuple",_,aI.lookup,ht.typeIs,Cd ht hs pl pu (by rw [lq];exact h1) (by rw [lq];exact h2) ⟨.ref a,H,I,rfl,q⟩⟩
theorem WC{lo hi:Option ZY}{flo fhi:FO}{p2:eE}(ha:PE X a (tF XO fa))(hl:PO X lo (tO XO flo))(hh:PO X hi (tO XO fhi)):PE X (.Subscript a (.Slice lo hi YY p2) pos) (tF XO (Tz fa flo fhi)):=
 PE.imp (OV (sl_all.or (sl_tup.or Rw)) ha hl hh) λσ H Q ⟨H₀,Hs,ρ,r,g,e,kk⟩=>g9 g e kk λl x v H1 s1 g1 r1 e1 k1=>by
  split at e1
  ·rename_i lo' hlo
   refine ⟨H₀,Hs,ρ,_,g1,hlo,λi H2 ei s2=>?_,λc H' e=>(nomatch e)⟩
   cases ei
   split at e1
   ·rename_i hi' hhi
    refine ⟨H₀,Hs,ρ,_,g1.same s2,hhi,λj H3 ej s3=>?_,λc H' e=>(nomatch e)⟩
    cases ej
    have r3:=r1.same (s2.trans s3)
    have k3:=k1.same (s2.trans s3)
    have g3:=g1.same (s2.trans s3)
    cases hd:Vy lo' hi' x with
    | none=>rw [hd] at e1;cases e1
    | some d=>
     rw [hd] at e1
     unfold Vy at hd
     split at hd
     ·split at hd
      ·rename_i f1
       cases hd
       obtain ⟨pa,vs,rfl,hp,ra⟩:=r3
       by_cases hw:HT.sIx vs.length 0 lo'=0/\HT.sIx vs.length vs.length hi'=vs.length
       ·refine .inl ⟨pa,vs,rfl,.inl hp,hw.1,hw.2,k3.give e1 (Same.refl _) ⟨pa,vs,rfl,hp,?_⟩⟩
        have hc:=HE (ra.nl (P':=PL H₀ Hs 2) f1) lo' hi'
        unfold GP at hc
        rw [hw.1,hw.2,Nat.sub_zero,List.drop_zero,List.take_length] at hc
        exact hc
       ·refine .inr (.inl ⟨pa,vs,rfl,.inl hp,hw,λp hpn=>?_⟩)
        exact k3.give e1 (qp hpn _) ⟨p,_,rfl,(.inl qr),(HE (ra.nl f1) _ _).same (qp hpn _)⟩
      ·cases hd
     ·split at hd
      ·rename_i f1
       cases hd
       obtain ⟨pa,vs,rfl,hp,ra⟩:=r3
       refine .inr (.inr ⟨pa,vs,rfl,.inl hp.rd,λp hpn=>?_⟩)
       exact k3.give e1 (qp hpn _) ⟨p,_,rfl,.inl ⟨⟨rfl,g3.s1.free hpn⟩,qr⟩,(HE (ra.nl f1) _ _).same (qp hpn _)⟩
      ·cases hd
     ·cases hd
   ·rename_i c hhi
    cases e1
    exact ⟨H₀,Hs,ρ,_,g1.same s2,hhi,λj H3 ej s3=>(nomatch ej),λc' H' e' s=>k1.2 c' H' (by cases e';rfl) (s2.trans s)⟩
   ·cases e1
  ·rename_i c hlo
   cases e1
   exact ⟨H₀,Hs,ρ,_,g1,hlo,λj H3 ej s3=>(nomatch ej),λc' H' e' s=>k1.2 c' H' (by cases e';rfl) s⟩
  ·cases e1
end
abbrev Fd:=Zh->Option Nat
structure Cfg where
 cv:Nat->YZ
 n:Nat
 lend:Zh
inductive OwV where
 | l (vs:List V) | k (kvs:List (i4×V)) | n (ks:List YX)
noncomputable def OwV.ho:OwV->HO
 | .l vs=>.lst vs
 | .k kvs=>.dK kvs
 | .n ks=>.dN ks
theorem B5{H:Hp}{p a:Zh}{o:HO}{o0:OwV}{xs:List V}(hp:H p=YW o0.ho)(h:Rd H a (.tup xs)):Rd (upd H p o) a (.tup xs):=by
 have hne:a≠p:=by
  intro z;subst z
  rcases h with h | ⟨_,h⟩<;>(rw [hp] at h;cases o0<;>cases h)
 rcases h with h | ⟨q,h⟩
 ·exact .inl (by rw [qb hne];exact h)
 ·exact .inr ⟨q,by rw [qb hne];exact h⟩
theorem DR.ow{H:Hp}{ks:List YX}{a:Zh}(h:DR H ks a):∃ vs:OwV,H a=YW vs.ho:=by
 rcases h with ⟨is,e,h⟩ | ⟨n,h⟩
 ·exact ⟨.k _,h⟩
 ·exact ⟨.n _,h⟩
noncomputable def SS(cv:Cfg)(H₀:Hp)(O:Fd)(o:Option (Option V))(i:Nat)(H:Hp):Slot->Prop
 | .par d=>∃ v,o=YW (YW v)/\Rep (λ_ a=>O a=YY) H d v
 | .loc d=>∃ v,o=YW (YW v)/\Rep (λz a=>z=false/\O a=YY/\H₀ a=YY) H d v
 | .own ds=>∃ p vs,o=YW (YW (.ref p))/\O p=YW i/\H p=YW (.lst vs)/\Reps (λ_ _=>False) H ds vs
 | .own2 ds=>∃ p vs,o=YW (YW (.ref p))/\O p=YW i/\H p=YW (.lst vs)/\Reps (λz a=>z=false/\O a=YY/\H₀ a=YY) H ds vs
 | .lent ds=>∃ vs,o=YW (YW (.ref cv.lend))/\O cv.lend=YW i/\H cv.lend=YW (.lst vs)/\Reps (λ_ _=>False) H ds vs
 | .dct ks=>∃ a,o=YW (YW (.ref a))/\O a=YW i/\DR H ks a
 | .ex c=>∃ a,o=YW (YW (.ref a))/\XRep cv.cv H c a
structure SO(cv:Cfg)(H₀ F:Hp)(ρ:f9)(σ:L2.St)(H:Hp)(O:Fd):Prop where
 fr:∀ a i,O a=YW i->F a=YY
 ls:∀ a i,O a=YW i->∃ vs:OwV,H a=YW vs.ho
 sl:∀ i t,ρ[i]? =YW (YW t)->SS cv H₀ O σ[i]? i H t
structure SR(cv:Cfg)(H₀ F:Hp)(ρ:f9)(σ:L2.St)(H:Hp):Prop where
 s0:Same H₀ F
 s1:Same F H
 len:ρ.length=cv.n
 ln:σ.length=cv.n
 ex:∃ O,SO cv H₀ F ρ σ H O
theorem SS.same{cv:Cfg}{H₀ H H':Hp}{O:Fd}{o:Option (Option V)}{i:Nat}(s:Same H H'):∀ {t:Slot},SS cv H₀ O o i H t->SS cv H₀ O o i H' t
 | .par _,⟨v,e,h⟩=>⟨v,e,h.same s⟩
 | .loc _,⟨v,e,h⟩=>⟨v,e,h.same s⟩
 | .own _,⟨p,vs,e,q,h,r⟩=>⟨p,vs,e,q,s _ _ h,r.same s⟩
 | .own2 _,⟨p,vs,e,q,h,r⟩=>⟨p,vs,e,q,s _ _ h,r.same s⟩
 | .lent _,⟨vs,e,q,h,r⟩=>⟨vs,e,q,s _ _ h,r.same s⟩
 | .dct _,⟨a,e,q,h⟩=>⟨a,e,q,h.same s⟩
 | .ex _,⟨a,e,h⟩=>⟨a,e,h.same s⟩
theorem SR.same{cv:Cfg}{H₀ F H H':Hp}{ρ:f9}{σ:L2.St}(r:SR cv H₀ F ρ σ H)(s:Same H H'):SR cv H₀ F ρ σ H':=
 ⟨r.s0,r.s1.trans s,r.len,r.ln,let ⟨O,o⟩:=r.ex;⟨O,o.fr,λa i e=>let ⟨vs,q⟩:=o.ls a i e;⟨vs,s _ _ q⟩,λi t e=>(o.sl i t e).same s⟩⟩
theorem SR.g{cv:Cfg}{H₀ F H:Hp}{ρ:f9}{σ:L2.St}(r:SR cv H₀ F ρ σ H):G cv.cv H₀ H ρ σ H:=by
 refine ⟨r.s0.trans r.s1,Same.refl H,λi t e=>?_⟩
 obtain ⟨O,o⟩:=r.ex
 have h:=o.sl i t e
 cases t with
 | par d=>obtain ⟨v,e,q⟩:=h;exact ⟨v,e,q.imp λ_ _ _=>trivial⟩
 | loc d=>obtain ⟨v,e,q⟩:=h;exact ⟨v,e,q.imp λ_ _ p=>⟨p.1,p.2.2⟩⟩
 | own ds=>
  obtain ⟨p,vs,e,q,h,rs⟩:=h
  exact ⟨.ref p,e,p,vs,rfl,.inl ⟨⟨rfl,r.s0.free (o.fr p i q)⟩,h⟩,rs.imp λ_ _ z=>z.elim⟩
 | own2 ds=>
  obtain ⟨p,vs,e,q,h,rs⟩:=h
  exact ⟨.ref p,e,p,vs,rfl,.inl ⟨⟨rfl,r.s0.free (o.fr p i q)⟩,h⟩,rs.imp λ_ _ z=>⟨z.1,z.2.2⟩⟩
 | lent ds=>
  obtain ⟨vs,e,q,h,rs⟩:=h
  exact ⟨.ref cv.lend,e,_,vs,rfl,.inl ⟨⟨rfl,r.s0.free (o.fr _ i q)⟩,h⟩,rs.imp λ_ _ z=>z.elim⟩
 | dct ks=>obtain ⟨a,e,q,h⟩:=h;exact ⟨a,e,h⟩
 | ex c=>exact h
noncomputable def KS(cv:Cfg)(XO:F7)(H₀ F:Hp)(D:Ends)(r:RS):Prop:=
 match r with
 | .next ρ'=>∀ σ' H',SR cv H₀ F ρ' σ' H'->D.nx σ' H'
 | .ret d=>∀ v H',Same F H'->Rep (λz a=>z=false/\H₀ a=YY) H' d v->D.rt v H'
 | .exc c ρ'=>∀ σ' H',SR cv H₀ F ρ' σ' H'->XO c σ' H'
 | .brk ρ'=>∀ σ' H',SR cv H₀ F ρ' σ' H'->D.bk σ' H'
 | .cont ρ'=>∀ σ' H',SR cv H₀ F ρ' σ' H'->D.ct σ' H'
 | .retL d ds=>∀ v H',Same F H'->Rep (λ_ a=>a≠cv.lend) H' d v->(∃ vs,H' cv.lend=YW (.lst vs)/\Reps (λ_ _=>False) H' ds vs)->D.rt v H'
noncomputable def tS(cv:Cfg)(XO:F7)(f:FS):TS:=λD σ H=>∃ H₀ F ρ r,SR cv H₀ F ρ σ H/\f ρ=YW r/\KS cv XO H₀ F D r
section
variable{X:Cx}{XO:F7}{cv:Cfg}{e:ZY}{f fa fb:FE}{st:aG}{rest sa sb:List aG}{a b:FS}{pos:eE}
theorem PSs.imp{sts:List aG}{t t':TS}(h:PSs X sts t)(g:∀ D σ H,t' D σ H->t D σ H):PSs X sts t':=λlh s σ H D I q=>h lh s σ H D I (g D σ H q)
theorem bp{H₀ F:Hp}{ρ:f9}{σ:L2.St}{H:Hp}{D:Ends}{Q:VK}{k:Nat->YX->Option RS}{r:RS}(g:SR cv H₀ F ρ σ H)(e:zk (f ρ) ρ k=YW r)(kk:KS cv XO H₀ F D r)
  (cont:∀ l d v H1,Same H H1->Rep (PL H₀ H l) H1 d v->k l d=YW r->Q v H1):tF ⟨cv.cv,XO⟩ f σ H Q:=by
 cases h:f ρ with
 | none=>rw [h] at e;cases e
 | some x=>
  rw [h] at e
  cases x with
  | exc c=>
   cases (ZS e)
   refine ⟨H₀,H,ρ,.exc c,g.g,h,⟨λl d v H' e=>(nomatch e),λc' H' e' s=>?_⟩⟩
   cases e'
   exact kk σ H' (g.same s)
  | ok l d=>
   refine ⟨H₀,H,ρ,.ok l d,g.g,h,⟨λl' d' v H' e' s rp=>?_,λc H' e=>(nomatch e)⟩⟩
   cases e'
   exact cont l d v H' s rp e
theorem qw:PSs X [] (tS cv XO zl):=PSs.imp SF λD σ H ⟨H₀,F,ρ,r,g,e,k⟩=>by
 cases e
 exact k σ H g
theorem zu(h:PS X st (tS cv XO a)):PSs X [st] (tS cv XO a):=RM h
theorem ze(h:PS X st (tS cv XO a))(t:PSs X rest (tS cv XO b)):PSs X (st::rest) (tS cv XO (zd a b)):=PSs.imp (OD h t) λD σ H ⟨H₀,F,ρ,r,g,e,k⟩=>by
 unfold zd at e
 cases ha:a ρ with
 | none=>rw [ha] at e;cases e
 | some x=>
  rw [ha] at e
  cases x with
  | next ρ'=>exact ⟨H₀,F,ρ,.next ρ',g,ha,λσ' H' g'=>⟨H₀,F,ρ',r,g',e,k⟩⟩
  | ret d=>cases e;exact ⟨H₀,F,ρ,.ret d,g,ha,k⟩
  | exc c ρ'=>cases e;exact ⟨H₀,F,ρ,.exc c ρ',g,ha,k⟩
  | brk ρ'=>cases e;exact ⟨H₀,F,ρ,.brk ρ',g,ha,k⟩
  | cont ρ'=>cases e;exact ⟨H₀,F,ρ,.cont ρ',g,ha,k⟩
  | retL d ds=>cases e;exact ⟨H₀,F,ρ,.retL d ds,g,ha,k⟩
theorem Vk(h:PE X e (tF ⟨cv.cv,XO⟩ f))(hs:cB e YY pos.line X.env=pure false:=by rfl):PS X (.Expr e pos) (tS cv XO (oo f)):=
 PS.imp (Ab h hs) λD σ H ⟨H₀,F,ρ,r,g,e,k⟩=>bp g e k λl d v H1 s1 r1 e1=>by
  cases e1
  exact k σ H1 (g.same s1)
theorem qh(h:PE X e (tF ⟨cv.cv,XO⟩ f)):PS X (.Return (YW e) pos) (tS cv XO (zr f)):=
 PS.imp (Bz h) λD σ H ⟨H₀,F,ρ,r,g,e,k⟩=>bp g e k λl d v H1 s1 r1 e1=>by
  split at e1
  ·rename_i hc
   cases e1
   refine k v H1 (g.s1.trans s1) ?_
   by_cases hl:lf d=true
   ·exact r1.nl hl
   ·have h1:1<=l:=by
      rw [dH] at hc
      exact of_decide_eq_true (hc.resolve_left hl)
    exact r1.imp λz a p=>PL.le (g.s0.trans g.s1) h1 p
  ·cases e1
theorem j4{c:ZY}{fc:FE}(hc:PT X c (ku (tF ⟨cv.cv,XO⟩ fc)))(ha:PSs X sa (tS cv XO a))(hb:PSs X sb (tS cv XO b)):PS X (.If c sa sb pos) (tS cv XO (qm fc a b)):=
 PS.imp (VB hc ha hb) λD σ H ⟨H₀,F,ρ,r,g,e,k⟩=>bp g e k λl d v H1 s1 r1 e1=>by
  split at e1
  ·exact ⟨true,r1,L2.Jf (⟨H₀,F,ρ,r,g.same s1,e1,k⟩)⟩
  ·exact ⟨false,r1,L2.Jk (⟨H₀,F,ρ,r,g.same s1,e1,k⟩)⟩
  ·cases e1
theorem ou{H:Hp}{a:Zh}{o:HO}(e:H a=YW o):H a≠YY:=by rw [e];simp
theorem q9{α:Type}(xs:List α)(i j:Nat)(v:α)(hi:i < xs.length):(xs.set i v)[j]? =if i=j then YW v else xs[j]?:=by
 by_cases h:i=j
 ·subst h;simp [hi]
 ·simp [h]
theorem SR.set{H₀ F H H1:Hp}{ρ:f9}{σ:L2.St}{i l:Nat}{d:YX}{v:V}{t:Slot}(g:SR cv H₀ F ρ σ H)(hi':eV i cv.n=true)(s1:Same H H1)(r1:Rep (PL H₀ H l) H1 d v)(ha:u7 l d=YW t):
  SR cv H₀ F (ρ.set i (YW t)) (σ.set i (YW v)) H1:=by
 obtain ⟨O,o⟩:=g.ex
 have o1:SO cv H₀ F ρ σ H1 O:=⟨o.fr,λa i e=>let ⟨vs,q⟩:=o.ls a i e;⟨vs,s1 _ _ q⟩,λi t e=>(o.sl i t e).same s1⟩
 have hi:i < σ.length:=by rw [g.ln];exact dX.mp hi'
 have hρ:i < ρ.length:=by rw [g.len];exact dX.mp hi'
 have keep:∀ (O':Fd),(∀ a,H a≠YY->O' a=O a)->∀ j t',i≠j->(ρ.set i (YW t))[j]? =YW (YW t')->SS cv H₀ O' (σ.set i (YW v))[j]? j H1 t':=λO' hO j t' hij e=>by
  rw [q9 _ _ _ _ hρ,qz hij] at e
  rw [q9 _ _ _ _ hi,qz hij]
  have q:=o.sl j t' e
  have old:∀ {P P':PP},(∀ z a,H a≠YY->P z a->P' z a)->∀ {d:YX} {v:V},Rep P H d v->Rep P' H1 d v:=λ{P P'} hP {d v} r=>
   Rep.mono (λa vs e=>Rd.same s1 e) (λa vs r=>by
    rcases r with ⟨p,e⟩ | ⟨p,u,e⟩
    ·exact .inl ⟨hP _ _ (ou e) p,s1 _ _ e⟩
    ·exact .inr ⟨hP _ _ (ou e) p,u,s1 _ _ e⟩) d v r
  cases t' with
  | par d=>obtain ⟨w,e,r⟩:=q;exact ⟨w,e,old (λz a n p=>by rw [hO a n];exact p) r⟩
  | loc d=>obtain ⟨w,e,r⟩:=q;exact ⟨w,e,old (λz a n p=>by rw [hO a n];exact p) r⟩
  | own ds=>
   obtain ⟨p,vs,e,q,h,rs⟩:=q
   exact ⟨p,vs,e,by rw [hO p (ou h)];exact q,s1 _ _ h,rs.same s1⟩
  | own2 ds=>
   obtain ⟨p,vs,e,q,h,rs⟩:=q
   exact ⟨p,vs,e,by rw [hO p (ou h)];exact q,s1 _ _ h,Reps.mono (λa vs e=>Rd.same s1 e) (λa vs r=>by
    rcases r with ⟨p,e⟩ | ⟨p,u,e⟩
    ·exact .inl ⟨⟨p.1,(hO a (ou e)).trans p.2.1,p.2.2⟩,s1 _ _ e⟩
    ·exact .inr ⟨⟨p.1,(hO a (ou e)).trans p.2.1,p.2.2⟩,u,s1 _ _ e⟩) ds _ rs⟩
  | lent ds=>
   obtain ⟨vs,e,q,h,rs⟩:=q
   exact ⟨vs,e,by rw [hO _ (ou h)];exact q,s1 _ _ h,rs.same s1⟩
  | dct ks=>obtain ⟨a,e,q,h⟩:=q;obtain ⟨_,hw⟩:=h.ow;exact ⟨a,e,by rw [hO a (ou hw)];exact q,h.same s1⟩
  | ex c=>obtain ⟨a,e,x⟩:=q;exact ⟨a,e,x.same s1⟩
 have fin:∀ (O':Fd),(∀ a,H a≠YY->O' a=O a)->(∀ a i,O' a=YW i->F a=YY)->(∀ a i,O' a=YW i->∃ vs:OwV,H1 a=YW vs.ho)->SS cv H₀ O' (YW (YW v)) i H1 t->SR cv H₀ F (ρ.set i (YW t)) (σ.set i (YW v)) H1:=λO' hO hF hL ht=>
  ⟨g.s0,g.s1.trans s1,by simp [g.len],by simp [g.ln],O',hF,hL,λj t' e=>by
    by_cases hij:i=j
    ·subst hij
     rw [q9 _ _ _ _ hρ,jn rfl] at e
     cases e
     rw [q9 _ _ _ _ hi,jn rfl]
     exact ht
    ·exact keep O' hO j t' hij e⟩
 unfold u7 at ha
 split at ha
 ·rename_i hl
  cases ha
  exact fin O (λ_ _=>rfl) o.fr o1.ls ⟨v,rfl,r1.nl hl⟩
 ·split at ha
  ·rename_i h2
   have young:∀ z a,PL H₀ H l z a->z=false/\O a=YY/\H₀ a=YY:=λz a p=>by
    have p2:z=false/\H a=YY:=by
     match l,h2,p with
     | l+2,_,p=>exact p
    refine ⟨p2.1,?_,(g.s0.trans g.s1).free p2.2⟩
    cases q:O a with
    | none=>rfl
    | some j=>obtain ⟨vs,e⟩:=o.ls a j q;rw [p2.2] at e;cases vs<;>cases e
   split at ha
   ·rename_i ds
    split at ha
    ·rename_i hf
     cases ha
     obtain ⟨p,vs,rfl,rl,rs⟩:=r1
     rcases rl with ⟨y,e⟩ | ⟨y,u,e⟩
     ·have hn:H p=YY:=by
        match l,h2,y with
        | l+2,_,y=>exact y.2
      refine fin (λa=>if a=p then YW i else O a) (λa n=>?_) (λa j q=>?_) (λa j q=>?_) ⟨p,vs,rfl,by simp,e,rs.nl hf⟩
      ·rw [qz]
       intro z;subst z;exact n hn
      ·by_cases z:a=p
       ·subst z;exact g.s1.free hn
       ·rw [qz z] at q;exact o.fr a j q
      ·by_cases z:a=p
       ·subst z;exact ⟨.l vs,e⟩
       ·rw [qz z] at q;exact o1.ls a j q
     ·exact absurd (young _ _ y).1 (by simp)
    ·cases ha
     exact fin O (λ_ _=>rfl) o.fr o1.ls ⟨v,rfl,r1.imp young⟩
   ·cases ha
    exact fin O (λ_ _=>rfl) o.fr o1.ls ⟨v,rfl,r1.imp young⟩
  ·cases ha
theorem qj(i:Nat){x:Z3}{pos':eE}(hN:X.N.Nodup)(h:PE X e (tF ⟨cv.cv,XO⟩ f))(hi:X.N[i]? =YW x:=by rfl)(hx:Oi X.env.scope x:=by first | exact ZZ rfl | exact ZE rfl)
  (hs:cB e (YW (.Name x pos')) pos.line X.env=pure false:=by rfl) (hf:X.fn x=true∨X.env.scope.names.lookup x=YW .local:=by first | exact .inl rfl | exact .inr rfl | assumption)
  (hin:eV i cv.n=true:=by rfl):PS X (.Assign [.Name x pos'] e pos) (tS cv XO (zo i f)):=by
 intro lh s σ H D I ⟨H₀,F,ρ,r,g,e',k⟩
 refine Fl hN hi hx h hs hf lh s σ H D I ?_
 refine bp g e' k λl d v H1 s1 r1 e1=>?_
 cases ha:u7 l d with
 | none=>rw [ha] at e1;cases e1
 | some t=>
  rw [ha] at e1
  cases e1
  exact k _ _ (g.set hin s1 r1 ha)
end
section
variable{X:Cx}{XO:F7}{cv:Cfg}{e:ZY}{f fa fb:FE}{st:aG}{rest sa sb:List aG}{a b:FS}{pos:eE}
variable{H₀ F H H1:Hp}{ρ:f9}{σ:L2.St}
theorem Rep.none_lf{P:PP}{d:YX}{v:V}(r:Rep (λ_ _=>False) H d v):Rep P H d v:=r.imp λ_ _ z=>z.elim
theorem SR.put{i:Nat}{v:V}{t:Slot}(g:SR cv H₀ F ρ σ H)(hi':eV i cv.n=true)(ht:∀ O,SO cv H₀ F ρ σ H O->SS cv H₀ O (YW (YW v)) i H t):SR cv H₀ F (ρ.set i (YW t)) (σ.set i (YW v)) H:=by
 obtain ⟨O,o⟩:=g.ex
 have hi:i < σ.length:=by rw [g.ln];exact dX.mp hi'
 have hρ:i < ρ.length:=by rw [g.len];exact dX.mp hi'
 refine ⟨g.s0,g.s1,by simp [g.len],by simp [g.ln],O,o.fr,o.ls,λj t' e=>?_⟩
 by_cases hij:i=j
 ·subst hij
  rw [q9 _ _ _ _ hρ,jn rfl] at e
  cases e
  rw [q9 _ _ _ _ hi,jn rfl]
  exact ht O o
 ·rw [q9 _ _ _ _ hρ,qz hij] at e
  rw [q9 _ _ _ _ hi,qz hij]
  exact o.sl j t' e
theorem SR.putLoc{i:Nat}{v:V}{d:YX}(g:SR cv H₀ F ρ σ H)(hi:eV i cv.n=true)(r:Rep (λ_ _=>False) H d v):SR cv H₀ F (ρ.set i (YW (.loc d))) (σ.set i (YW v)) H:=
 g.put hi λO o=>⟨v,rfl,r.none_lf⟩
theorem DR.upd{ks:List YX}{a p:Zh}{o:HO}(h:DR H ks a)(hne:a≠p):DR (upd H p o) ks a:=by
 rcases h with ⟨is,e,h⟩ | ⟨n,h⟩
 ·exact .inl ⟨is,e,by rw [qb hne];exact h⟩
 ·exact .inr ⟨n,by rw [qb hne];exact h⟩
theorem SR.change{i:Nat}{ds ds':List YX}{p:Zh}{vs vs':List V}{O:Fd}(g:SR cv H₀ F ρ σ H)(o:SO cv H₀ F ρ σ H O)(hi:ρ[i]? =YW (YW (.own ds)))(hσ:σ[i]? =YW (YW (.ref p)))(hO:O p=YW i)(hp:H p=YW (.lst vs))(r:Reps (λ_ _=>False) H ds' vs'):
  SR cv H₀ F (ρ.set i (YW (.own ds'))) σ (upd H p (.lst vs')):=by
 have hρ:i < ρ.length:=(Zi.mp hi).1
 have hT:∀ a xs,Rd H a (.tup xs)->Rd (upd H p (.lst vs')) a (.tup xs):=λa xs e=>B5 (o0:=.l vs) hp e
 have hR:∀ {P:PP},(∀ z a,P z a->O a=YY)->∀ (d:YX) (v:V),Rep P H d v->Rep P (upd H p (.lst vs')) d v:=λ{P} hP d v r=>
  Rep.mono hT (λa ws rl=>by
   have hne:∀ z,P z a->a≠p:=λz q y=>by have:=hP z a q;rw [y,hO] at this;cases this
   rcases rl with ⟨q,e⟩ | ⟨q,u,e⟩
   ·exact .inl ⟨q,by rw [qb (hne _ q)];exact e⟩
   ·exact .inr ⟨q,u,by rw [qb (hne _ q)];exact e⟩) d v r
 have hF:∀ {ds:List YX} {ws:List V},Reps (λ_ _=>False) H ds ws->Reps (λ_ _=>False) (upd H p (.lst vs')) ds ws:=λ{ds ws} r=>
  Reps.mono hT (λa ws rl=>by rcases rl with ⟨q,_⟩ | ⟨q,_⟩<;>exact q.elim) ds ws r
 refine ⟨g.s0,λb u e=>?_,by simp [g.len],g.ln,O,o.fr,λa j e=>?_,λj t e=>?_⟩
 ·rw [qb]
  ·exact g.s1 b u e
  ·intro z;subst z;rw [o.fr b i hO] at e;cases e
 ·by_cases z:a=p
  ·subst z;exact ⟨.l vs',qr⟩
  ·rw [qb z];exact o.ls a j e
 ·by_cases hij:i=j
  ·subst hij
   rw [q9 _ _ _ _ hρ,jn rfl] at e
   cases e
   exact ⟨p,vs',hσ,hO,qr,hF r⟩
  ·rw [q9 _ _ _ _ hρ,qz hij] at e
   have q:=o.sl j t e
   cases t with
   | par d=>obtain ⟨w,e1,rr⟩:=q;exact ⟨w,e1,hR (λ_ _ x=>x) d w rr⟩
   | loc d=>obtain ⟨w,e1,rr⟩:=q;exact ⟨w,e1,hR (λ_ _ x=>x.2.1) d w rr⟩
   | own ds=>
    obtain ⟨q1,ws,e1,hq,hqp,rs⟩:=q
    have hne:q1≠p:=λz=>by rw [z,hO] at hq;cases hq;exact hij rfl
    exact ⟨q1,ws,e1,hq,by rw [qb hne];exact hqp,hF rs⟩
   | own2 ds=>
    obtain ⟨q1,ws,e1,hq,hqp,rs⟩:=q
    have hne:q1≠p:=λz=>by rw [z,hO] at hq;cases hq;exact hij rfl
    exact ⟨q1,ws,e1,hq,by rw [qb hne];exact hqp,Reps.mono hT (λa ws rl=>by
     have hne:∀ z,(z=false/\O a=YY/\H₀ a=YY)->a≠p:=λz q y=>by have:=q.2.1;rw [y,hO] at this;cases this
     rcases rl with ⟨q,e⟩ | ⟨q,u,e⟩
     ·exact .inl ⟨q,by rw [qb (hne _ q)];exact e⟩
     ·exact .inr ⟨q,u,by rw [qb (hne _ q)];exact e⟩) ds ws rs⟩
   | lent ds=>
    obtain ⟨ws,e1,hq,hqp,rs⟩:=q
    have hne:cv.lend≠p:=λz=>by rw [z,hO] at hq;cases hq;exact hij rfl
    exact ⟨ws,e1,hq,by rw [qb hne];exact hqp,hF rs⟩
   | dct ks=>
    obtain ⟨q1,e1,hq,hd⟩:=q
    have hne:q1≠p:=λz=>by rw [z,hO] at hq;cases hq;exact hij rfl
    exact ⟨q1,e1,hq,hd.upd hne⟩
   | ex c=>
    obtain ⟨w,e1,φ,hx,hφ⟩:=q
    have hne:w≠p:=λz=>by rw [z,hp] at hx;cases hx
    exact ⟨w,e1,φ,by rw [qb hne];exact hx,hφ⟩
theorem SR.own{i:Nat}{ds:List YX}(g:SR cv H₀ F ρ σ H)(hi:ρ[i]? =YW (YW (.own ds))):∃ O p vs,SO cv H₀ F ρ σ H O/\σ[i]? =YW (YW (.ref p))/\O p=YW i/\H p=YW (.lst vs)/\Reps (λ_ _=>False) H ds vs:=by
 obtain ⟨O,o⟩:=g.ex
 obtain ⟨p,vs,e,q,h,r⟩:=o.sl i _ hi
 exact ⟨O,p,vs,o,e,q,h,r⟩
theorem AN(i:Nat){x:Z3}{xp apos cpos:eE}(h:PE X e (tF ⟨cv.cv,XO⟩ f))(hN:X.N[i]? =YW x:=by rfl)(hv:DS X.env.scope x:=by first | exact ZZ rfl | exact ZE (ZZ rfl) | exact ZE (ZE rfl))
  (hd:(x == ("__debug__":Z3))=false:=by decide) (hcd:(x == ("__classdict__":Z3))=false:=by decide)
  (hbase:cI (.Name x xp) "append" X.env (bB (.Name x xp) X.env)=bB (.Name x xp) X.env:=by rfl)
  (hfew:((aF cpos (Zf [e] X.env)).all (λx=>!x.1) && (iX cpos (gB [] X.env)).all (λx=>x.1.isSome)
    && decide ([e].length+([]:List fL).length+(if ([]:List fL).isEmpty then 0 else 1) < 30))=true:=by rfl)
  (hline:(apos.endLine == cpos.line)=true:=by rfl) (hs1:Zf [e] X.env=(false,bB e X.env)::Zf [] X.env:=by rfl) (hplain:(aF cpos (Zf [] X.env)).any (·.1)=false:=by rfl)
  (hs:cB (.Call (.Attribute (.Name x xp) "append" apos) [e] [] cpos) YY pos.line X.env=pure false:=by rfl):
  PS X (.Expr (.Call (.Attribute (.Name x xp) "append" apos) [e] [] cpos) pos) (tS cv XO (yz i f)):=by
 intro lh s σ H D I ⟨H₀,F,ρ,r,g,e',k⟩
 refine Ab (GA aW dY dZ Be (vo (i:=i) hN hv hd hcd) (wy h xo hs1) hbase hfew hline hs1 hplain) hs lh s σ H D I ?_
 unfold yz at e'
 split at e'
 ·rename_i xs hρ
  obtain ⟨O,p,vs,o,hσ,hO,hp,rs⟩:=g.own hρ
  refine ⟨.ref p,hσ,.inl ⟨rfl,vs,SqL.of hp⟩,?_⟩
  refine bp g e' k λl d v H1 s1 r1 e1=>?_
  split at e1
  ·rename_i hc
   cases e1
   rw [Zn] at hc
   have lq:xs.length < big:=of_decide_eq_true hc.2
   refine ⟨p,vs,v,rfl,rfl,s1 _ _ hp,by rw [rs.length];exact Zt lq B1,?_⟩
   have g1:=g.same s1
   have o1:SO cv H₀ F ρ σ H1 O:=⟨o.fr,λa i e=>let ⟨vs,q⟩:=o.ls a i e;⟨vs,s1 _ _ q⟩,λi t e=>(o.sl i t e).same s1⟩
   exact k _ _ (g1.change o1 hρ hσ hO (s1 _ _ hp) ((rs.same s1).append (Reps.one (r1.nl hc.1))))
  ·cases e1
 ·cases e'
theorem Wq(j i:Nat){x y:Z3}{xp yp apos cpos:eE}(hnd:X.N.Nodup)(hN:X.N[i]? =YW x:=by rfl)(hv:DS X.env.scope x:=by first | exact ZZ rfl | exact ZE (ZZ rfl) | exact ZE (ZE rfl))
  (hd:(x == ("__debug__":Z3))=false:=by decide) (hcd:(x == ("__classdict__":Z3))=false:=by decide) (hj:X.N[j]? =YW y:=by rfl) (hy:Oi X.env.scope y:=by first | exact ZZ rfl | exact ZE rfl)
  (hbase:cI (.Name x xp) "pop" X.env (bB (.Name x xp) X.env)=bB (.Name x xp) X.env:=by rfl) (hline:(apos.endLine == cpos.line)=true:=by rfl)
  (hs:cB (.Call (.Attribute (.Name x xp) "pop" apos) [] [] cpos) (YW (.Name y yp)) pos.line X.env=pure false:=by rfl) (hf:X.fn y=true∨X.env.scope.names.lookup y=YW .local:=by first | exact .inl rfl | exact .inr rfl | assumption)
  (hjn:eV j cv.n=true:=by rfl):PS X (.Assign [.Name y yp] (.Call (.Attribute (.Name x xp) "pop" apos) [] [] cpos) pos) (tS cv XO (Np j i)):=by
 intro lh s σ H D I ⟨H₀,F,ρ,r,g,e',k⟩
 refine Fl hnd hj hy (UX aW PySem.F.slot_list_pop PySem.F.type_list_pop UD (vo (i:=i) hN hv hd hcd) hbase hline) hs hf lh s σ H D I ?_
 unfold Np at e'
 split at e'
 ·rename_i xs hρ
  obtain ⟨O,p,vs,o,hσ,hO,hp,rs⟩:=g.own hρ
  split at e'
  ·rename_i d hd'
   split at e'
   ·cases e'
   ·rename_i hij
    cases e'
    obtain ⟨v,hv',rv⟩:=rs.get hd'
    refine ⟨.ref p,hσ,.inl ⟨rfl,vs,SqL.of hp⟩,p,vs,v,rfl,rfl,hp,by rw [rs.length];exact hv',?_⟩
    have dl:Reps (λ_ _=>False) H xs.dropLast vs.dropLast:=by
     rw [List.dropLast_eq_take,List.dropLast_eq_take,rs.length]
     exact rs.take _
    have g2:=g.change o hρ hσ hO hp dl
    refine k _ _ (g2.putLoc hjn ?_)
    exact Rep.mono (λa ws e=>B5 (o0:=.l vs) hp e) (λa ws rl=>by rcases rl with ⟨q,_⟩ | ⟨q,_⟩<;>exact q.elim) d v rv
  ·cases e'
 ·cases e'
noncomputable def Pp:V->List V->Hp->VK->Prop:=λx vs H Q=>∃ l b xs zs,x= .ref l/\vs=[.ref b]/\H l=YW (.lst xs)/\(Rd H b (.lst zs)∨Rd H b (.tup zs))/\xs.length+zs.length<=Zx/\Q .non (upd H l (.lst (xs++zs)))
theorem FQ(l:Zh)(items:Array YZ)(n:Nat)(b:Zh)(items2:Array YZ)(n2:Nat)(dd:Option Zh)(sl:Array (Option YZ))(hs0:¬(!items.isEmpty && bD (items.size+items2.size))=true)(hs1:items.size<=Zx)(hs2:items.size+items2.size<=Zx+1):
  Meets (aT.«list.extend» ⟨[.ref l,.ref b],[]⟩) (λ_ R s=>s.heap.get? l=YW {cls:=.type "list",dict:=YY,data:=.seq items n,slots:=#[]}/\s.heap.get? b=YW {cls:=.type "tuple",dict:=dd,data:=.seq items2 n2,slots:=sl}/\R (.ok (.ret ZI)) {s with heap:=s.heap.update l (iQ λx=>x++items2),toks:=s.toks}):=
 .of_wp λprog w A R s h=>by
  obtain ⟨hp,g,d,tk,os⟩:=s;obtain ⟨hl,hb,h⟩:=h;have f1:=gS;have f2:=fS;have f3:=AutoSeq1.sub_list_list;have f4:=AutoSeq1.sub_tuple_list;have f5:=AutoSeq1.sub_list_tuple;
  have hz':(items++items2).size<=Zx+1:=by rw [Array.size_append];exact hs2
  wp_walk using (wpAny_updateSeq hl rfl (hz:=hs1) (_hz':=hz')),AutoSeq1.wpAny_loadPart' hl,AutoSeq1.wpAny_loadPart' hb;exact ⟨_,rfl,h⟩
theorem KL:X3 X "list.extend" Pp:=by
 intro lh s σ H x vs v us Q I rx rv h
 obtain ⟨l,b,xs,zs,rfl,rfl,hH,hB,hz,q⟩:=h
 cases rx
 obtain ⟨u,rfl,ru⟩:=rv.one
 cases ru
 obtain ⟨z,its,n,r,hl,e⟩:=I.lstM hH
 rcases hB with hB | hB
 ·obtain ⟨z2,its2,n2,r2,hl2,e2⟩:=QM I hB
  have hsz:its.toArray.size+its2.toArray.size<=Zx:=by rw [Zl,Zl];omega
  have hlong:¬ (!its.toArray.isEmpty && bD (its.toArray.size+its2.toArray.size))=true:=by
   rw [E9 hsz,Bool.and_false]
   exact Zv
  refine cQ F.slot_list_extend ⟨_,e,rfl⟩ F.entry_list_extend (F.args_list_extend_2 _ _)
   (AutoSeq1.list_extend_list_list_0 l its.toArray n b its2.toArray n2 hlong (by rw [Zl];exact Zq ‹_›) (by exact Nat.le_succ_of_le ‹_›)) ⟨e,e2,?_⟩
  refine ⟨.non,_,I.lset (its':=its++its2) hH e (by simp) (r.append r2) ?_,rfl,q⟩
  rw [Za]
  omega
 ·obtain ⟨its2,r2,⟨⟨cls2,dd2,data2,sl2⟩,e2,hc2,n2,hd2⟩,z2⟩:=I.tuple (.inl hB)
  simp only at hc2 hd2
  subst hc2 hd2
  have hl2:=r2.length
  have hsz:its.toArray.size+its2.toArray.size<=Zx:=by rw [Zl,Zl];omega
  have hlong:¬ (!its.toArray.isEmpty && bD (its.toArray.size+its2.toArray.size))=true:=by
   rw [E9 hsz,Bool.and_false]
   exact Zv
  refine cQ F.slot_list_extend ⟨_,e,rfl⟩ F.entry_list_extend (F.args_list_extend_2 _ _)
   (FQ l its.toArray n b its2.toArray n2 dd2 sl2 hlong (by rw [Zl];exact Zq ‹_›) (by exact Nat.le_succ_of_le ‹_›)) ⟨e,e2,?_⟩
  refine ⟨.non,_,I.lset (its':=its++its2) hH e (by simp) (r.append r2) ?_,rfl,q⟩
  rw [Za]
  omega
theorem AM(i:Nat){x:Z3}{xp apos cpos:eE}(h:PE X e (tF ⟨cv.cv,XO⟩ f))(hN:X.N[i]? =YW x:=by rfl)(hv:DS X.env.scope x:=by first | exact ZZ rfl | exact ZE (ZZ rfl) | exact ZE (ZE rfl))
  (hd:(x == ("__debug__":Z3))=false:=by decide) (hcd:(x == ("__classdict__":Z3))=false:=by decide)
  (hbase:cI (.Name x xp) "extend" X.env (bB (.Name x xp) X.env)=bB (.Name x xp) X.env:=by rfl)
  (hfew:((aF cpos (Zf [e] X.env)).all (λx=>!x.1) && (iX cpos (gB [] X.env)).all (λx=>x.1.isSome)
    && decide ([e].length+([]:List fL).length+(if ([]:List fL).isEmpty then 0 else 1) < 30))=true:=by rfl)
  (hline:(apos.endLine == cpos.line)=true:=by rfl) (hs1:Zf [e] X.env=(false,bB e X.env)::Zf [] X.env:=by rfl) (hplain:(aF cpos (Zf [] X.env)).any (·.1)=false:=by rfl)
  (hs:cB (.Call (.Attribute (.Name x xp) "extend" apos) [e] [] cpos) YY pos.line X.env=pure false:=by rfl):
  PS X (.Expr (.Call (.Attribute (.Name x xp) "extend" apos) [e] [] cpos) pos) (tS cv XO (ug i f)):=by
 intro lh s σ H D I ⟨H₀,F,ρ,r,g,e',k⟩
 refine Ab (GA aW PySem.F.slot_list_extend PySem.F.type_list_extend KL (vo (i:=i) hN hv hd hcd) (wy h xo hs1) hbase hfew hline hs1 hplain) hs lh s σ H D I ?_
 unfold ug at e'
 split at e'
 ·rename_i xs hρ
  obtain ⟨O,p,vs,o,hσ,hO,hp,rs⟩:=g.own hρ
  refine ⟨.ref p,hσ,.inl ⟨rfl,vs,SqL.of hp⟩,?_⟩
  refine bp g e' k λl d v H1 s1 r1 e1=>?_
  have g1:=g.same s1
  have o1:SO cv H₀ F ρ σ H1 O:=⟨o.fr,λa i e=>let ⟨vs,q⟩:=o.ls a i e;⟨vs,s1 _ _ q⟩,λi t e=>(o.sl i t e).same s1⟩
  split at e1
  ·rename_i ys
   split at e1
   ·rename_i hc
    cases e1
    rw [Zn] at hc
    have lq:xs.length+ys.length<=big:=of_decide_eq_true hc.2
    obtain ⟨q,us,rfl,rl,ru⟩:=r1
    refine ⟨p,q,vs,us,rfl,rfl,s1 _ _ hp,.inl rl.rd,by rw [rs.length,ru.length];exact iy lq,?_⟩
    exact k _ _ (g1.change o1 hρ hσ hO (s1 _ _ hp) ((rs.same s1).append (ru.nl hc.1)))
   ·cases e1
  ·rename_i ys
   split at e1
   ·rename_i hc
    cases e1
    rw [Zn] at hc
    have lq:xs.length+ys.length<=big:=of_decide_eq_true hc.2
    obtain ⟨q,us,rfl,hq,ru⟩:=r1
    refine ⟨p,q,vs,us,rfl,rfl,s1 _ _ hp,.inr hq,by rw [rs.length,ru.length];exact iy lq,?_⟩
    exact k _ _ (g1.change o1 hρ hσ hO (s1 _ _ hp) ((rs.same s1).append (ru.nl hc.1)))
   ·cases e1
  ·cases e1
 ·cases e'
end
section
variable{X:Cx}{XO:F7}{cv:Cfg}{e:ZY}{f fa fb fc:FE}{st:aG}{rest sa sb body:List aG}{a b:FS}{pos:eE}{tg iter:ZY}{fi:FI}{tf:FT}
variable{H₀ F F' H H1:Hp}{ρ:f9}{σ:L2.St}
theorem MN{c:ZY}(hp:eP (ZD X.prog X.w) X.A X.env X.xe)(hc:PT X c (ku (tF ⟨cv.cv,XO⟩ fc)))(hb:PSs X body (tS cv XO b)):PS X (.While c body [] pos) (tS cv XO (Bu fc b)):=
 PS.imp (O7 hp hc hb) λD σ H ⟨H₀,F,ρ,r,g,e,k⟩=>by
  refine ⟨λm σ' H'=>∃ ρ',SR cv H₀ F ρ' σ' H'/\gu fc b m ρ'=YW r,⟨G7,ρ,g,e⟩,?_⟩
  rintro m σ1 H1 ⟨ρ1,g1,e1⟩
  cases m with
  | zero=>cases e1
  | succ m=>
   unfold gu at e1
   refine bp g1 e1 k λl d v H2 s2 r2 e2=>?_
   have g2:=g1.same s2
   split at e2
   ·refine ⟨true,r2,L2.Jf ?_⟩
    refine ⟨λσ' H'=>∃ ρ',SR cv H₀ F ρ' σ' H'/\gu fc b m ρ'=YW r,λσ' H' ⟨ρ',g',e'⟩=>⟨m,Nat.lt_succ_self m,ρ',g',e'⟩,?_⟩
    cases hbr:b ρ1 with
    | none=>rw [hbr] at e2;cases e2
    | some x=>
     rw [hbr] at e2
     refine ⟨H₀,F,ρ1,x,g2,hbr,?_⟩
     cases x with
     | next ρ'=>exact λσ' H' g'=>⟨ρ',g',e2⟩
     | cont ρ'=>exact λσ' H' g'=>⟨ρ',g',e2⟩
     | brk ρ'=>cases e2;exact k
     | ret d=>cases e2;exact k
     | retL d ds=>cases e2;exact k
     | exc c ρ'=>cases e2;exact k
   ·refine ⟨false,r2,L2.Jk ?_⟩
    cases e2
    exact k σ1 H2 g2
   ·cases e2
noncomputable def A9(Z:Hp)(J:It)(ds:List YX):Prop:=
 ∀ H2,Same Z H2->∀ i,(∀ d,ds[i]? =YW d->J.go i H2/\∀ x H3,J.yld i H2 x H3->Same H2 H3/\Rep (λ_ _=>False) H3 d x)/\(i=ds.length->J.stop i H2)
noncomputable def Qk(H₀ Hs:Hp)(l:Nat)(ds:List YX)(J:It)(H1:Hp):Prop:=
 ∀ Z,(∀ a xs,Rd H1 a (.tup xs)->Rd Z a (.tup xs))->(∀ a vs,Rl (PL H₀ Hs l) H1 a vs->Rd Z a (.lst vs))->A9 Z J ds
noncomputable def tI(XO:XOT)(fi:FI):TI:=λσ H R=>∃ H₀ Hs ρ r,G XO.cv H₀ Hs ρ σ H/\fi ρ=YW r/\(∀ l ds J H1,r= .ok l ds->Same H H1->Qk H₀ Hs l ds J H1->R J H1)/\∀ c H',r= .exc c->Same H H'->XO.f c σ H'
theorem PI.imp{wi wi':TI}(h:PI X tg iter wi)(g:∀ σ H R,wi' σ H R->wi σ H R):PI X tg iter wi':=λlh s σ H R I q=>h lh s σ H R I (g σ H R q)
theorem PI.or{wi wi':TI}(h:PI X tg iter wi)(h':PI X tg iter wi'):PI X tg iter (λσ H R=>wi σ H R∨wi' σ H R):=λlh s σ H R I q=>q.elim (h lh s σ H R I) (h' lh s σ H R I)
theorem n9{K:Zb}{Z:Hp}{p:Zh}{vs:List V}{ds:List YX}(hl:Rd Z p (.lst vs))(r:Reps (λ_ _=>False) Z ds vs):A9 Z (Xy K p) ds:=λH2 s i=>by
 have hq:SqL K H2 p vs:=.inl (Rd.same s hl)
 refine ⟨λd hd=>?_,λhi=>⟨vs,hq,by rw [r.length,hi];exact Ze _⟩⟩
 obtain ⟨v,hv,rv⟩:=r.get hd
 refine ⟨⟨vs,v,hq,hv⟩,λx H3 y=>?_⟩
 obtain ⟨e,y⟩:=y
 subst e
 have:=y vs hq
 rw [hv] at this
 cases this
 exact ⟨Same.refl _,rv.same s⟩
theorem B7{K:Zb}{Z:Hp}{p:Zh}{vs:List V}{ds:List YX}(hl:Rd Z p (.tup vs))(r:Reps (λ_ _=>False) Z ds vs):A9 Z (Xx K p) ds:=λH2 s i=>by
 have hq:Di K H2 p vs:=.inl (Rd.same s hl)
 refine ⟨λd hd=>?_,λhi=>⟨vs,hq,by rw [r.length,hi];exact Ze _⟩⟩
 obtain ⟨v,hv,rv⟩:=r.get hd
 refine ⟨⟨vs,v,hq,hv⟩,λx H3 y=>?_⟩
 obtain ⟨e,y⟩:=y
 subst e
 have:=y vs hq
 rw [hv] at this
 cases this
 exact ⟨Same.refl _,rv.same s⟩
theorem IV{Z:Hp}{n:Nat}:A9 Z (Xz 0 n) (bu n):=λH2 s i=>by
 refine ⟨λd hd=>?_,λhi=>?_⟩
 ·unfold bu at hd
  rw [ZG] at hd
  cases hr:(ZR n)[i]? with
  | none=>rw [hr] at hd;cases hd
  | some k=>
   rw [hr] at hd
   cases hd
   obtain ⟨hlt,hk⟩:=Zi.mp hr
   rw [eW] at hlt
   rw [List.getElem_range] at hk
   subst hk
   refine ⟨hlt,λx H3 y=>?_⟩
   obtain ⟨e,y⟩:=y
   subst e y
   refine ⟨Same.refl _,?_⟩
   show V.int (0+(i:Int))=V.int (i:Int)
   rw [Int.zero_add]
 ·show n<=i
  rw [hi]
  simp [bu]
theorem EW{XO:XOT}(h:PE X e (tF XO f)):PI X tg e (tI XO (mz f)):=PI.imp (PI.or (MG h) (Pz h)) λσ H R ⟨H₀,Hs,ρ,r,g,e,k,kx⟩=>by
 unfold mz at e
 split at e
 ·rename_i l ds hf
  split at e
  ·rename_i hlf
   cases e
   refine .inl ⟨H₀,Hs,ρ,_,g,hf,⟨λl' d' v H1 e' s1 r1=>?_,λc H' e=>(nomatch e)⟩⟩
   cases e'
   obtain ⟨p,vs,rfl,rl,rs⟩:=r1
   refine ⟨p,rfl,⟨vs,.inl rl.rd⟩,k l ds (Xy X.K p) H1 rfl s1 λZ hT hL=>n9 (hL p vs rl) ?_⟩
   exact Reps.free hT ds vs hlf rs
  ·cases e
 ·rename_i l ds hf
  split at e
  ·rename_i hlf
   cases e
   refine .inr ⟨H₀,Hs,ρ,_,g,hf,⟨λl' d' v H1 e' s1 r1=>?_,λc H' e=>(nomatch e)⟩⟩
   cases e'
   obtain ⟨p,vs,rfl,hp,rs⟩:=r1
   refine ⟨p,rfl,⟨vs,.inl hp⟩,k 2 ds (Xx X.K p) H1 rfl s1 λZ hT hL=>B7 (hT p vs hp) ?_⟩
   exact Reps.free hT ds vs hlf rs
  ·cases e
 ·rename_i c hf
  cases e
  exact .inl ⟨H₀,Hs,ρ,_,g,hf,⟨λl' d' v H1 e' s1 r1=>(nomatch e'),λc' H' e' s=>kx c' H' (by cases e';rfl) s⟩⟩
 ·cases e
theorem Wc{XO:XOT}{p:eE}(C:BC X)(h:PE X e (tF XO f))(hg:Gl X "range":=by rfl)(hs:Zf [e] X.env=[(false,bB e X.env)]:=by rfl):PI X tg (.Call (.Name "range" p) [e] [] pos) (tI XO (Ra f)):=
 PI.imp (NJ hg C.mrange (wy h xo (by rw [hs];rfl)) hs) λσ H R ⟨H₀,Hs,ρ,r,g,e,k,kx⟩=>by
  unfold Ra at e
  split at e
  ·rename_i l n hf
   split at e
   ·rename_i hn
    cases e
    refine ⟨H₀,Hs,ρ,_,g,hf,⟨λl' d' v H1 e' s1 r1=>?_,λc H' e=>(nomatch e)⟩⟩
    cases e'
    have hb:big < 2 ^ 62:=by decide
    refine ⟨n,by rw [show v=V.int n from r1],by omega,by omega,?_⟩
    exact k 2 _ _ H1 rfl s1 λZ _ _=>IV
   ·cases e
  ·rename_i c hf
   cases e
   exact ⟨H₀,Hs,ρ,_,g,hf,⟨λl' d' v H1 e' s1 r1=>(nomatch e'),λc' H' e' s=>kx c' H' (by cases e';rfl) s⟩⟩
  ·cases e
noncomputable def EU(O:Fd)(H:Hp):Hp:=λa=>match O a with
 | some _=>YY
 | none=>H a
theorem xn{O:Fd}{H:Hp}{a:Zh}(h:O a=YY):EU O H a=H a:=by unfold EU;rw [h]
theorem G5{O:Fd}{H:Hp}{a:Zh}{i:Nat}(h:O a=YW i):EU O H a=YY:=by unfold EU;rw [h]
theorem Eg{O:Fd}{H:Hp}{a:Zh}{xs:List V}(ls:∀ a i,O a=YW i->∃ vs:OwV,H a=YW vs.ho)(h:Rd H a (.tup xs)):Rd (EU O H) a (.tup xs):=by
 cases q:O a with
 | none=>
  rcases h with h | ⟨u,h⟩
  ·exact .inl (by rw [xn q];exact h)
  ·exact .inr ⟨u,by rw [xn q];exact h⟩
 | some i=>
  obtain ⟨vs,hv⟩:=ls a i q
  rcases h with h | ⟨_,h⟩<;>(rw [h] at hv;cases vs<;>cases hv)
theorem SR.freeze{O:Fd}(g:SR cv H₀ F ρ σ H)(o:SO cv H₀ F ρ σ H O):SR cv H₀ (EU O H) ρ σ H/\Same F (EU O H):=by
 have hF:Same F (EU O H):=λb u e=>by
  have:O b=YY:=by
   cases q:O b with
   | none=>rfl
   | some i=>rw [o.fr b i q] at e;cases e
  rw [xn this]
  exact g.s1 b u e
 refine ⟨⟨g.s0.trans hF,λb u e=>?_,g.len,g.ln,O,λa i e=>G5 e,o.ls,o.sl⟩,hF⟩
 cases q:O b with
 | none=>rw [xn q] at e;exact e
 | some i=>rw [G5 q] at e;cases e
theorem SR.thaw(g:SR cv H₀ F' ρ σ H)(h0:Same H₀ F)(h:Same F F'):SR cv H₀ F ρ σ H:=
 ⟨h0,h.trans g.s1,g.len,g.ln,let ⟨O,o⟩:=g.ex;⟨O,λa i e=>h.free (o.fr a i e),o.ls,o.sl⟩⟩
theorem KS.thaw{D:Ends}{r:RS}(h0:Same H₀ F)(h:Same F F')(k:KS cv XO H₀ F D r):KS cv XO H₀ F' D r:=by
 cases r with
 | next ρ'=>exact λσ' H' g=>k σ' H' (g.thaw h0 h)
 | ret d=>exact λv H' s rp=>k v H' (h.trans s) rp
 | exc c ρ'=>exact λσ' H' g=>k σ' H' (g.thaw h0 h)
 | brk ρ'=>exact λσ' H' g=>k σ' H' (g.thaw h0 h)
 | cont ρ'=>exact λσ' H' g=>k σ' H' (g.thaw h0 h)
 | retL d ds=>exact λv H' s rp q=>k v H' (h.trans s) rp q
noncomputable def Y1(cv:Cfg)(g:TG)(tf:FT):Prop:=∀ (H₀ F:Hp) (ρ ρ1:f9) (σ:L2.St) (H:Hp) (d:YX) (x:V) (Q:L2.St->Hp->Prop),SR cv H₀ F ρ σ H->Rep (λ_ _=>False) H d x->tf d ρ=YW ρ1->(∀ σ1,SR cv H₀ F ρ1 σ1 H->Q σ1 H)->g x σ H Q
theorem ig{J:It}{ds:List YX}{D:Ends}{r:RS}{g:TG}(s:SR cv H₀ F ρ σ H)(hy:A9 F J ds)(ht:Y1 cv g tf)(e:qy tf b ds ρ=YW r)(k:KS cv XO H₀ F D r):
  ∃ W:Nat->Nat->L2.St->Hp->Prop,(∃ m,W 0 m σ H)/\∀ i m σ H,W i m σ H->
   (J.stop i H/\D.nx σ H)∨(J.go i H/\∃ N:L2.St->Hp->Prop,(∀ σ' H',N σ' H'->∃ m',m' < m/\W (i+1) m' σ' H')/\∀ x H',J.yld i H x H'->g x σ H' λσ2 H2=>tS cv XO b {D with nx:=N,ct:=N,bk:=D.nx} σ2 H2):=by
 refine ⟨λi m σ H=>∃ ρ',SR cv H₀ F ρ' σ H/\qy tf b (ds.drop i) ρ'=YW r/\i<=ds.length/\m=ds.length - i,⟨ds.length,ρ,s,e,aY _,rfl⟩,?_⟩
 rintro i m σ1 H1 ⟨ρ1,s1,e1,hi,rfl⟩
 obtain ⟨y1,y2⟩:=hy H1 s1.s1 i
 cases hd:ds[i]? with
 | none=>
  have hl:ds.length<=i:=List.getElem?_eq_none_iff.mp hd
  have hil:i=ds.length:=by exact Nat.le_antisymm ‹_› ‹_›
  rw [List.drop_eq_nil_of_le hl] at e1
  cases e1
  exact .inl ⟨y2 hil,k σ1 H1 s1⟩
 | some d=>
  obtain ⟨hlt,hde⟩:=Zi.mp hd
  rw [dA hlt,hde] at e1
  obtain ⟨hgo,hyl⟩:=y1 d hd
  refine .inr ⟨hgo,λσ' H'=>∃ ρ',SR cv H₀ F ρ' σ' H'/\qy tf b (ds.drop (i+1)) ρ'=YW r,λσ' H' ⟨ρ',s',e'⟩=>⟨ds.length - (i+1),by omega,ρ',s',e',by assumption,rfl⟩,λx H2 y=>?_⟩
  obtain ⟨sm,rx⟩:=hyl x H2 y
  unfold qy at e1
  cases htf:tf d ρ1 with
  | none=>rw [htf] at e1;cases e1
  | some ρ2=>
   rw [htf] at e1
   refine ht H₀ F ρ1 ρ2 σ1 H2 d x _ (s1.same sm) rx htf λσ2 s2=>?_
   dsimp only at e1
   cases hb:b ρ2 with
   | none=>rw [hb] at e1;cases e1
   | some y=>
    rw [hb] at e1
    refine ⟨H₀,F,ρ2,y,s2,hb,?_⟩
    cases y with
    | next ρ'=>exact λσ' H' g'=>⟨ρ',g',e1⟩
    | cont ρ'=>exact λσ' H' g'=>⟨ρ',g',e1⟩
    | brk ρ'=>cases e1;exact k
    | ret d=>cases e1;exact k
    | retL d ds=>cases e1;exact k
    | exc c ρ'=>cases e1;exact k
structure Tg(X:Cx)(cv:Cfg)(tg:ZY)(tf:FT):Prop where
 ex:∃ g,PG X tg g/\Y1 cv g tf
theorem ur(i:Nat){x:Z3}(hN:X.N.Nodup)(hi:X.N[i]? =YW x:=by rfl)(hx:Oi X.env.scope x:=by first | exact ZZ rfl | exact ZE rfl)
  (hf:X.fn x=true∨X.env.scope.names.lookup x=YW .local:=by first | exact .inl rfl | exact .inr rfl | assumption) (hin:eV i cv.n=true:=by rfl):Tg X cv (.Name x pos) (z8 i):=
 ⟨Ij i,Ic hN hi hx hf,λH₀ F ρ ρ1 σ H d x Q s r e q=>by cases e;exact q _ (s.putLoc hin r)⟩
theorem DA(hp:eP (ZD X.prog X.w) X.A X.env X.xe)(hc:X.lu=true)(hi:PI X tg iter (tI ⟨cv.cv,XO⟩ fi))(ht:Tg X cv tg tf)(hb:PSs X body (tS cv XO b))(hs:∀ x,eU iter X.env x=pure x:=by intro _;rfl):
  PS X (.For tg iter body [] pos) (tS cv XO (bz fi tf b)):=by
 obtain ⟨gt,hg,hd⟩:=ht.ex
 refine PS.imp (KH hp hc hi hg hb hs) λD σ H ⟨H₀,F,ρ,r,g,e,k⟩=>?_
 unfold bz at e
 cases hf:fi ρ with
 | none=>rw [hf] at e;cases e
 | some x=>
  rw [hf] at e
  refine ⟨H₀,H,ρ,x,g.g,hf,λl ds J H1 ex s1 it=>?_,λc H' ex s=>?_⟩
  ·subst ex
   dsimp only at e
   split at e
   ·rename_i h2
    obtain ⟨O,o⟩:=g.ex
    have o1:SO cv H₀ F ρ σ H1 O:=⟨o.fr,λa i e=>let ⟨vs,q⟩:=o.ls a i e;⟨vs,s1 _ _ q⟩,λi t e=>(o.sl i t e).same s1⟩
    obtain ⟨gf,hF⟩:=(g.same s1).freeze o1
    refine ig gf (it (EU O H1) (λa xs hx=>?_) λa vs rl=>?_) hd e (k.thaw g.s0 hF)
    ·exact Eg o1.ls hx
    ·have no:∀ z,PL H₀ H l z a->O a=YY:=λz p=>by
       have hn:H a=YY:=by
        match l,h2,p with
        | l+2,_,p=>exact p.2
       cases q:O a with
       | none=>rfl
       | some i=>obtain ⟨vs,hv⟩:=o.ls a i q;rw [hn] at hv;cases vs<;>cases hv
     rcases rl with ⟨p,hx⟩ | ⟨p,u,hx⟩
     ·exact .inl (by rw [xn (no _ p)];exact hx)
     ·exact .inr ⟨u,by rw [xn (no _ p)];exact hx⟩
   ·cases e
  ·subst ex
   cases e
   exact k σ H' (g.same s)
theorem Ah(i:Nat){x:Z3}{xp:eE}(hp:eP (ZD X.prog X.w) X.A X.env X.xe)(hc:X.lu=true)(ht:Tg X cv tg tf)(hb:PSs X body (tS cv XO b))(hN:X.N[i]? =YW x:=by rfl)
  (hv:DS X.env.scope x:=by first | exact ZZ rfl | exact ZE (ZZ rfl) | exact ZE (ZE rfl)) (hd:(x == ("__debug__":Z3))=false:=by decide) (hcd:(x == ("__classdict__":Z3))=false:=by decide)
  (hs:∀ y,eU (.Name x xp) X.env y=pure y:=by intro _;rfl):PS X (.For tg (.Name x xp) body [] pos) (tS cv XO (vf i tf b)):=by
 obtain ⟨gt,hg,hd'⟩:=ht.ex
 refine PS.imp (KH hp hc (PI.or (MG (vo (i:=i) hN hv hd hcd)) (Pz (vo (i:=i) hN hv hd hcd))) hg hb hs) λD σ H ⟨H₀,F,ρ,r,g,e,k⟩=>?_
 obtain ⟨O,o⟩:=g.ex
 obtain ⟨gf,hF⟩:=g.freeze o
 have hT:∀ a xs,Rd H a (.tup xs)->Rd (EU O H) a (.tup xs):=λa xs hx=>Eg o.ls hx
 unfold vf at e
 split at e
 ·rename_i xs hρ
  obtain ⟨p,vs,hσ,hO,hp',rs⟩:=o.sl i _ hρ
  have hρl:i < ρ.length:=(Zi.mp hρ).1
  have o2:SO cv H₀ F (ρ.set i (YW (.loc (.list xs)))) σ H (λa=>if a=p then YY else O a):=by
   refine ⟨λa j q=>?_,λa j q=>?_,λj t q=>?_⟩
   ·by_cases z:a=p
    ·rw [jn z] at q;cases q
    ·rw [qz z] at q;exact o.fr a j q
   ·by_cases z:a=p
    ·rw [jn z] at q;cases q
    ·rw [qz z] at q;exact o.ls a j q
   ·by_cases hij:i=j
    ·subst hij
     rw [q9 _ _ _ _ hρl,jn rfl] at q
     cases q
     exact ⟨.ref p,hσ,p,vs,rfl,.inl ⟨⟨rfl,jn rfl,g.s0.free (o.fr p i hO)⟩,hp'⟩,rs.imp λ_ _ z=>z.elim⟩
    ·rw [q9 _ _ _ _ hρl,qz hij] at q
     have h:=o.sl j t q
     have hn:∀ a,O a=YY->(if a=p then YY else O a)=YY:=λa q=>by
      by_cases z:a=p
      ·rw [jn z]
      ·rw [qz z];exact q
     cases t with
     | par d=>obtain ⟨w,e1,rr⟩:=h;exact ⟨w,e1,rr.imp λ_ a z=>hn a z⟩
     | loc d=>obtain ⟨w,e1,rr⟩:=h;exact ⟨w,e1,rr.imp λ_ a z=>⟨z.1,hn a z.2.1,z.2.2⟩⟩
     | own ds=>
      obtain ⟨q1,ws,e1,hq,hqp,rs'⟩:=h
      have hne:q1≠p:=λz=>by rw [z,hO] at hq;cases hq;exact hij rfl
      exact ⟨q1,ws,e1,(qz hne).trans hq,hqp,rs'⟩
     | own2 ds=>
      obtain ⟨q1,ws,e1,hq,hqp,rs'⟩:=h
      have hne:q1≠p:=λz=>by rw [z,hO] at hq;cases hq;exact hij rfl
      exact ⟨q1,ws,e1,(qz hne).trans hq,hqp,rs'.imp λ_ a z=>⟨z.1,hn a z.2.1,z.2.2⟩⟩
     | lent ds=>
      obtain ⟨ws,e1,hq,hqp,rs'⟩:=h
      have hne:cv.lend≠p:=λz=>by rw [z,hO] at hq;cases hq;exact hij rfl
      exact ⟨ws,e1,(qz hne).trans hq,hqp,rs'⟩
     | dct ks=>
      obtain ⟨q1,e1,hq,hd⟩:=h
      have hne:q1≠p:=λz=>by rw [z,hO] at hq;cases hq;exact hij rfl
      exact ⟨q1,e1,(qz hne).trans hq,hd⟩
     | ex c=>exact h
  have g2:SR cv H₀ F (ρ.set i (YW (.loc (.list xs)))) σ H:=⟨g.s0,g.s1,by simp [g.len],g.ln,_,o2⟩
  obtain ⟨gf2,hF2⟩:=g2.freeze o2
  refine .inl ⟨.ref p,hσ,p,rfl,⟨vs,SqL.of hp'⟩,ig gf2 (n9 (vs:=vs) (.inl ?_) ?_) hd' e (k.thaw g.s0 hF2)⟩
  ·rw [xn (jn rfl)];exact hp'
  ·refine Reps.mono (λa ys hx=>?_) (λa ws rl=>by rcases rl with ⟨q,_⟩ | ⟨q,_⟩<;>exact q.elim) xs vs rs
   exact Eg o2.ls hx
 ·rename_i xs hρ
  split at e
  ·rename_i hlf
   obtain ⟨v,hσ,p,vs,rfl,rl,rs⟩:=o.sl i _ hρ
   refine .inl ⟨.ref p,hσ,p,rfl,⟨vs,.inl rl.rd⟩,ig gf (n9 ?_ (Reps.free hT xs vs hlf rs)) hd' e (k.thaw g.s0 hF)⟩
   rcases rl with ⟨q,hx⟩ | ⟨q,u,hx⟩
   ·exact .inl (by rw [xn q];exact hx)
   ·exact .inr ⟨u,by rw [xn q];exact hx⟩
  ·cases e
 ·rename_i xs hρ
  split at e
  ·rename_i hlf
   obtain ⟨v,hσ,p,vs,rfl,rl,rs⟩:=o.sl i _ hρ
   refine .inl ⟨.ref p,hσ,p,rfl,⟨vs,.inl rl.rd⟩,ig gf (n9 ?_ (Reps.free hT xs vs hlf rs)) hd' e (k.thaw g.s0 hF)⟩
   rcases rl with ⟨q,hx⟩ | ⟨q,u,hx⟩
   ·exact .inl (by rw [xn q.2.1];exact hx)
   ·exact .inr ⟨u,by rw [xn q.2.1];exact hx⟩
  ·cases e
 ·rename_i xs hρ
  split at e
  ·rename_i hlf
   obtain ⟨v,hσ,p,vs,rfl,hq,rs⟩:=o.sl i _ hρ
   exact .inr ⟨.ref p,hσ,p,rfl,⟨vs,.inl hq⟩,ig gf (B7 (hT p vs hq) (Reps.free hT xs vs hlf rs)) hd' e (k.thaw g.s0 hF)⟩
  ·cases e
 ·rename_i xs hρ
  split at e
  ·rename_i hlf
   obtain ⟨v,hσ,p,vs,rfl,hq,rs⟩:=o.sl i _ hρ
   exact .inr ⟨.ref p,hσ,p,rfl,⟨vs,.inl hq⟩,ig gf (B7 (hT p vs hq) (Reps.free hT xs vs hlf rs)) hd' e (k.thaw g.s0 hF)⟩
  ·cases e
 ·cases e
end
noncomputable def iw(cv:Nat->YZ)(n:Nat)(g:FC):Sp:=λvs H Q E=>∃ ds r,vs.length=n/\Reps (λ_ _=>True) H ds vs/\g ds=YW r/\
 (∀ d v H',r= .ok d->Same H H'->Rep (λz a=>z=false/\H a=YY) H' d v->Q v H')/\∀ c H',r= .exc c->Same H H'->E (cv c) YY H'
noncomputable def D4(CX:GY)(X:Cx)(XO:XOT):Prop:=∀ lh σ H s e s',Inv X lh σ H s->CX X.stack H s (λcls _ H'=>∃ c,cls=XO.cv c/\XO.f c σ H') e s'->X.xe e s'
structure FnF(CX:GY)(P:Z8)(w:ZN)(K:Zb)(mg:Z3->Option YZ)(base:ZM)(cv:Nat->YZ)(n:Nat)(x:Z3)(ar:Nat)(g:FC):Prop where
 ex:∃ f fd ps,FnOk P w K mg base CX n f fd ps (iw cv ar g)/\mg x=YW (.ref f)/\eF K (.ref f)=true/\Binds K fd ps []
section
variable{X:Cx}{XO:XOT}{CX:GY}{cv:Nat->YZ}{a b c e:ZY}{es:List ZY}{fa fb fc f:FE}{fs:List FE}{pos p:eE}{n ar:Nat}{x:Z3}{g:FC}
theorem zy(F:FnF CX X.prog X.w X.K X.mg X.base XO.cv n x ar g)(hr:Room n X.A)(L:D4 CX X XO)(ha:PA X (e::es) (QE XO fs))(hn:iM ar fs.length=true:=by rfl)(hg:Gl X x:=by rfl)
  (hdb:(x == ("__debug__":Z3))=false:=by decide) (he:Zf (e::es) X.env=(false,bB e X.env)::Zf es X.env:=by exact jf rfl) (hpl:(aF pos (Zf es X.env)).any (·.1)=false:=by exact ym rfl):
  PE X (.Call (.Name x p) (e::es) [] pos) (tF XO (zg g fs)):=by
 obtain ⟨f,fd,ps,F,hm,hk,hb⟩:=F.ex
 intro lh s σ H Q I ⟨H₀,Hs,ρ,r,gg,ee,kk⟩
 refine cP (C3 I hg hm ?_ hdb)
 have hA:QE XO fs σ H (λvs H1=>iw XO.cv ar g vs H1 Q (λcls _ H'=>∃ c,cls=XO.cv c/\XO.f c σ H')):=by
  refine Ct gg ee kk λl ds vs H1 s1 g1 r1 hl e1 k1=>?_
  have lq:vs.length=ar:=by rw [r1.length,hl,gO hn]
  cases hg:g ds with
  | none=>rw [hg] at e1;cases e1
  | some rc=>
   rw [hg] at e1
   refine ⟨ds,rc,lq,r1.imp λ_ _ _=>trivial,hg,λd v H' er s rp=>?_,λc H' er s=>?_⟩
   ·subst er
    exact k1.give (l:=2) e1 s (rp.imp λz a q=>⟨q.1,g1.s1.free q.2⟩)
   ·subst er
    exact ⟨c,rfl,k1.2 c H' (by cases e1;rfl) s⟩
 refine PySem.W.callWith_K (h₀:=X.base) I.ok.mod.kin hk (bj (ha pos lh s σ H _ I hA) λus s1 ⟨vs,H1,I1,r,q⟩=>⟨I1.kIn,?_⟩) he hpl
 have hl:(us++[]).length=ps.length:=by rw [ZL,<- r.length];exact F.len _ _ _ _ q
 have hB:=hb s1 us I1.kIn hl
 rw [ZL] at hB
 refine wpAny_call (iK (F.run X.A X.stack s1 H1 ⟨us,[]⟩ us vs Q _ hr I1.env0 hB r q) λr s' hq=>?_)
 cases r with
 | error e=>exact L lh σ H1 s1 e s' I1 hq
 | ok fl=>
  cases fl with
  | ret u=>exact I1.after hq
  | next=>exact bL hq
  | brk=>exact bL hq
  | cont=>exact bL hq
noncomputable def MP(r:List V->Hp->VK->Prop)(op:YX->Option YX):Prop:=
 ∀ (H₀ Hs H:Hp) (l:Nat) (x d:YX) (v:V) (Q:VK),Same H₀ Hs->Same Hs H->op x=YW d->Rep (PL H₀ Hs l) H x v->(∀ z H',Same H H'->Rep (PL H₀ Hs 2) H' d z->Q z H')->r [v] H Q
theorem Dq{r:List V->Hp->VK->Prop}{op:YX->Option YX}(ho:MP r op){σ:L2.St}{H:Hp}{Q:VK}(h:tF XO (e1 op true fa) σ H Q):Yr r (Jc (tF XO fa) Rr) σ H Q:=by
 obtain ⟨H₀,Hs,ρ,rr,g,e,kk⟩:=h
 refine g9 g e kk λl x v H1 s1 g1 r1 e1 k1=>?_
 cases hd:op x with
 | none=>rw [hd] at e1;cases e1
 | some d=>
  rw [hd] at e1
  exact ho H₀ Hs H1 l x d v Q g1.s0 g1.s1 hd r1 λz H' s rp=>k1.give e1 s rp
theorem Ml{id:String}{r:List V->Hp->VK->Prop}{op:YX->Option YX}(hc:CallR X (.builtin id) r)(ho:MP r op)(hm:X.mg x=YY)(hv:bE x=YW (.builtin id))(ha:PE X a (tF XO fa))(hg:Gl X x)(hn:x≠"__name__")(hdb:(x == ("__debug__":Z3))=false)
  (he:Zf [a] X.env=(false,bB a X.env)::Zf [] X.env) (hpl:(aF pos (Zf [] X.env)).any (·.1)=false):PE X (.Call (.Name x p) [a] [] pos) (tF XO (e1 op true fa)):=
 PE.imp (BH hc hg hm hv (wy ha xo he) hn hdb he hpl) λ_ _ _ h=>Dq ho h
theorem HW{T:String}{r:List V->Hp->VK->Prop}{op:YX->Option YX}(hc:CallR X (.type T) r)(ho:MP r op)(hm:X.mg x=YY)(hv:bE x=YW (.type T))(ha:PE X a (tF XO fa))(hg:Gl X x)(hn:x≠"__name__")(hdb:(x == ("__debug__":Z3))=false)
  (he:Zf [a] X.env=(false,bB a X.env)::Zf [] X.env) (hpl:(aF pos (Zf [] X.env)).any (·.1)=false):PE X (.Call (.Name x p) [a] [] pos) (tF XO (e1 op true fa)):=
 PE.imp (Bj hc hg hm hv (wy ha xo he) hn hdb he hpl) λ_ _ _ h=>Dq ho h
theorem uv(C:BC X)(ha:PE X a (tF XO fa))(hg:Gl X "len":=by rfl)(he:Zf [a] X.env=(false,bB a X.env)::Zf [] X.env:=by exact jf rfl)(hpl:(aF pos (Zf [] X.env)).any (·.1)=false:=by exact ym rfl):PE X (.Call (.Name "len" p) [a] [] pos) (tF XO (jr fa)):=
 Ml (call_len_seq.or GS) (λH₀ Hs H l x d v Q s0 s1 e rx q=>by
  unfold xx at e
  split at e
  ·cases e
   obtain ⟨p,vs,rfl,hp,rs⟩:=rx
   exact .inl ⟨p,vs,rfl,.inr (.inl hp),q _ H (Same.refl H) (by rw [rs.length];rfl)⟩
  ·cases e
   obtain ⟨p,vs,rfl,hp,rs⟩:=rx
   exact .inl ⟨p,vs,rfl,.inl (.inl hp.rd),q _ H (Same.refl H) (by rw [rs.length];rfl)⟩
  ·split at e
   ·rename_i z hz
    cases e
    exact .inr ⟨z,by rw [show v=V.str z from rx],iy hz,q _ H (Same.refl H) rfl⟩
   ·cases e
  ·cases e) C.mlen PySem.boot_len ha hg (by decide) (by decide) he hpl
theorem Ks(C:BC X)(ha:PE X a (tF XO fa))(hg:Gl X "int":=by rfl)(he:Zf [a] X.env=(false,bB a X.env)::Zf [] X.env:=by exact jf rfl)(hpl:(aF pos (Zf [] X.env)).any (·.1)=false:=by exact ym rfl):PE X (.Call (.Name "int" p) [a] [] pos) (tF XO (r8 fa)):=
 HW NO (λH₀ Hs H l x d v Q s0 s1 e rx q=>by
  unfold Jy at e
  split at e
  ·rename_i i
   cases e
   exact .inl ⟨i,by rw [show v=V.int i from rx],q _ H (Same.refl H) rfl⟩
  ·rename_i k
   cases e
   exact .inr ⟨k,by rw [show v=V.bl k from rx],q _ H (Same.refl H) rfl⟩
  ·cases e) C.mint PyProof.Rows.boot_int ha hg (by decide) (by decide) he hpl
theorem HI(C:BC X)(ha:PE X a (tF XO fa))(hg:Gl X "tuple":=by rfl)(he:Zf [a] X.env=(false,bB a X.env)::Zf [] X.env:=by exact jf rfl)(hpl:(aF pos (Zf [] X.env)).any (·.1)=false:=by exact ym rfl):PE X (.Call (.Name "tuple" p) [a] [] pos) (tF XO (sr fa)):=
 HW Bo (λH₀ Hs H l x d v Q s0 s1 e rx q=>by
  unfold Fn at e
  split at e
  ·split at e
   ·rename_i hlf
    cases e
    obtain ⟨p,vs,rfl,hp,rs⟩:=rx
    exact ⟨p,vs,rfl,.inl ⟨.inl hp.rd,λl hl=>q _ _ (qp hl _) ⟨l,vs,rfl,(.inl qr),(rs.nl hlf).same (qp hl _)⟩⟩⟩
   ·cases e
  ·split at e
   ·rename_i hlf
    cases e
    obtain ⟨p,vs,rfl,hp,rs⟩:=rx
    exact ⟨p,vs,rfl,.inr ⟨.inl hp,q _ H (Same.refl H) ⟨p,vs,rfl,hp,rs.nl hlf⟩⟩⟩
   ·cases e
  ·cases e) C.mtuple gC ha hg (by decide) (by decide) he hpl
theorem HJ(C:BC X)(ha:PE X a (tF XO fa))(hg:Gl X "list":=by rfl)(he:Zf [a] X.env=(false,bB a X.env)::Zf [] X.env:=by exact jf rfl)(hpl:(aF pos (Zf [] X.env)).any (·.1)=false:=by exact ym rfl):PE X (.Call (.Name "list" p) [a] [] pos) (tF XO (D7 fa)):=
 HW HU (λH₀ Hs H l x d v Q s0 s1 e rx q=>by
  unfold Mb at e
  split at e
  ·split at e
   ·rename_i hlf
    cases e
    obtain ⟨p,vs,rfl,hp,rs⟩:=rx
    exact ⟨p,vs,rfl,.inl (.inl hp.rd),λl hl=>q _ _ (qp hl _) ⟨l,vs,rfl,.inl ⟨⟨rfl,s1.free hl⟩,qr⟩,(rs.nl hlf).same (qp hl _)⟩⟩
   ·cases e
  ·split at e
   ·rename_i hlf
    cases e
    obtain ⟨p,vs,rfl,hp,rs⟩:=rx
    exact ⟨p,vs,rfl,.inr (.inl hp),λl hl=>q _ _ (qp hl _) ⟨l,vs,rfl,.inl ⟨⟨rfl,s1.free hl⟩,qr⟩,(rs.nl hlf).same (qp hl _)⟩⟩
   ·cases e
  ·cases e) C.mlist gJ ha hg (by decide) (by decide) he hpl
noncomputable def B3:Ty->String
 | .int=>"int"
 | .bool=>"bool"
 | .str=>"str"
 | .tuple=>"tuple"
 | .list=>"list"
theorem Pq:CallR X (.builtin "isinstance") (λxs H Q=>∃ x T t b,xs=[x,.ty T]/\TyOf X.K H x t/\aD X.K t (.type T)=YW b/\Q (.bl b) H):=by
 intro lh s σ H xs us Q I r h
 obtain ⟨x,T,t,b,rfl,ht,hk,q⟩:=h
 obtain ⟨u,w',rfl,rx,ry⟩:=Tw r
 cases ry
 exact N5 I rx ht hk λtk=>⟨.bl b,H,I.tok _,rfl,q⟩
theorem ti{K:Zb}:∀ (t:Ty) (T:String),(T= "NoneType"∨T= "bool"∨T= "int"∨T= "str"∨T= "list"∨T= "tuple")->
  aD K (.type T) (.type (B3 t))=YW (T == B3 t || (T == "bool" && B3 t == "int")):=by
 intro t T h
 rcases h with rfl | rfl | rfl | rfl | rfl | rfl<;>cases t<;>kernel_rfl
end
section
variable{X:Cx}{XO:XOT}{a b c e:ZY}{fa fb fc f:FE}{pos p p2:eE}
theorem Xb{K:Zb}{P:PP}{H:Hp}(t:Ty):∀ {d:YX} {v:V},(∀ kvs,d≠.dict kvs)->Rep P H d v->∃ T,TyOf K H v (.type T)/\aD K (.type T) (.type (B3 t))=YW (HA t d)
 | .none,_,_,h=>by cases (show _=_ from h);exact ⟨_,.non,by rw [ti t _ (.inl rfl)];cases t<;>rfl⟩
 | .bool _,_,_,h=>by cases (show _=_ from h);exact ⟨_,.bl _,by rw [ti t _ (.inr (.inl rfl))];cases t<;>rfl⟩
 | .int _,_,_,h=>by cases (show _=_ from h);exact ⟨_,.int _,by rw [ti t _ (.inr (.inr (.inl rfl)))];cases t<;>rfl⟩
 | .str _,_,_,h=>by cases (show _=_ from h);exact ⟨_,.str _,by rw [ti t _ (.inr (.inr (.inr (.inl rfl))))];cases t<;>rfl⟩
 | .tuple _,_,_,⟨_,_,e,h,_⟩=>by subst e;exact ⟨_,.tup h,by rw [ti t _ (.inr (.inr (.inr (.inr (.inr rfl)))))];cases t<;>rfl⟩
 | .list _,_,_,⟨_,_,e,h,_⟩=>by
  subst e
  rcases h with ⟨_,h⟩ | ⟨_,_,h⟩
  ·exact ⟨_,.lst h,by rw [ti t _ (.inr (.inr (.inr (.inr (.inl rfl)))))];cases t<;>rfl⟩
  ·exact ⟨_,.frz h,by rw [ti t _ (.inr (.inr (.inr (.inr (.inl rfl)))))];cases t<;>rfl⟩
 | .dict _,_,n,_=>absurd rfl (n _)
theorem Tx(t:Ty){x:Z3}(C:BC X)(ha:PE X a (tF XO fa))(hm:X.mg x=YY)(hv:bE x=YW (.type (B3 t)))(hgx:Gl X x)(hnx:x≠"__name__")(hdx:(x == ("__debug__":Z3))=false)(hg:Gl X "isinstance")
  (hs1:Zf [a,.Name x p2] X.env=(false,bB a X.env)::Zf [.Name x p2] X.env) (hpl:(aF pos (Zf [.Name x p2] X.env)).any (·.1)=false):PE X (.Call (.Name "isinstance" p) [a,.Name x p2] [] pos) (tF XO (E7 t fa)):=
 PE.imp (BH Pq hg C.misi PyProof.Rows.boot_isinstance (wy ha (wy (LV (v:=.ty (B3 t)) hgx hm hv rfl hnx hdx) xo rfl) hs1) (by decide) (by decide) hs1 hpl) λσ H Q ⟨H₀,Hs,ρ,rr,g,e,kk⟩=>by
  refine g9 g e kk λl x v H1 s1 g1 r1 e1 k1=>?_
  have hn:∀ kvs,x≠.dict kvs:=λkvs z=>by subst z;cases e1
  obtain ⟨T,hT,hk⟩:=Xb (K:=X.K) t hn r1
  have hd:SY t x=YW (.bool (HA t x)):=by cases x<;>first | rfl | exact absurd rfl (hn _)
  rw [hd] at e1
  exact ⟨v,B3 t,_,_,rfl,hT,hk,k1.give e1 (Same.refl _) rfl⟩
theorem NK(C:BC X)(ha:PE X a (tF XO fa))(hgx:Gl X "tuple":=by rfl)(hg:Gl X "isinstance":=by rfl)(hs1:Zf [a,.Name "tuple" p2] X.env=(false,bB a X.env)::Zf [.Name "tuple" p2] X.env:=by exact jf rfl)(hpl:(aF pos (Zf [.Name "tuple" p2] X.env)).any (·.1)=false:=by exact ym rfl):
 PE X (.Call (.Name "isinstance" p) [a,.Name "tuple" p2] [] pos) (tF XO (E7 .tuple fa)):=Tx .tuple C ha C.mtuple gC hgx (by decide) (by decide) hg hs1 hpl
theorem JE(C:BC X)(ha:PE X a (tF XO fa))(hgx:Gl X "list":=by rfl)(hg:Gl X "isinstance":=by rfl)(hs1:Zf [a,.Name "list" p2] X.env=(false,bB a X.env)::Zf [.Name "list" p2] X.env:=by exact jf rfl)(hpl:(aF pos (Zf [.Name "list" p2] X.env)).any (·.1)=false:=by exact ym rfl):
 PE X (.Call (.Name "isinstance" p) [a,.Name "list" p2] [] pos) (tF XO (E7 .list fa)):=Tx .list C ha C.mlist gJ hgx (by decide) (by decide) hg hs1 hpl
end
structure Flown(fs:List Zh)(ea:Zh)(oe:bX)(h h':ZM):Prop where
 keep:∀ b o,h.get? b=YW o->b≠ea->b∉fs->h'.get? b=YW o
 frm:∀ b o,h.get? b=YW o->b∈fs->∃ sl,h'.get? b=YW {o with slots:=sl}
 ex:∃ oe' vs T oT ts,h'.get? ea=YW oe'/\oe'.cls=oe.cls/\oe'.dict=oe.dict/\oe'.data= .fields vs/\vs[1]? =YW (.ref T)/\h.get? T=YY/\T≠ea/\h'.get? T=YW oT/\oT.data= .fields ts/\ts[3]? =YW .none
noncomputable def L7(h:ZM)(ea:Zh)(vs:Array YZ):Prop:=
 vs[1]? =YW .none∨∃ T oT ts,vs[1]? =YW (.ref T)/\T≠ea/\h.get? T=YW oT/\oT.data= .fields ts/\ts[3]? =YW .none
theorem Es(o:bX)(f:Array YZ->Array YZ):(o.mapFields f).dict=o.dict:=by
 obtain ⟨_,_,dt,_⟩:=o
 cases dt<;>rfl
section
variable{M:Model}{A:aC}{E:YZ->Zd->Prop}{s:Zd}{base:ZM}{env:Env}{lj:List Env}{L ea:Zh}{oe:bX}{vs:Array YZ}{Q:Unit->Zd->Prop}
theorem GJ{hd0:YZ}{nx:Bool}(hfr:A.frames=YW (env::lj))(ff:s.heap.FunFrames base (env::lj))(hf:env.frame=YW L)(he:s.heap.get? ea=YW oe)(hd:oe.data= .fields vs)(hsz:1 < vs.size)
  (k:∀ h',Flown (sf (env::lj)) ea oe s.heap h'->Q () {s with heap:=h'}):
  Z0 M A (do let fo <- frameOf env;let pl <- entryPlaceOf L nx;let t <- EntryCells.newEntry hd0 fo .none (rawInt L) .none pl;setField (.ref ea) 1 t) (λ_ s'=>Z0 M A (setFlight (.ref ea) YY) Q E s') E s:=by
 have nfr:ea∉sf (env::lj):=λhm=>by
  obtain ⟨_,o,ho,no⟩:=ff.mem hm
  rw [he] at ho
  cases ho
  exact no vs hd
 refine Zc (wpAny_frameOf_fun hfr ff hf λg hg=>?_)
 refine Zc (wpAny_entryPlaceOf λpl hpl=>?_)
 unfold EntryCells.newEntry newFields
 refine Zc (bM ?_ (hpl.sizeOk5 _ _ _ _ _))
 generalize hob:({cls:=.type "traceback",dict:=YY,data:=.fields ([hd0,.ref L,.none,rawInt L,.none]++(if pl.isEmpty then Z1 6 ZI else pl)).toArray}:bX)=ob
 have obd:∃ ts,ob.data= .fields ts/\3 < ts.size:=⟨_,by rw [<- hob],by simp only [Zl,Za,Zj,ZJ]<;>omega⟩
 obtain ⟨ts,obd,ob3⟩:=obd
 have eg:g.get? ea=YW oe:=(hg.2.1 ea nfr).trans he
 have ltE:ea < g.objs.size:=Z7 eg
 have e2:(g.push ob).get? ea=YW oe:=Zk ob eg
 refine gK e2 hd hsz ?_
 have d3:=cR hd (·.setIfInBounds 1 (aA g.objs.size))
 have e3:=eR (cJ (·.setIfInBounds 1 (aA g.objs.size))) e2 (cX d3)
 have neT:g.objs.size≠ea:=iH ltE
 have obf:ob.isFreed=false:=cX obd
 have t3:((g.push ob).update ea (cJ (·.setIfInBounds 1 (aA g.objs.size)))).get? g.objs.size=YW ob:=by
  rw [bA _ _ neT.symm]
  exact ZK g obf
 unfold setFlight
 refine Zc (bZ e3 d3 (x:=.ref g.objs.size) (by simp [hsz]) ?_)
 rw [jn (by simp)]
 refine gK t3 obd ob3 (k _ ?_)
 have stay:∀ b o,b≠ea->g.get? b=YW o->(((g.push ob).update ea (cJ (·.setIfInBounds 1 (aA g.objs.size)))).update g.objs.size (cJ (·.setIfInBounds 3 ((YY:Option Zh).elim ZI λf=>rawInt f)))).get? b=YW o:=λb o hb q=>by
  rw [bA _ _ (iH (Z7 q)),bA _ _ hb.symm]
  exact Zk _ q
 refine ⟨λb o q hb hn=>stay b o hb ((hg.2.1 b hn).trans q),λb o q hb=>?_,?_⟩
 ·obtain ⟨sl,q'⟩:=hg.2.2 b o q
  exact ⟨sl,stay b _ (λz=>nfr (z ▸ hb)) q'⟩
 ·refine ⟨_,_,g.objs.size,_,_,(bA _ _ neT).trans e3,bX.cls_mapFields _ _,Es _ _,d3,by simp [hsz],?_,neT,eR _ t3 (cX (cR obd _)),cR obd _,by simp [ob3]⟩
  cases q:s.heap.get? g.objs.size with
  | none=>rfl
  | some o=>
   have:=Z7 q
   rw [hg.1] at this
   exact absurd this (bC _)
theorem D2{h:ZM}{T:Zh}{oT:bX}{ts:Array YZ}(hT:h.get? T=YW oT)(hd:oT.data= .fields ts)(h3:ts[3]? =YW .none):(h.update T (cJ (·.setIfInBounds 3 ZI))).get? T=YW oT:=by
 have hz:ts.setIfInBounds 3 ZI=ts:=by
  obtain ⟨hlt,hv⟩:=bN.mp h3
  apply Array.ext
  ·simp
  ·intro i h1 h2
   by_cases q:3=i
   ·subst q;simp [hv]
   ·rw [Array.getElem_setIfInBounds,qz q]
 rw [eR _ hT (cX (cR hd _))]
 obtain ⟨c,d,dt,sl⟩:=oT
 cases hd
 show YW ({cls:=c,dict:=d,data:=.fields (ts.setIfInBounds 3 ZI),slots:=sl}:bX)=_
 rw [hz]
theorem Y7(hfr:A.frames=YW (env::lj))(ff:s.heap.FunFrames base (env::lj))(hf:env.frame=YW L)(he:s.heap.get? ea=YW oe)(hd:oe.data= .fields vs)(hh:L7 s.heap ea vs)
  (k:∀ h',Flown (sf (env::lj)) ea oe s.heap h'->Q () {s with heap:=h'}):
  Z0 M A (noteFrame (.ref ea) env) (λ_ s'=>Z0 M A (setFlight (.ref ea) YY) Q E s') E s:=by
 unfold noteFrame
 simp only [hf]
 rcases hh with h1 | ⟨T,oT,ts,h1,neT,hT,hdT,h3⟩
 ·refine Zc (bZ he hd h1 ?_)
  rw [qz (by decide)]
  exact GJ hfr ff hf he hd (bN.mp h1).1 k
 ·refine Zc (bZ he hd h1 ?_)
  rw [jn (by simp)]
  refine Zc (bZ hT hdT h3 ?_)
  rw [qz (by simp [rawInt])]
  refine Zc (gK hT hdT (bN.mp h3).1 ?_)
  have iY:∀ b o,s.heap.get? b=YW o->(s.heap.update T (cJ (·.setIfInBounds 3 ZI))).get? b=YW o:=λb o q=>by
   by_cases z:b=T
   ·subst z
    rw [hT] at q
    cases q
    exact D2 hT hdT h3
   ·rw [bA _ _ (eT z)];exact q
  have back:∀ b,(s.heap.update T (cJ (·.setIfInBounds 3 ZI))).get? b=YY->s.heap.get? b=YY:=λb q=>by
   cases z:s.heap.get? b with
   | none=>rfl
   | some o=>rw [iY b o z] at q;cases q
  refine GJ hfr (ff.of_keeps λb o q _=>⟨o,iY b o q,rfl⟩) hf (iY _ _ he) hd (bN.mp h1).1 λh' fl=>k h' ⟨λb o q=>fl.keep b o (iY b o q),λb o q=>fl.frm b o (iY b o q),?_⟩
  obtain ⟨oe',ws,T',oT',us,x1,x2,x3,x4,x5,x6,x7⟩:=fl.ex
  exact ⟨oe',ws,T',oT',us,x1,x2,x3,x4,x5,back _ x6,x7⟩
end
noncomputable def XT(h0:ZM)(H':Hp)(ea:Zh)(cls:YZ)(h:ZM):Prop:=h0.get? ea=YY/\H' ea=YY/\
 ∃ oe vs T oT ts,h.get? ea=YW oe/\oe.cls=cls/\oe.dict=YY/\oe.data= .fields vs/\vs[1]? =YW (.ref T)/\h0.get? T=YY/\H' T=YY/\T≠ea/\h.get? T=YW oT/\oT.data= .fields ts/\ts[3]? =YW .none
noncomputable def ji(P:Z8)(w:ZN):GY:=λlj H s E e s'=>∃ ea cls H',e= .ref ea/\s'.os=s.os/\iG s'.gens/\Un (sf lj) [] H H' s.heap s'.heap/\HOk P w H' s'.heap/\XT s.heap H' ea cls s'.heap/\E cls YY H'
theorem Un.narrow{fs fs' ex:List Zh}{H H':Hp}{h h':ZM}(u:Un fs ex H H' h h')(hx:∀ b o,h.get? b=YW o->b∉ex)(hf:∀ b o,h.get? b=YW o->b∈fs->b∈fs'):Un fs' [] H H' h h' where
 keep:=λb o q n hb _=>u.keep b o q n (λz=>hb (hf b o q z)) (hx b o q)
 slot:=λb o q n _ _=>u.any q n (hx b o q)
 free:=λb o q n _=>u.free b o q n (hx b o q)
 there:=λb o q _=>u.there b o q (hx b o q)
 tups:=u.tups
 frzs:=u.frzs
 tbls:=u.tbls
theorem sh{h h' base base':ZM}:∀ {l:List Env},h.FunFrames base l->(∀ b∈sf l,∀ o,h.get? b=YW o->∃ sl,h'.get? b=YW {o with slots:=sl})->(∀ b∈sf l,base'.get? b=YY)->h'.FunFrames base' l
 | [],_,_,_=>trivial
 | env::rest,⟨hk,⟨L,o,hf,hn,ho,hd⟩,hr⟩,ks,kb=>by
  have hm:L∈sf (env::rest):=by unfold sf;rw [bP,hf];exact Zz ..
  have hs:∀ b,b∈sf rest->b∈sf (env::rest):=λb hb=>by unfold sf at hb ⊢;rw [bP,hf];exact Z5 _ hb
  obtain ⟨sl,e⟩:=ks L hm o ho
  exact ⟨hk,⟨L,_,hf,kb L hm,e,hd⟩,sh hr (λb hb=>ks b (hs b hb)) λb hb=>kb b (hs b hb)⟩
theorem TB{P:Z8}{w:ZN}{H:Hp}{h h':ZM}(x:HOk P w H h)(k:∀ b o u,H b=YW u->h.get? b=YW o->h'.get? b=YW o):HOk P w H h':=λa o e=>
 (x a o e).stay (λb u hb q=>by
   rcases hb with rfl | hb
   ·exact k b u _ e q
   ·exact k b u _ hb q) (λ_ q=>q) λ_ _ q=>q
theorem PU{P:Z8}{w:ZN}{H:Hp}{h:ZM}{a:Zh}{o:HO}(q:ObjOk P w H h a o):∃ ob,h.get? a=YW ob:=by
 cases o with
 | lst _=>obtain ⟨_,_,_,_,e⟩:=q;exact ⟨_,e⟩
 | tup _=>obtain ⟨_,_,_,o,e,_⟩:=q;exact ⟨o,e⟩
 | dK _=>obtain ⟨_,_,_,_,o,_,_,e,_⟩:=q;exact ⟨o,e⟩
 | dT _=>obtain ⟨_,_,_,_,o,_,_,e,_⟩:=q;exact ⟨o,e⟩
 | dN _=>obtain ⟨_,_,_,_,_,o,_,_,e,_⟩:=q;exact ⟨o,e⟩
 | set _ _=>obtain ⟨o,_,_,_,e,_⟩:=q;exact ⟨o,e⟩
 | ins _ _ _=>obtain ⟨_,_,_,e,_⟩:=q;exact ⟨_,e⟩
 | own _=>exact q
 | xd _=>obtain ⟨_,⟨_,_,_,e,_⟩,_⟩:=q;exact ⟨_,e⟩
 | rng _ _=>obtain ⟨_,_,_,e⟩:=q;exact ⟨_,e⟩
 | frz _ _=>exact ⟨_,q.1⟩
 | tbl _=>exact ⟨_,q⟩
 | met _ _=>exact ⟨_,q⟩
 | ext _=>obtain ⟨_,z,_⟩:=q;exact z
theorem IQ{P:Z8}{w:ZN}{fs:List Zh}{ea:Zh}{oe:bX}{H₀ H':Hp}{h₀ h h2:ZM}(U:Un fs [] H₀ H' h₀ h)(hok:HOk P w H' h)(hfree:∀ b∈fs,H' b=YY)(e0:h₀.get? ea=YY)(e1:H' ea=YY)
  (fl:Flown fs ea oe h h2) (hd:oe.dict=YY):Un fs [] H₀ H' h₀ h2/\HOk P w H' h2/\XT h₀ H' ea oe.cls h2:=by
 have U1:Un fs [ea] H' H' h h2:=by
  refine ⟨λb o q _ hb hx=>fl.keep b o q (λz=>hx (by simp [z])) hb,λb o q _ hb _=>fl.frm b o q hb,λ_ _ _ z _=>z,λb o q hx=>?_,λ_ _ z=>z,λ_ _ _ z=>z,λ_ ps z=>⟨#[],by rw [z];simp⟩⟩
  by_cases hb:b∈fs
  ·obtain ⟨sl,z⟩:=fl.frm b o q hb
   exact ⟨_,z⟩
  ·exact ⟨o,fl.keep b o q (λz=>hx (by simp [z])) hb⟩
 refine ⟨KT.Un.narrow ((U.mono (λ_ z=>z) λ_ z=>(nomatch z)).trans U1) (λb o q hm=>?_) λ_ _ _ z=>z,TB hok λb o u hu q=>fl.keep b o q (λz=>?_) λhm=>?_,e0,e1,?_⟩
 ·have z:b=ea:=by simpa using hm
  rw [z,e0] at q
  cases q
 ·rw [z,e1] at hu;cases hu
 ·rw [hfree b hm] at hu;cases hu
 ·obtain ⟨oe',vs,T,oT,ts,x1,x2,x3,x4,x5,x6,x7,x8,x9,x10⟩:=fl.ex
  refine ⟨oe',vs,T,oT,ts,x1,x2,x3.trans hd,x4,x5,?_,?_,x7,x8,x9,x10⟩
  ·cases q:h₀.get? T with
   | none=>rfl
   | some o=>obtain ⟨o',z⟩:=U.there T o q (by simp);rw [x6] at z;cases z
  ·cases q:H' T with
   | none=>rfl
   | some u=>obtain ⟨o,z⟩:=PU (hok T u q);rw [x6] at z;cases z
theorem XT.head{h0:ZM}{H':Hp}{ea:Zh}{cls:YZ}{h:ZM}(x:XT h0 H' ea cls h):∃ oe vs,h.get? ea=YW oe/\oe.cls=cls/\oe.dict=YY/\oe.data= .fields vs/\L7 h ea vs:=by
 obtain ⟨_,_,oe,vs,T,oT,ts,he,hc,hdd,hd,h1,_,_,ne,hT,hdT,h3⟩:=x
 exact ⟨oe,vs,he,hc,hdd,hd,.inr ⟨T,oT,ts,h1,ne,hT,hdT,h3⟩⟩
theorem Xk{P:Z8}{w:ZN}{A:aC}{env:Env}{lj:List Env}{L ea:Zh}{cls:YZ}{base:ZM}{H₀ H H':Hp}{s₀ s s':Zd}{Q:Unit->Zd->Prop}{Ee:YZ->Zd->Prop}
  (hfr:A.frames=YW (env::lj)) (hf:env.frame=YW L) (ff:s.heap.FunFrames base (env::lj)) (hfree:∀ b∈sf (env::lj),H b=YY)
  (U:Un (sf (env::lj)) [] H₀ H s₀.heap s.heap) (un:Un (sf (env::lj)) [] H H' s.heap s'.heap) (hok:HOk P w H' s'.heap) (xt:XT s.heap H' ea cls s'.heap)
  (k:∀ h2,Un (sf (env::lj)) [] H₀ H' s₀.heap h2->HOk P w H' h2->XT s₀.heap H' ea cls h2->Q () {s' with heap:=h2}):
  Z0 (ZD P w) A (noteFrame (.ref ea) env) (λ_ s2=>Z0 (ZD P w) A (setFlight (.ref ea) YY) Q Ee s2) Ee s':=by
 obtain ⟨oe,vs,he,hc,hdd,hd,hh⟩:=xt.head
 have slots:∀ b∈sf (env::lj),∀ o,s.heap.get? b=YW o->∃ sl,s'.heap.get? b=YW {o with slots:=sl}:=λb hb o e=>un.slot b o e (hfree b hb) hb (by simp)
 have free':∀ b∈sf (env::lj),H' b=YY:=λb hb=>by
  obtain ⟨_,o,e,_⟩:=ff.mem hb
  exact un.free b o e (hfree b hb) (by simp)
 refine Y7 (base:=PySem.W.hideAll s'.heap (sf (env::lj))) hfr (sh ff slots λb hb=>hU _ hb) hf he hd hh λh2 fl=>?_
 have e0:s₀.heap.get? ea=YY:=by
  cases q:s₀.heap.get? ea with
  | none=>rfl
  | some o=>obtain ⟨o',z⟩:=U.there ea o q (by simp);rw [xt.1] at z;cases z
 obtain ⟨y1,y2,y3⟩:=IQ (U.trans un) hok free' e0 xt.2.1 fl hdd
 exact k h2 y1 y2 (hc ▸ y3)
theorem Ke{env:Env}{lj:List Env}{L:Zh}{H H':Hp}{h h':ZM}(hf:env.frame=YW L)(hL:h.objs.size<=L)(U:Un (sf (env::lj)) [] H H' h h'):Un (sf lj) [] H H' h h':=
 KT.Un.narrow U (λ_ _ _ z=>nomatch z) λb o q hm=>by
  unfold sf at hm
  rw [bP,hf] at hm
  rcases ZP.mp hm with z | z
  ·subst z;exact absurd (Z7 q) (Nat.not_lt.mpr hL)
  ·exact z
theorem J1{env:Env}{lj:List Env}{L:Zh}{H H':Hp}{h h':ZM}(hf:env.frame=YW L)(U:Un (sf lj) [] H H' h h'):Un (sf (env::lj)) [] H H' h h':=
 U.mono (λb hb=>by unfold sf;rw [bP,hf];exact Z5 _ hb) λ_ z=>z
theorem Dv{P:Z8}{w:ZN}{A:aC}{env:Env}{e:YZ}{Q:Unit->Zd->Prop}{Ee:YZ->Zd->Prop}{s:Zd}(h:Z0 (ZD P w) A (noteFrame e env) (λ_ s2=>Z0 (ZD P w) A (setFlight e YY) Q Ee s2) Ee s):
  Z0 (ZD P w) A (leaving env e) Q Ee s:=by
 unfold leaving
 exact Zc h
theorem UI{P:Z8}{w:ZN}{H:Hp}{h h':ZM}{ea:Zh}{cls:YZ}{args:List YZ}(hok:HOk P w H h)(hx:ZM.MadeExcOf h h' ea cls args):h.get? ea=YY/\H ea=YY/\∃ oe vs,h'.get? ea=YW oe/\oe.cls=cls/\oe.dict=YY/\oe.data= .fields vs/\L7 h' ea vs:=by
 obtain ⟨t,he,_,_⟩:=hx.there
 refine ⟨hx.new,?_,_,_,he,rfl,rfl,rfl,.inl rfl⟩
 cases q:H ea with
 | none=>rfl
 | some u=>obtain ⟨o,e⟩:=PU (hok ea u q);rw [hx.new] at e;cases e
section
variable{CX:GY}{P:Z8}{w:ZN}{K:Zb}{mg:Z3->Option YZ}{base:ZM}{N:List Z3}{qual:Z3}{scope:jC}{f:Zh}{cd:YZ}{A:aC}{lj:List Env}{s:Zd}{H:Hp}{E:XK}{cv:Nat->YZ}
theorem Dm{X:Cx}{lh:List (Zh×bX)}{σ:L2.St}{H1:Hp}{s1:Zd}(I:Inv X lh σ H1 s1)(hs:X.stack=X.env::X.lj):X.env.frame=YW X.env.locals:=by
 rcases I.ok.stk with z | z
 ·rw [hs] at z
  have:=congrArg eJ z
  simp at this
 ·exact z.2
theorem Jw:D4 (ji P w) (CH (ji P w) P w K mg base N qual scope f cd A lj s H E) ⟨cv,λc _ H'=>E (cv c) YY H'⟩:=by
 intro lh σ H1 s1 e s' I hcx
 obtain ⟨ea,cls,H',rfl,os,bare,un,hok,xt,c,rfl,hE⟩:=hcx
 have hf:=Dm I rfl
 exact Dv (Xk (H₀:=H) (s₀:=s) I.ok.frames hf I.stack I.stkFree (J1 hf I.base) un hok xt λh2 y1 y2 y3=>⟨ea,cv c,H',rfl,os.trans I.os,bare,Ke hf I.ok.above y1,y2,y3,hE⟩)
noncomputable def Q8(cv:Nat->YZ)(X:Cx)(XO:F7):Prop:=∀ lh σ H s ea c h' args,Inv X lh σ H s->ZM.MadeExcOf s.heap h' ea (cv c) args->XO c σ H->X.xe (.ref ea) {s with heap:=h'}
theorem Iq:Q8 cv (CH (ji P w) P w K mg base N qual scope f cd A lj s H E) (λc _ H'=>E (cv c) YY H'):=by
 intro lh σ H1 s1 ea c h' args I hx hE
 have hf:=Dm I rfl
 obtain ⟨x1,x2,oe,vs,he,hc,hdd,hd,hh⟩:=UI I.hok hx
 have U:Un _ [] H H1 s.heap s1.heap:=J1 hf I.base
 have e0:s.heap.get? ea=YY:=by
  cases q:s.heap.get? ea with
  | none=>rfl
  | some o=>obtain ⟨o',z⟩:=U.there ea o q (by simp);rw [x1] at z;cases z
 refine Dv (Y7 (base:=PySem.W.hideAll h' (sf _)) I.ok.frames (sh I.stack (λb hb o e=>⟨o.slots,hx.keeps b o e⟩) λb hb=>hU _ hb) hf he hd hh λh2 fl=>?_)
 obtain ⟨y1,y2,y3⟩:=IQ (U.trans (Un.kept hx.keeps)) (I.hok.kept hx.keeps) I.stkFree e0 x2 fl hdd
 exact ⟨ea,cv c,H1,rfl,I.os,I.bare,Ke hf I.ok.above y1,y2,hc ▸ y3,hE⟩
end
noncomputable def Y3:List YZ:=[.type "ValueError",.type "Exception",.type "BaseException",.type "object"]
structure ExcF(K:Zb)(mg:Z3->Option YZ)(cv:Nat->YZ)(x:Z3)(c:Nat):Prop where
 ex:∃ C,cv c= .ref C/\mg x=YW (.ref C)/\PySem.W.excIn K C Y3 "ValueError.__new__" =true
theorem Nz{K:Zb}{h:ZM}{C:Zh}{bmB:List YZ}{newId:String}(X:K.In h)(q:PySem.W.excIn K C bmB newId=true):
  ∃ bm N nm qn bs hdct sn sub ab col dd k0 k1 k2 k3 k5 mN,h.get? C=YW (excClassObj nm qn C N bs bm hdct sn sub ab col dd k0 k1 k2 k3 k5 newId)/\h.Ns N mN/\mN "__init__" =YY/\OwnTail h bmB bm:=by
 unfold PySem.W.excIn at q
 split at q
 ·rename_i dd cd sl ho
  split at q
  ·rename_i C' bm k0 k1 k2 k3 n k5 hm hs
   simp only [Zn,beq_iff_eq,Bool.not_eq_true'] at q
   obtain ⟨⟨⟨⟨⟨rfl,rfl⟩,hdel⟩,ht⟩,hok⟩,hni⟩:=q
   obtain ⟨nm,bs,mro,ns,qn,hd,sn,sub,ab,col,del⟩:=cd
   dsimp only at hm hdel hok hni
   subst hm hdel
   have hsl:sl= #[k0,k1,k2,k3,YW (.builtin n),k5]:=by
    obtain ⟨l⟩:=sl
    simp only at hs
    rw [hs]
   subst hsl
   exact ⟨bm,ns,nm,qn,bs,hd,sn,sub,ab,col,dd,k0,k1,k2,k3,k5,_,X _ _ ho,.of_isNs (PySem.W.isNs_of_in X hok),PySem.W.nsMap_none_of_in X hok hni,PySem.W.tail_of_in X ht⟩
  ·cases q
 ·cases q
section
variable{X:Cx}{XO:F7}{cv:Cfg}{pos np cpos p1:eE}{x m:Z3}{c:Nat}{j:Nat}
theorem Ht(R:ExcF X.K X.mg cv.cv x c)(hh:X.A.handled=YY)(L:Q8 cv.cv X XO)(hg:Gl X x:=by rfl)(hdb:(x == ("__debug__":Z3))=false:=by decide)
  (he:Zf [.Constant (.str m) j p1] X.env=(false,bB (.Constant (.str m) j p1) X.env)::Zf [] X.env:=by rfl) (hpl:(aF cpos (Zf [] X.env)).any (·.1)=false:=by exact ym rfl):
  PS X (.Raise (YW (.Call (.Name x np) [.Constant (.str m) j p1] [] cpos)) YY pos) (tS cv XO (Aj c)):=by
 obtain ⟨C,hcv,hm,hq⟩:=R.ex
 intro lh s σ H D I ⟨H₀,F,ρ,r,g,e,k⟩
 cases e
 obtain ⟨tl,N,nm,q,bs,hdct,sn,sub,ab,col,dd,k0,k1,k2,k3,k5,mN,hC,hN,hni,T⟩:=Nz I.ok.mod.kin hq
 have FB:=PySem.F.excBase_ValueError
 refine wpAny_Raise_call_subT (C:=C) (nm:=nm) (q:=q) (N:=N) (bs:=bs) (bm:=tl) (hdct:=hdct) (sn:=sn) (sub:=sub) (ab:=ab) (col:=col) (dd:=dd) (k0:=k0) (k1:=k1) (k2:=k2) (k3:=k3) (k5:=k5)
  FB (mN:=mN) (T.hasType FB.hasBase) hh (by rw [he];show (false || (aF cpos (Zf [] X.env)).any (·.1))=false;rw [hpl];rfl) hni (C3 I hg hm ⟨rfl,?_⟩ hdb)
 have hA:=wy (X:=X) (Po (x:=m) (j:=j) (pos:=p1)) xo he cpos lh s σ H (λvs H1=>vs=[.str m]/\H1=H) I ⟨rfl,rfl⟩
 rw [he] at hA ⊢
 refine Calls.evalArgs_plain (fB hA (λvs s₂ h₂=>?_) λ_ _ y=>y)
 obtain ⟨ws,H1,I2,rv,rfl,rfl⟩:=h₂
 refine ⟨rfl,?_,I2.bk _ _ hC,hN.keeps I2.bk,T.keeps I2.bk,λh' ea hx=>?_⟩
 ·show vs.length<=Zx
  rw [<- rv.length]
  exact Zo (by simp) (show 1<=Zx by decide)
 ·refine L lh σ H1 s₂ ea c h' vs I2 ?_ (k σ H1 g)
  rw [hcv]
  exact hx
end
structure MF(mg:Z3->Option YZ):Prop where
 mlen:mg "len" =YY
 mint:mg "int" =YY
 mbool:mg "bool" =YY
 mstr:mg "str" =YY
 mtuple:mg "tuple" =YY
 mlist:mg "list" =YY
 misi:mg "isinstance" =YY
 mrange:mg "range" =YY
 menum:mg "enumerate" =YY
 mzip:mg "zip" =YY
 mrev:mg "reversed" =YY
structure Body(P:Z8)(w:ZN)(cv:Nat->YZ)(k:Nat)(X:Cx)(XO:F7):Prop where
 C:BC X
 hr:Room k X.A
 L:D4 (ji P w) X ⟨cv,XO⟩
 R:Q8 cv X XO
 pw:eP (ZD X.prog X.w) X.A X.env X.xe
 hc:X.lu=true
 nd:X.N.Nodup
theorem Qf{cv:Nat->YZ}{N ps:List Z3}{vs:List V}{ds:List YX}{H:Hp}(hp:N.take ps.length=ps)(hl:vs.length=ps.length)(r:Reps (λ_ _=>True) H ds vs):
  SR ⟨cv,N.length,0⟩ H H (ds.map (λd=>YW (.par d))++Z1 (N.length - ds.length) YY) (L2.i3 N vs) H:=by
 have hle:ps.length<=N.length:=by
  have:=congrArg eJ hp
  rw [cM] at this
  omega
 have hd:=r.length
 refine ⟨Same.refl H,Same.refl H,?_,?_,λ_=>YY,λa i e=>(nomatch e),λa i e=>(nomatch e),λi t e=>?_⟩
 ·simp;omega
 ·unfold L2.i3;simp;omega
 ·by_cases hi:i < ds.length
  ·rw [aM (by simpa using hi)] at e
   rw [ZG] at e
   cases hx:ds[i]? with
   | none=>rw [hx] at e;cases e
   | some d=>
    rw [hx] at e
    cases e
    obtain ⟨v,hv,rv⟩:=r.get hx
    refine ⟨v,?_,rv.imp λ_ _ _=>rfl⟩
    unfold L2.i3
    rw [aM (by simp;omega),ZG,hv]
    rfl
  ·rw [aK (by simp;exact gR ‹_›)] at e
   rw [fX] at e
   split at e<;>cases e
theorem jc{P:Z8}{w:ZN}{K:Zb}{mg:Z3->Option YZ}{base:ZM}{cv:Nat->YZ}{x qual:Z3}{st:aG}{f:Zh}{fd:fR}{N ps:List Z3}{k:Nat}{b:FS}(M:MF mg)(F:Fun K x qual st f fd)(S:FnScope N ps (zx st))
  (hbody:∀ (cdv:YZ) (A:aC) (lj:List Env) (s:Zd) (H:Hp) (E:XK),Body P w cv k (CH (ji P w) P w K mg base N qual (zx st) f cdv A lj s H E) (λc _ H'=>E (cv c) YY H')->
    PSs (CH (ji P w) P w K mg base N qual (zx st) f cdv A lj s H E) (g8 st) (tS ⟨cv,N.length,0⟩ (λc _ H'=>E (cv c) YY H') b)):
  FnOk P w K mg base (ji P w) (k+1) f fd ps (iw cv ps.length (z7 N.length b)):=by
 obtain ⟨oc,od,kV,doc,pm,an,cdv,ct,osl,rfl,lk,hcd⟩:=F.ex
 refine SV lk hcd S (λvs H Q E h=>?_) λA lj s H vs Q E hr hsp=>?_
 ·obtain ⟨ds,r,hl,_⟩:=h
  exact hl
 obtain ⟨ds,r,hl,rp,hg,hok,hex⟩:=hsp
 refine ⟨tS ⟨cv,N.length,0⟩ (λc _ H'=>E (cv c) YY H') b,hbody cdv A lj s H E ⟨⟨hr.units,M.mlen,M.mint,M.mbool,M.mstr,M.mtuple,M.mlist,M.misi,M.mrange,M.menum,M.mzip,M.mrev⟩,hr,Jw,Iq,eP.leaving,rfl,S.nd⟩,?_⟩
 have g:=Qf (cv:=cv) S.pre hl rp
 unfold z7 at hg
 cases hb:b (ds.map (λd=>YW (.par d))++Z1 (N.length - ds.length) YY) with
 | none=>rw [hb] at hg;cases hg
 | some y=>
  rw [hb] at hg
  refine ⟨H,H,_,y,g,hb,?_⟩
  cases y with
  | ret d=>cases hg;exact λv H' s rp=>hok d v H' rfl s rp
  | next ρ'=>cases hg;exact λσ' H' g'=>hok .none .non H' rfl g'.s1 rfl
  | exc c ρ'=>cases hg;exact λσ' H' g'=>hex c H' rfl g'.s1
  | brk ρ'=>cases hg
  | cont ρ'=>cases hg
  | retL d ds=>cases hg
structure XCls(K:Zb)(D:Zh):Prop where
 ga:cO K (.ref D) "__getattribute__" =YW (YW (.builtin "BaseException.__getattribute__"))
 gh:cO K (.ref D) "__getattr__" =YW YY
 be:gX K D (.type "BaseException")=YW true
 hd:PySem.W.hasDictIn K D=true
 fc:cO K (.ref D) "__class__" =YW (YW (.builtin "object.__class__"))
 sg:PySem.W.specialIn K (.builtin "object.__class__") "__get__" =YW (YW (.builtin "getset_descriptor.__get__"))
 tk:PySem.W.takesIn K (.builtin "object.__class__")=YW true
 mo:gX K D (.type "object")=YW true
open PySem.W in
theorem Nl{K:Frag}{D x:Zh}{ox:bX}{M:Model}{A:aC}{E:YZ->Zd->Prop}{s:Zd}{nv:YZ}{Q:Unit->Zd->Prop}(Y:XCls K D)(X:K.In s.heap)(I:InstAt s.heap x ox D YY)(k:Q () s):
  Z0 M A (checkBuiltinCall "BaseException.__getattribute__" ⟨[.ref x,nv],[]⟩) Q E s:=by
 have hk:builtinKind "BaseException.__getattribute__" =YW .slot:=by decide +kernel
 have hsp:splitId "BaseException.__getattribute__" =YW ("BaseException","__getattribute__"):=by decide +kernel
 have L:Looks M s.heap (isInstance (.ref x) (.type "BaseException")) true:=I.type.andThen (looks_mroIn X Y.be)
 have ha:=F.args_bexc_ga (.ref x) nv
 simp only [checkBuiltinCall,hk,hsp]
 refine Zc (L.here ?_)
 simp only [gW,Z4,if_false]
 exact wpAny_of_eq ha k
open PySem.W in
theorem Nn{K:Frag}{D x:Zh}{ox:bX}{prog:Z8}{w:ZN}{A:aC}{E:YZ->Zd->Prop}{s:Zd}{Q:Option YZ->Zd->Prop}(Y:XCls K D)(X:K.In s.heap)(I:InstAt s.heap x ox D YY)(k:Q (YW (.ref D)) {s with toks:=s.toks+1}):
  Z0 (ZD prog w) A (getAttr? (.ref x) "__class__") Q E s:=by
 obtain ⟨hh,g,d,t,os⟩:=s
 have L0:=I.type (M:=ZD prog w)
 have L1:=looks_findIn (M:=ZD prog w) X Y.ga
 have L2:=looks_findIn (M:=ZD prog w) X Y.gh
 have hf:findObj K D YY "__class__" =YW (.bind (.builtin "getset_descriptor.__get__") (.builtin "object.__class__")):=by
  obtain ⟨cd,hc,_⟩:=any_some Y.hd
  unfold findObj
  rw [hc,ZH,Y.fc,ZH]
  simp [Y.sg,Y.tk]
 have L3:=looks_find (M:=ZD prog w) X I hf
 unfold getAttr? getAttrBy? getAttrBy
 refine Zc (wpAny_mkText (Zc (wpAny_attempt (dU (Zc (L0.at (Zc (L1.at ?_))))))))
 show Z0 _ _ (if (onTheHeap (aA D) && dQ "BaseException.__getattribute__" == dQ "object.__getattribute__")=true then _ else getAttrByItsOwn _ _ _ _ false false) _ _ _
 have hne:(onTheHeap (aA D) && dQ "BaseException.__getattribute__" == dQ "object.__getattribute__")=false:=by
  rw [show (dQ "BaseException.__getattribute__" == dQ "object.__getattribute__")=false by decide +kernel]
  exact Bool.and_false _
 rw [qz (by rw [hne];exact Zv)]
 unfold getAttrByItsOwn hookBefore
 rw [jn (show onTheHeap (aA D)=true from rfl)]
 refine Zc (L2.at (Zc (wpAny_attempt (dU ?_))))
 unfold callGetattribute
 rw [qz (by simp)]
 unfold boundAndCalled
 refine Zc (wpAny_of_eq (F.excAttr_ValueError.ga.bind (.ref x)) ?_)
 refine wpAny_call (codeAny_call_builtin F.excAttr_ValueError.ga.plain F.entry_bexc_ga (Nl Y X I ?_))
 have hdone:Z0 (ZD prog w) A.in1 (call (.builtin "getset_descriptor.__get__") [.builtin "object.__class__",.ref x,.ref D]) (λv s'=>v= .ref D/\s'=⟨hh,g,d,t+1,os⟩) (λ_ _=>False) ⟨hh,g,d,t+1,os⟩:=
  wpAny_call (class_get (ox:=ox) (od:=YY) X I Y.mo ⟨rfl,rfl⟩)
 refine Zc (Zr (Zc ?_))
 refine Zr (Zc (L0.at (Zc (L3.at ?_))))
 show Z0 _ _ (holding [dQ "object.__class__"] (call (.builtin "getset_descriptor.__get__") [.builtin "object.__class__",.ref x,.ref D]) >>= ret) _ _ _
 refine Zc (dU (fB hdone (λv s' hv=>Zr ?_) λ_ _ z=>z.elim))
 obtain ⟨rfl,rfl⟩:=hv
 exact handed_on rfl (Zr k)
open PySem.W in
theorem Ql{K:Frag}{x D:Zh}{ox:bX}(Y:XCls K D):KitX K (.ref x) (.ref D) (λh=>InstAt h x ox D YY) where
 ty:=λ_ _ _ I=>I.type
 it:=λ_ _ X _=>by
  obtain ⟨cdD,hcD,_⟩:=any_some Y.hd
  unfold clsIn at hcD
  split at hcD
  ·rename_i ho
   intro _ _ _ _ k q
   unfold isType loadHead
   exact Zc (wpAny_loadPart (k _ _ (X _ _ ho)) (Zr q))
  ·cases hcD
 ne:=λh tp dd its n sl X htp=>by
  obtain ⟨cdD,hcD,_⟩:=any_some Y.hd
  cases q:(aA D == aA tp) with
  | false=>rfl
  | true=>
   have e:D=tp:=aA.inj (beq_iff_eq.mp q)
   subst e
   unfold clsIn at hcD
   split at hcD
   ·rename_i ho
    cases (X _ _ ho).symm.trans htp
   ·cases hcD
 ca:=λX I k=>Nn Y X I k
structure XAll(K:Zb)(cv:Nat->YZ):Prop where
 ex:∀ c,∃ D,cv c= .ref D/\XCls K D
structure IsF(K:Zb)(mg:Z3->Option YZ)(cv:Nat->YZ)(x:Z3)(sub:Nat->Bool):Prop where
 all:XAll K cv
 nm:(∃ C,mg x=YW (.ref C)/\∀ c,aD K (cv c) (.ref C)=YW (sub c))∨(∃ T,mg x=YY/\bE x=YW (.type T)/\∀ c,aD K (cv c) (.type T)=YW (sub c))
section
variable{X:Cx}{XO:XOT}{pos p p2 pe:eE}{x n:Z3}{sub:Nat->Bool}
theorem QZ{X:Cx}{lh:List (Zh×bX)}{σ:L2.St}{H:Hp}{s:Zd}{a D:Zh}{c:Nat}{cv:Nat->YZ}(I:Inv X lh σ H s)(r:XRep cv H c a)(e:cv c= .ref D):∃ ox,PySem.W.InstAt s.heap a ox D YY:=by
 obtain ⟨φ,h,q⟩:=r
 obtain ⟨hφ,_,_⟩:=(show ObjOk X.prog X.w H s.heap a (.ext φ) from I.hok a _ h)
 obtain ⟨⟨oc,od,oda,osl⟩,ho,hc,hd,vs,hf⟩:=q _ hφ
 dsimp only at hc hd hf
 subst hd hf
 exact ⟨_,ho,hc.trans e,rfl,trivial⟩
theorem PQ{cv:Nat->YZ}(Y:XAll X.K cv):CallR X (.builtin "isinstance") (λxs H Q=>∃ a c C u b,xs=[.ref a,C]/\RelV C u/\XRep cv H c a/\aD X.K (cv c) u=YW b/\Q (.bl b) H):=by
 intro lh s σ H xs us Q I r h
 obtain ⟨a,c,C,u,b,rfl,ru,rx,hk,q⟩:=h
 obtain ⟨v1,v2,rfl,r1,r2⟩:=Tw r
 cases r1
 have hu:v2=u:=by
  cases C with
  | ref _=>exact (show v2=_ from r2).trans (show u=_ from ru).symm
  | ty _=>exact (show v2=_ from r2).trans (show u=_ from ru).symm
  | non=>exact (show v2=_ from r2).trans (show u=_ from ru).symm
  | bl _=>exact (show v2=_ from r2).trans (show u=_ from ru).symm
  | int _=>obtain ⟨_,z⟩:=ru;subst z;unfold aD at hk;obtain ⟨D,hD,_⟩:=Y.ex c;rw [hD] at hk;simp [iS] at hk
  | str _=>obtain ⟨_,z⟩:=ru;subst z;unfold aD at hk;obtain ⟨D,hD,_⟩:=Y.ex c;rw [hD] at hk;simp [iS] at hk
  | byt _=>obtain ⟨_,z⟩:=ru;subst z;unfold aD at hk;obtain ⟨D,hD,_⟩:=Y.ex c;rw [hD] at hk;simp [iS] at hk
  | flt _=>obtain ⟨_,z⟩:=ru;subst z;unfold aD at hk;obtain ⟨D,hD,_⟩:=Y.ex c;rw [hD] at hk;simp [iS] at hk
 subst hu
 obtain ⟨D,hD,YD⟩:=Y.ex c
 obtain ⟨ox,J⟩:=QZ I rx hD
 rw [hD] at hk
 exact aP (Ql YD) I.kIn J hk (λz=>nomatch z) λtk=>⟨.bl b,H,I.tok _,rfl,q⟩
theorem Ve{C:V}(hgx:Gl X x)(h:(∃ u,X.mg x=YW u/\RelV C u)∨∃ u,X.mg x=YY/\bE x=YW u/\RelV C u/\x≠"__name__")(hdx:(x == ("__debug__":Z3))=false):PE X (.Name x p2) (tC C):=by
 rcases h with ⟨u,h1,h2⟩ | ⟨u,h1,h2,h3,h4⟩
 ·exact GX hgx h1 h2 hdx
 ·exact LV hgx h1 h2 h3 h4 hdx
theorem PY(i:Nat)(C:BC X)(F:IsF X.K X.mg XO.cv x sub)(hN:X.N[i]? =YW n:=by rfl)(hv:DS X.env.scope n:=by first | exact ZZ rfl | exact ZE (ZZ rfl) | exact ZE (ZE rfl))(hdn:(n == ("__debug__":Z3))=false:=by decide)
  (hcd:(n == ("__classdict__":Z3))=false:=by decide) (hgx:Gl X x:=by rfl) (hnx:x≠"__name__":=by decide) (hdx:(x == ("__debug__":Z3))=false:=by decide) (hg:Gl X "isinstance":=by rfl)
  (hs1:Zf [.Name n pe,.Name x p2] X.env=(false,bB (.Name n pe) X.env)::Zf [.Name x p2] X.env:=by exact jf rfl) (hpl:(aF pos (Zf [.Name x p2] X.env)).any (·.1)=false:=by exact ym rfl):
  PE X (.Call (.Name "isinstance" p) [.Name n pe,.Name x p2] [] pos) (tF XO (NY i sub)):=by
 obtain ⟨Cv,u,hcl,ru,hk⟩:∃ Cv u,((∃ u,X.mg x=YW u/\RelV Cv u)∨∃ u,X.mg x=YY/\bE x=YW u/\RelV Cv u/\x≠"__name__")/\RelV Cv u/\∀ c,aD X.K (XO.cv c) u=YW (sub c):=by
  rcases F.nm with ⟨D,h1,h2⟩ | ⟨T,h1,h2,h3⟩
  ·exact ⟨.ref D,.ref D,.inl ⟨_,h1,rfl⟩,rfl,h2⟩
  ·exact ⟨.ty T,.type T,.inr ⟨_,h1,h2,rfl,hnx⟩,rfl,h3⟩
 refine PE.imp (BH (PQ F.all) hg C.misi PyProof.Rows.boot_isinstance (wy (vo (i:=i) hN hv hdn hcd) (wy (Ve hgx hcl hdx) xo rfl) hs1) (by decide) (by decide) hs1 hpl) λσ H Q ⟨H₀,Hs,ρ,rr,g,e,kk⟩=>?_
 unfold NY at e
 split at e
 ·rename_i c hρ
  obtain ⟨a,h1,h2⟩:=g.vr i _ hρ
  exact ⟨.ref a,h1,a,c,Cv,u,_,rfl,ru,h2,hk c,kk.give e (Same.refl _) rfl⟩
 ·cases e
end
structure HanF(K:Zb)(mg:Z3->Option YZ)(cv:Nat->YZ)(x:Z3)(sub:Nat->Bool):Prop where
 nm:∃ C,mg x=YW C/\∀ c,PySem.W.exmOne K (cv c) C=YW (sub c)
structure BodyT(cv:Nat->YZ)(k:Nat)(X:Cx)(XO:F7):Prop where
 C:BC X
 hr:Room k X.A
 L:D4 (ji X.prog X.w) X ⟨cv,XO⟩
 pw:eP (ZD X.prog X.w) X.A X.env X.xe
 hc:X.lu=true
 nd:X.N.Nodup
structure BodyH(X:Cx):Prop where
 C:BC X
 nd:X.N.Nodup
noncomputable def Cx.tr(X:Cx)(xe:YZ->Zd->Prop)(pn:List (Zh×bX)):Cx:={X with xe:=xe,pn:=pn}
noncomputable def Cx.hn(X:Cx)(e:YZ):Cx:={X with A:=X.A.mark (YW e),lu:=false,xe:=λ_ _=>False}
section
variable{X:Cx}{lh:List (Zh×bX)}{σ:L2.St}{H H':Hp}{s:Zd}{xe:YZ->Zd->Prop}
theorem Wj{pn:List (Zh×bX)}(o:X.Ok):(Cx.tr X xe pn).Ok:=⟨o.mod,o.kind,o.glob,o.blt,o.above,o.inj,o.has,o.cab,o.hd,o.frames,o.stk,o.exf,o.bs,o.bsz,o.noex,o.exfs,o.funs,o.frf⟩
theorem Ws{pn:List (Zh×bX)}(o:(Cx.tr X xe pn).Ok):X.Ok:=⟨o.mod,o.kind,o.glob,o.blt,o.above,o.inj,o.has,o.cab,o.hd,o.frames,o.stk,o.exf,o.bs,o.bsz,o.noex,o.exfs,o.funs,o.frf⟩
theorem VJ{e:YZ}(o:X.Ok):(Cx.hn X e).Ok:=⟨o.mod,o.kind,o.glob,o.blt,o.above,o.inj,o.has,o.cab,(λz=>nomatch z),o.frames,o.stk,o.exf,o.bs,o.bsz,o.noex,o.exfs,o.funs,o.frf⟩
theorem Xg{e:YZ}(o:(Cx.hn X e).Ok)(h:X.lu=true->X.A.handled=YY):X.Ok:=⟨o.mod,o.kind,o.glob,o.blt,o.above,o.inj,o.has,o.cab,h,o.frames,o.stk,o.exf,o.bs,o.bsz,o.noex,o.exfs,o.funs,o.frf⟩
theorem TR(I:Inv X lh σ H s):Inv (Cx.tr X xe (X.pn++lh)) [] σ H s:=⟨Wj I.ok,I.os,I.bare,I.base,I.loc,I.cell,I.free,I.freeC,λp hp=>I.pin p (by simpa [Cx.tr] using hp),I.hok,I.len⟩
theorem CJ{ps:List (Zh×bX)}(I:Inv (Cx.tr X xe (X.pn++lh)) ps σ H s):Inv X lh σ H s:=⟨Ws I.ok,I.os,I.bare,I.base,I.loc,I.cell,I.free,I.freeC,λp hp=>I.pin p (eZ _ (by simpa [Cx.tr] using hp)),I.hok,I.len⟩
theorem Vp{e:YZ}(I:Inv X lh σ H s):Inv (Cx.hn X e) lh σ H s:=⟨VJ I.ok,I.os,I.bare,I.base,I.loc,I.cell,I.free,I.freeC,I.pin,I.hok,I.len⟩
theorem P3{e:YZ}(I:Inv (Cx.hn X e) lh σ H s)(h:X.lu=true->X.A.handled=YY):Inv X lh σ H s:=⟨Xg I.ok h,I.os,I.bare,I.base,I.loc,I.cell,I.free,I.freeC,I.pin,I.hok,I.len⟩
theorem Gk{M:Model}{A:aC}{E:YZ->Zd->Prop}{i:Nat}{n:Z3}{pos:eE}{Q:Unit->Zd->Prop}(I:Inv X lh σ H s)(hN:X.N.Nodup)(hi:X.N[i]? =YW n)(hl:X.env.kindOf n=YW .local)
  (k:∀ s',Inv X lh (σ.set i YY) H s'->Q () s'):Z0 M A (do bindName X.env n .none;unbindBehindTheSuite X.env n pos) Q E s:=by
 obtain ⟨m,hn,hlk⟩:=id I.loc
 refine wpAny_nameGoes_keeps hl hn (by rw [I.ok.kind];rfl) λh' v hn' hs=>k _ ?_
 have hiσ:i < σ.length:=by rw [I.len];exact (Zi.mp hi).1
 obtain ⟨oL,_,_,hoL,_⟩:=id hn
 have below:∀ b o,X.s₀.heap.get? b=YW o->b≠X.env.locals:=λb o e=>aE (Zt (Z7 e) I.ok.above)
 refine ⟨I.ok,I.os,I.bare,⟨λb o e n hb hx=>(hs.2 b (below b o e)).trans (I.base.keep b o e n hb hx),λb o e n hb hx=>?_,I.base.free,λb o e hx=>?_,I.base.tups,I.base.frzs,I.base.tbls⟩,⟨_,hn',λj y v' e1 e2 e3=>?_⟩,λy c e=>?_,I.free,I.freeC,λp hp=>?_,λb ob e=>?_,by simpa using I.len⟩
 ·obtain ⟨sl,z⟩:=I.base.slot b o e n hb hx
  exact ⟨sl,(hs.2 b (below b o e)).trans z⟩
 ·obtain ⟨o',z⟩:=I.base.there b o e hx
  exact ⟨o',(hs.2 b (below b o e)).trans z⟩
 ·by_cases hj:i=j
  ·subst hj
   rw [gG hiσ] at e2
   cases e2
  ·rw [fA hj] at e2
   obtain ⟨u,r,q⟩:=hlk j y v' e1 e2 e3
   refine ⟨u,r,?_⟩
   rcases q with ⟨k1,k2⟩ | ⟨k1,c,k2,k3⟩
   ·refine .inl ⟨k1,?_⟩
    have:y≠n:=λz=>hj (Fu hN (z ▸ hi) e1)
    show (if y=n then v else m y)=YW u
    rw [qz this]
    exact k2
   ·exact .inr ⟨k1,c,k2,k3.sameBut hs (I.cne y c k2)⟩
 ·obtain ⟨w',z⟩:=I.cell y c e
  exact ⟨w',z.sameBut hs (I.cne y c e)⟩
 ·obtain ⟨e,n,ne,nf,d⟩:=I.pin p hp
  exact ⟨(hs.2 p.1 ne).trans e,n,ne,nf,d⟩
 ·refine (I.hok b ob e).stay (λc w' hc q=>(hs.2 c λz=>?_).trans q) (λ_ q=>q) λ_ _ q=>q
  subst z
  rcases hc with z | z
  ·rw [<- z,I.free] at e;cases e
  ·rw [I.free] at z;cases z
noncomputable def X0(ea:Zh)(oe:bX):HO:=.ext λh=>h.get? ea=YW oe
theorem R3{P:Z8}{w:ZN}{h:ZM}{ea:Zh}{oe:bX}(hok:HOk P w H h)(hn:H ea=YY)(he:h.get? ea=YW oe):HOk P w (upd H ea (X0 ea oe)) h:=λb u e=>by
 by_cases z:b=ea
 ·subst z
  rw [qr] at e
  cases e
  exact ⟨he,⟨oe,he⟩,λh1 h2 q k=>k _ q⟩
 ·rw [qb z] at e
  exact (hok b u e).stay (λ_ _ _ q=>q) (λc q=>by rw [qb (jq q hn)];exact q) λc xs q=>by rw [qb (jq q hn)];exact q
theorem U6{fs:List Zh}{h h':ZM}{ea:Zh}{o:HO}(U:Un fs [] H H' h h')(h0:h.get? ea=YY)(hn:H' ea=YY):Un fs [] H (upd H' ea o) h h' where
 keep:=U.keep
 slot:=U.slot
 free:=λb ob q n hx=>by
  rw [qb λz=>by rw [z,h0] at q;cases q]
  exact U.free b ob q n hx
 there:=U.there
 tups:=λb xs q=>by rw [qb (jq (U.tups b xs q) hn)];exact U.tups b xs q
 frzs:=λb ob u q=>by rw [qb (jq (U.frzs b ob u q) hn)];exact U.frzs b ob u q
 tbls:=λb ps q=>by
  obtain ⟨more,z⟩:=U.tbls b ps q
  exact ⟨more,by rw [qb (jq z hn)];exact z⟩
end
section
variable{X:Cx}{XO:F7}{cv:Cfg}{body suite:List aG}{b0:aG}{a b:FS}{pos hpos np:eE}{x n:Z3}{sub:Nat->Bool}{k:Nat}
theorem WL{e:YZ}(C:BC X):BC (Cx.hn X e):=⟨C.hu,C.mlen,C.mint,C.mbool,C.mstr,C.mtuple,C.mlist,C.misi,C.mrange,C.menum,C.mzip,C.mrev⟩
theorem Wh{xe:YZ->Zd->Prop}{pn:List (Zh×bX)}(C:BC X):BC (Cx.tr X xe pn):=⟨C.hu,C.mlen,C.mint,C.mbool,C.mstr,C.mtuple,C.mlist,C.misi,C.mrange,C.menum,C.mzip,C.mrev⟩
theorem Lf{i:Nat}{lh:List (Zh×bX)}{σ:L2.St}{H₀ F H:Hp}{s:Zd}{D:Ends}{ρ:f9}{r:RS}{c:Nat}{ea T:Zh}{oe oT:bX}{vs ts:Array YZ}(Hn:HanF X.K X.mg cv.cv x sub)(C:BC X)(nd:X.N.Nodup)(hcalm:X.lu=true->X.A.handled=YY)
  (I:Inv X lh σ H s) (g:SR cv H₀ F ρ σ H) (hx:H ea=YW (X0 ea oe)) (he:s.heap.get? ea=YW oe) (hcl:oe.cls=cv.cv c) (hdd:oe.dict=YY) (hd:oe.data= .fields vs) (h1:vs[1]? =YW (.ref T)) (hT:s.heap.get? T=YW oT) (hdT:oT.data= .fields ts) (h3:ts[3]? =YW .none)
  (hsub:sub c=true) (hb:(match b (ρ.set i (YW (.ex c))) with
    | some (.ret d)=>YW (.ret d)
    | some (.next ρ2)=>YW (.next (ρ2.set i YY))
    | _=>YY)=YW r) (kk:KS cv XO H₀ F D r)
  (hh:∀ e,BodyH (Cx.hn X e)->PSs (Cx.hn X e) (b0::suite) (tS cv (λ_ _ _=>False) b))
  (hi:X.N[i]? =YW n) (hl:X.env.kindOf n=YW .local) (hin:eV i cv.n=true) (hg:Gl X x) (hdb:(x == ("__debug__":Z3))=false) (hfn:X.fn n=true∨X.env.scope.names.lookup n=YW .local):
  Z0 (ZD X.prog X.w) X.A (handleBy (.ref ea) X.env [.ExceptHandler (YW (.Name x np)) (YW n) (b0::suite) hpos]) (SP X lh D) X.xe s:=by
 obtain ⟨Cv,hm,hex⟩:=Hn.nm
 have I1:Inv (Cx.hn X (.ref ea)) lh σ H s:=Vp I
 refine wpAny_handleBy_cons (codeAny_handlers_test (C3 (X:=Cx.hn X (.ref ea)) I1 hg hm ?_ hdb)) (by intro q;cases q)
 have LT:PySem.W.Looks (ZD X.prog X.w) s.heap (typeOf (.ref ea)) (cv.cv c):=by
  rw [<- hcl]
  exact (PySem.W.Looks.ld he).andThen .now
 refine (PySem.W.exm_one I.kIn LT (hex c)).here ?_
 rw [hsub]
 refine codeAny_handlers_suite_as ?_
 have hsz:3 < ts.size:=(bN.mp h3).1
 refine wpAny_setFlight_none he hd h1 hT hdT hsz ?_
 have iY:∀ b o,s.heap.get? b=YW o->(s.heap.update T (cJ (·.setIfInBounds 3 ZI))).get? b=YW o:=λb o q=>by
  by_cases z:b=T
  ·subst z
   rw [hT] at q
   cases q
   exact D2 hT hdT h3
  ·rw [bA _ _ (eT z)];exact q
 have I2:Inv (Cx.hn X (.ref ea)) lh σ H {s with heap:=s.heap.update T (cJ (·.setIfInBounds 3 ZI))}:=I1.kept (t':=s.toks) iY
 refine Cf (X:=Cx.hn X (.ref ea)) I2 nd hi (.inl hl) (v:=.ref ea) rfl (λs3 I3=>?_) hfn
 have g3:SR cv H₀ F (ρ.set i (YW (.ex c))) (σ.set i (YW (.ref ea))) H:=g.put hin λO o=>⟨ea,rfl,_,hx,λh q=>⟨oe,q,hcl,hdd,vs,hd⟩⟩
 cases hbr:b (ρ.set i (YW (.ex c))) with
 | none=>rw [hbr] at hb;cases hb
 | some y=>
  rw [hbr] at hb
  let D':Ends:={nx:=λσ' H'=>∃ ρ2,y= .next ρ2/\SR cv H₀ F ρ2 σ' H',rt:=λv H'=>D.rt v H'}
  have run:=hh (.ref ea) ⟨WL C,nd⟩ lh s3 _ H D' I3 ⟨H₀,F,_,y,g3,hbr,?_⟩
  ·refine fB run (λf s4 h4=>?_) λ_ _ z=>z.elim
   cases f with
   | next=>
    obtain ⟨σ',H',J,ρ2,e2,g4⟩:=h4
    subst e2
    cases hb
    refine Gk (P3 J hcalm) nd hi hl λs5 J5=>⟨_,H',J5,kk _ _ ?_⟩
    obtain ⟨O,o⟩:=g4.ex
    refine ⟨g4.s0,g4.s1,by simp [g4.len],by simp [g4.ln],O,o.fr,o.ls,λj t e=>?_⟩
    have hρ:i < ρ2.length:=by rw [g4.len];exact dX.mp hin
    by_cases hij:i=j
    ·subst hij
     rw [q9 _ _ _ _ hρ,jn rfl] at e
     cases e
    ·rw [q9 _ _ _ _ hρ,qz hij] at e
     rw [fA hij]
     exact o.sl j t e
   | ret u=>
    obtain ⟨v,σ',H',J,rv,q⟩:=h4
    exact Gk (P3 J hcalm) nd hi hl λs5 J5=>⟨v,_,H',J5,rv,q⟩
   | brk=>obtain ⟨_,_,_,q⟩:=h4;exact q.elim
   | cont=>obtain ⟨_,_,_,q⟩:=h4;exact q.elim
  ·cases y with
   | next ρ2=>exact λσ' H' g'=>⟨ρ2,rfl,g'⟩
   | ret d=>cases hb;exact kk
   | exc c' ρ'=>cases hb
   | brk ρ'=>cases hb
   | cont ρ'=>cases hb
   | retL d ds=>cases hb
theorem Xh(Hn:HanF X.K X.mg cv.cv x sub)(i:Nat)(C:BC X)(hr:Room k X.A)(hc:X.lu=true)(nd:X.N.Nodup)
  (hb:∀ xe pn XO',BodyT cv.cv k (Cx.tr X xe pn) XO'->PSs (Cx.tr X xe pn) body (tS cv XO' a))
  (hh:∀ e,BodyH (Cx.hn X e)->PSs (Cx.hn X e) (b0::suite) (tS cv (λ_ _ _=>False) b))
  (hst:X.stack=X.env::X.lj:=by rfl) (hi:X.N[i]? =YW n:=by rfl) (hl:X.env.kindOf n=YW .local:=by rfl) (hin:eV i cv.n=true:=by rfl) (hg:Gl X x:=by rfl) (hdb:(x == ("__debug__":Z3))=false:=by decide)
  (hfn:X.fn n=true∨X.env.scope.names.lookup n=YW .local:=by first | exact .inl rfl | exact .inr rfl):
  PS X (.Try body [.ExceptHandler (YW (.Name x np)) (YW n) (b0::suite) hpos] [] [] pos) (tS cv XO (PD a sub i b)):=by
 intro lh s σ H D I ⟨H₀,F,ρ,r,g,e,kk⟩
 refine wpAny_Try_except ?_
 let E':YZ->Zd->Prop:=λe s1=>Z0 (ZD X.prog X.w) X.A (noteFrame e X.env) (λ_ s2=>Z0 (ZD X.prog X.w) X.A (setFlight e YY) (λ_ s3=>Z0 (ZD X.prog X.w) X.A (handleBy e X.env [.ExceptHandler (YW (.Name x np)) (YW n) (b0::suite) hpos]) (SP X lh D) X.xe s3) X.xe s2) X.xe s1
 let XO':F7:=λc σ' H'=>∃ ρ',a ρ=YW (.exc c ρ')/\SR cv H₀ F ρ' σ' H'
 have hL:D4 (ji X.prog X.w) (Cx.tr X E' (X.pn++lh)) ⟨cv.cv,XO'⟩:=by
  intro ps σ1 H1 s1 ev s2 J hcx
  obtain ⟨ea,cls,H2,rfl,os,bare,un,hok,xt,c,hcls,ρ',ha,g2⟩:=hcx
  have hcls:cls=cv.cv c:=hcls
  subst hcls
  have hf:X.env.frame=YW X.env.locals:=Dm (CJ J) hst
  have hstk:(Cx.tr X E' (X.pn++lh)).stack=X.env::X.lj:=hst
  rw [hstk] at un
  have ff:=J.stack
  rw [hstk] at ff
  have fr:=J.stkFree
  rw [hstk] at fr
  have fm:X.A.frames=YW (X.env::X.lj):=by rw [<- hst];exact I.ok.frames
  refine Xk (H₀:=H1) (s₀:=s1) fm hf ff fr Un.refl un hok xt λh3 y1 y2 y3=>?_
  obtain ⟨z1,z2,oe,vs,T,oT,ts,he,hc1,hdd,hd,h1,t1,t2,tne,hT,hdT,ht3⟩:=y3
  have U3:Un (sf (Cx.tr X E' (X.pn++lh)).stack) [] H1 (upd H2 ea (X0 ea oe)) s1.heap h3:=by rw [hstk];exact U6 y1 z1 z2
  have J3:Inv (Cx.tr X E' (X.pn++lh)) ps σ1 (upd H2 ea (X0 ea oe)) {s2 with heap:=h3}:=J.call' os U3 (R3 y2 z2 he) bare λb z=>(nomatch z)
  unfold PD at e
  rw [ha] at e
  dsimp only at e
  split at e
  ·rename_i hsub
   exact Lf Hn C nd I.ok.hd (CJ J3) (g2.same (qp z2 _)) qr he hc1 hdd hd h1 hT hdT ht3 hsub e kk hh hi hl hin hg hdb hfn
  ·cases e
 have run:=hb E' (X.pn++lh) XO' ⟨Wh C,hr,hL,eP.looking,hc,nd⟩ [] s σ H D (TR I)
 have hw:tS cv XO' a D σ H:=by
  unfold PD at e
  cases ha:a ρ with
  | none=>rw [ha] at e;cases e
  | some y=>
   rw [ha] at e
   refine ⟨H₀,F,ρ,y,g,ha,?_⟩
   cases y with
   | exc c ρ'=>exact λσ' H' g'=>⟨ρ',ha,g'⟩
   | next ρ'=>cases e;exact kk
   | ret d=>cases e;exact kk
   | brk ρ'=>cases e;exact kk
   | cont ρ'=>cases e;exact kk
   | retL d ds=>cases e;exact kk
 refine fB (run hw) (λf s1 h1=>?_) λ_ _ z=>z
 cases f with
 | next=>
  obtain ⟨σ',H',J,q⟩:=h1
  show Z0 _ _ (execs [] X.env) _ _ _
  unfold execs
  exact Zr ⟨σ',H',CJ J,q⟩
 | ret u=>obtain ⟨v,σ',H',J,rv,q⟩:=h1;exact ⟨v,σ',H',CJ J,rv,q⟩
 | brk=>obtain ⟨σ',H',J,q⟩:=h1;exact ⟨σ',H',CJ J,q⟩
 | cont=>obtain ⟨σ',H',J,q⟩:=h1;exact ⟨σ',H',CJ J,q⟩
end
noncomputable def Ad(cells:List (Z3×Zh)):List (Z3×bY)->List (Z3×Zh)->List (Z3×Zh)
 | [],acc=>acc
 | (n,k)::r,acc=>Ad cells r (if k == .free then (n,(cells.lookup n).getD 0)::acc else acc)
theorem LU{env:Env}:∀ (ns:List (Z3×bY)) (acc:List (Z3×Zh)),(∀ z∈ns,z.2= .free->∃ c,env.cells.lookup z.1=YW c)->
  (forIn ns acc λ(x:Z3×bY) (cs:List (Z3×Zh))=>if x.2 == .free then (do let a <- cellOf env x.1;pure (eM ((x.1,a)::cs)):Sem _) else pure (eM cs))=(pure (Ad env.cells ns acc):Sem _)
 | [],acc,_=>by simp [Ad]
 | (n,k)::r,acc,h=>by
  rw [List.forIn_cons]
  have ih:=λacc'=>LU (env:=env) r acc' λz hz=>h z (Z5 _ hz)
  by_cases hk:k= .free
  ·obtain ⟨c,hc⟩:=h (n,k) Zz hk
   have hc:env.cells.lookup n=YW c:=hc
   have e:cellOf env n=pure c:=by unfold cellOf;rw [hc]
   simp only [hk,beq_self_eq_true,if_true,e]
   exact (ih ((n,c)::acc)).trans (by simp [Ad,hc])
  ·have hb:(k == cK)=false:=by simpa using hk
   simp only [hb,Z4,if_false]
   exact (ih acc).trans (by simp [Ad,hb])
theorem LA{scope:jC}{env:Env}(h:∀ z∈scope.names,z.2= .free->∃ c,env.cells.lookup z.1=YW c):closureFor scope env=pure (Ad env.cells scope.names []):=by
 have:=LU (env:=env) scope.names [] h
 unfold closureFor
 show (forIn scope.names [] _ >>= _)=_
 have e:(forIn scope.names ([]:List (Z3×Zh)) λ(x:Z3×bY) (cs:List (Z3×Zh))=>(match x with
  | (name,kind)=>if (kind == cK)=true then (do let a <- cellOf env name;pure (eM ((name,a)::cs)):Sem _) else pure (eM cs)))=pure (Ad env.cells scope.names []):=this
 first
  | (rw [e];rfl)
  | exact congrArg (λm:Sem (List (Z3×Zh))=>m >>= λcs=>pure cs) e
theorem Cg{cells:List (Z3×Zh)}:∀ (ns:List (Z3×bY)) (acc:List (Z3×Zh)),(∀ z∈ns,z.2= .free->∃ c,cells.lookup z.1=YW c)->∀ x c,(x,c)∈Ad cells ns acc->(x,c)∈acc∨cells.lookup x=YW c
 | [],acc,_,x,c,h=>.inl h
 | (n,k)::r,acc,hf,x,c,h=>by
  unfold Ad at h
  rcases Cg r _ (λz hz=>hf z (Z5 _ hz)) x c h with z | z
  ·by_cases hk:k= .free
   ·obtain ⟨c',hc⟩:=hf (n,k) Zz hk
    have hc:cells.lookup n=YW c':=hc
    rw [jn (by simp [hk]),hc] at z
    rcases ZP.mp z with e | e
    ·cases e;exact .inr hc
    ·exact .inl e
   ·rw [qz (by simp [hk])] at z;exact .inl z
  ·exact .inr z
theorem IK{cells:List (Z3×Zh)}:∀ (ns:List (Z3×bY)) (acc:List (Z3×Zh)) x,(∃ c,acc.lookup x=YW c)->∃ c,(Ad cells ns acc).lookup x=YW c
 | [],acc,x,h=>h
 | (n,k)::r,acc,x,h=>by
  unfold Ad
  refine IK r _ x ?_
  by_cases hk:k= .free
  ·rw [jn (by simp [hk])]
   obtain ⟨c,hc⟩:=h
   by_cases e:(x == n)=true
   ·exact ⟨_,by rw [bU,e]⟩
   ·have e:(x == n)=false:=by simpa using e
    exact ⟨c,by rw [bU,e];exact hc⟩
  ·rw [qz (by simp [hk])];exact h
theorem Cy{cells:List (Z3×Zh)}:∀ (ns:List (Z3×bY)) (acc:List (Z3×Zh)) x,(x,cK)∈ns->∃ c,(Ad cells ns acc).lookup x=YW c
 | [],acc,x,h=>by cases h
 | (n,k)::r,acc,x,h=>by
  unfold Ad
  rcases ZP.mp h with e | e
  ·cases e
   refine IK r _ _ ?_
   rw [jn (by simp)]
   exact ⟨_,by rw [bU,beq_self_eq_true]⟩
  ·exact Cy r _ x e
theorem s8{β:Type}:∀ {l:List (Z3×β)} {x:Z3} {c:β},l.lookup x=YW c->(x,c)∈l:=λh=>cF h
noncomputable def Ii(X:Cx)(scope:jC)(N:List Z3)(cl:List (Z3×Zh))(Ca:Zh)(s2:Zd)(H2:Hp)(fp:List Zh):Cx:=
 {X with N:=N,s₀:=s2,H₀:=H2,env:=compEnvC scope cl Ca X.env,lj:=X.stack,ex:=fp,fn:=λ_=>false,pn:=[],xe:=λ_ _=>False}
structure BodyC(cv:Nat->YZ)(k:Nat)(X:Cx):Prop where
 C:BC X
 hr:Room k X.A
 L:D4 (ji X.prog X.w) X ⟨cv,λ_ _ _=>False⟩
theorem BK{env:Env}:∀ {names:List (Z3×bY)} {x:Z3} {k:bY},(names.map λ(n,k)=>if (k == cK && env.scope.kind == .function && env.kindOf n == YW .cell) then (n,bY.cell) else (n,k)).lookup x=YW k->
  (k= .cell∨k= .free)->(∀ z∈names,z.2≠.cell)->(x,cK)∈names
 | [],_,_,h,_,_=>by simp at h
 | (n,k0)::r,x,k,h,hk,hc=>by
  rw [ZC,bU] at h
  have hc':∀ z∈r,z.2≠.cell:=λz hz=>hc z (Z5 _ hz)
  by_cases hb:(k0 == cK && env.scope.kind == .function && env.kindOf n == YW .cell)=true
  ·have k0f:k0= .free:=by
     simp only [Zn,beq_iff_eq] at hb
     exact hb.1.1
   simp only [jn hb] at h
   by_cases e:(x == n)=true
   ·have:x=n:=by simpa using e
    subst this;subst k0f
    exact Zz
   ·have e:(x == n)=false:=by simpa using e
    rw [e] at h
    exact Z5 _ (BK h hk hc')
  ·simp only [qz hb] at h
   by_cases e:(x == n)=true
   ·have:x=n:=by simpa using e
    subst this
    rw [e] at h
    cases h
    rcases hk with z | z
    ·exact absurd z (hc _ Zz)
    ·rw [z];exact Zz
   ·have e:(x == n)=false:=by simpa using e
    rw [e] at h
    exact Z5 _ (BK h hk hc')
section
variable{X:Cx}{XO:XOT}{y:Z3}{yp pos:eE}{iter elt:ZY}{scope:jC}{fi:FI}{f:FE}{ids:List Nat}{fr:List Z3}{k:Nat}
theorem Sk{lh:List (Zh×bX)}{σ:L2.St}{H2:Hp}{s2:Zd}{fp:List Zh}{Ca:Zh}{N:List Z3}(I:Inv X lh σ H2 s2)(hf:∀ b∈fp,JX X lh H2 b)(hfo:∀ b∈fp,∃ o,s2.heap.get? b=YW o)(hC:s2.heap.objs.size<=Ca)
  (hkind:scope.kind= .function) (hcell:∀ z∈scope.names,z.2≠.cell) (hfree:∀ z∈scope.names,z.2= .free->∃ c,X.env.cells.lookup z.1=YW c):
  (Ii X scope N (Ad X.env.cells scope.names []) Ca s2 H2 fp).Ok:=by
 have sub:∀ x c,(Ad X.env.cells scope.names []).lookup x=YW c->X.env.cells.lookup x=YW c:=λx c e=>by
  rcases Cg _ _ hfree x c (s8 e) with z | z
  ·cases z
  ·exact z
 refine ⟨I.ok.mod,hkind,I.ok.glob,I.ok.blt,hC,λx z c h1 h2=>I.ok.inj x z c (sub x c h1) (sub z c h2),λx hx=>?_,λx c h=>(nomatch h),I.ok.hd,I.ok.frames,.inl rfl,λb hb=>?_,I.bs,Zo I.ok.bsz I.sz,λb o e hb=>?_,λb hb hs=>?_,I.stack,I.stkFree⟩
 ·rcases hx with h | h
  ·exact Cy _ _ x (BK (show (relabel scope X.env).names.lookup x=YW _ from h) (.inl rfl) hcell)
  ·exact Cy _ _ x (BK (show (relabel scope X.env).names.lookup x=YW _ from h) (.inr rfl) hcell)
 ·obtain ⟨o,e⟩:=hfo b hb
  exact ⟨aE (Zt (Z7 e) hC),λx c h=>(hf b hb).2.2.2.2.1 x c (sub x c h)⟩
 ·rcases (hf b hb).2.2.2.1 with z | z
  ·exact I.ok.noex b o e z
  ·exact absurd (Z7 (I.ok.bs b o e).1) (Nat.not_lt.mpr z)
 ·rcases ZP.mp (I.stkSub b hs) with z | z
  ·exact (hf b hb).2.1 z
  ·exact (hf b hb).2.2.1 z
theorem Yt{N:List Z3}{cl:List (Z3×Zh)}{Ca:Zh}{s2:Zd}{H2:Hp}{fp:List Zh}(C:BC X):BC (Ii X scope N cl Ca s2 H2 fp):=⟨C.hu,C.mlen,C.mint,C.mbool,C.mstr,C.mtuple,C.mlist,C.misi,C.mrange,C.menum,C.mzip,C.mrev⟩
end
theorem F1{env:Env}:∀ {names:List (Z3×bY)} {x:Z3},names.lookup x=YW .free->
  (names.map λ(n,k)=>if (k == cK && env.scope.kind == .function && env.kindOf n == YW .cell) then (n,bY.cell) else (n,k)).lookup x=YW .cell∨
  (names.map λ(n,k)=>if (k == cK && env.scope.kind == .function && env.kindOf n == YW .cell) then (n,bY.cell) else (n,k)).lookup x=YW .free
 | [],_,h=>by simp at h
 | (n,k)::r,x,h=>by
  rw [ZC,bU]
  rw [bU] at h
  by_cases hb:(k == cK && env.scope.kind == .function && env.kindOf n == YW .cell)=true
  ·simp only [jn hb]
   by_cases e:(x == n)=true
   ·rw [e];exact .inl rfl
   ·have e:(x == n)=false:=by simpa using e
    rw [e] at h ⊢
    exact F1 h
  ·simp only [qz hb]
   by_cases e:(x == n)=true
   ·rw [e] at h ⊢;exact .inr h
   ·have e:(x == n)=false:=by simpa using e
    rw [e] at h ⊢
    exact F1 h
theorem DN{α β:Type}{M:Model}{A:aC}{a:α}{t:Sem β}{P:α->Zd->Prop}{Q:β->Zd->Prop}{E E':YZ->Zd->Prop}{s:Zd}(h:Z0 M A (pure a) P E s)(k:P a s->Z0 M A t Q E' s):Z0 M A t Q E' s:=
 λΓ p hΓ=>k (h Γ p hΓ) Γ p hΓ
noncomputable def SM(σ:L2.St)(ids:List Nat):L2.St:=ids.map λi=>(σ[i]?).join
section
variable{X:Cx}{XO:XOT}{y:Z3}{yp pos:eE}{iter elt:ZY}{scope:jC}{fi:FI}{f:FE}{ids:List Nat}{fr:List Z3}{k:Nat}
theorem Pg{lh:List (Zh×bX)}{σ:L2.St}{H2:Hp}{s2:Zd}{fp:List Zh}{Ca:Zh}{h1:ZM}{t1:Nat}{m:Z3->Option YZ}(I:Inv X lh σ H2 s2)(ok:(Ii X scope (y::fr) (Ad X.env.cells scope.names []) Ca s2 H2 fp).Ok)
  (hfree:∀ z∈scope.names,z.2= .free->∃ c,X.env.cells.lookup z.1=YW c) (hC:s2.heap.objs.size<=Ca) (old:∀ b o,s2.heap.get? b=YW o->h1.get? b=YW o) (hns:h1.Ns Ca m)
  (hids:ids.map (λi=>X.N[i]?)=fr.map YW) (hfr:∀ n∈fr,scope.names.lookup n=YW .free/\X.env.scope.names.lookup n=YW .cell):
  Inv (Ii X scope (y::fr) (Ad X.env.cells scope.names []) Ca s2 H2 fp) [] (YY::SM σ ids) H2 {s2 with heap:=h1,toks:=t1}:=by
 have sub:∀ x c,(Ad X.env.cells scope.names []).lookup x=YW c->X.env.cells.lookup x=YW c:=λx c e=>by
  rcases Cg _ _ hfree x c (s8 e) with z | z
  ·cases z
  ·exact z
 have lq:ids.length=fr.length:=by simpa using congrArg eJ hids
 refine ⟨ok,rfl,I.bare,Un.kept old,⟨m,hns,λi x v e1 e2 e3=>?_⟩,λx c e=>?_,I.hok.fresh hC,λx c e=>I.freeC x c (sub x c e),λp hp=>(nomatch hp),I.hok.kept old,by simp [Ii,SM,lq]⟩
 ·cases i with
  | zero=>cases e2
  | succ j=>
   have e1:fr[j]? =YW x:=e1
   have e2:(ids.map λi=>(σ[i]?).join)[j]? =YW (YW v):=e2
   rw [ZG] at e2
   cases hj:ids[j]? with
   | none=>rw [hj] at e2;cases e2
   | some i'=>
    rw [hj] at e2
    have e2:(σ[i']?).join=YW v:=ZS e2
    have hσ:σ[i']? =YW (YW v):=by
     cases q:σ[i']? with
     | none=>rw [q] at e2;cases e2
     | some w=>rw [q] at e2;cases w with
      | none=>cases e2
      | some w=>cases e2;rfl
    have hN:X.N[i']? =YW x:=by
     have:=congrArg (λl=>l[j]?) hids
     simp only [ZG,hj,e1,aH] at this
     exact ZS this
    obtain ⟨hf1,hf2⟩:=hfr x (hV e1)
    obtain ⟨m0,_,hl⟩:=I.loc
    obtain ⟨u,ru,lk⟩:=hl i' x v hN hσ (.inr (.inl hf2))
    refine ⟨u,ru,.inr ⟨F1 (env:=X.env) hf1,?_⟩⟩
    rcases lk with ⟨z,_⟩ | ⟨_,c,hc,hcell⟩
    ·rw [show X.env.kindOf x=YW bY.cell from hf2] at z;cases z
    ·obtain ⟨c',hc'⟩:=Cy (cells:=X.env.cells) scope.names [] x (s8 hf1)
     have:=sub x c' hc'
     rw [hc] at this
     cases this
     obtain ⟨o,ho,hd⟩:=hcell
     exact ⟨c,hc',o,old c o ho,hd⟩
 ·obtain ⟨v,o,ho,hd⟩:=I.cell x c (sub x c e)
  exact ⟨v,o,old c o ho,hd⟩
theorem Vu{H₀ Hs H H1:Hp}{ρ:f9}{σ:L2.St}{d:YX}{x:V}(g:G XO.cv H₀ Hs ρ σ H)(s:Same H H1)(rx:Rep (λ_ _=>False) H1 d x):
  G XO.cv H1 H1 (YW (.par d)::ids.map λi=>mw ρ[i]?) (YW x::SM σ ids) H1:=by
 refine ⟨Same.refl _,Same.refl _,λi t e=>?_⟩
 cases i with
 | zero=>cases e;exact ⟨x,rfl,rx.imp λ_ _ z=>z.elim⟩
 | succ j=>
  have e:(ids.map λi=>mw ρ[i]?)[j]? =YW (YW t):=e
  rw [ZG] at e
  show VS XO.cv H1 (SM σ ids)[j]? H1 t
  unfold SM
  rw [ZG]
  cases hj:ids[j]? with
  | none=>rw [hj] at e;cases e
  | some i'=>
   rw [hj] at e
   have e:mw ρ[i']? =YW t:=ZS e
   unfold mw at e
   split at e
   ·rename_i d' hρ
    cases e
    obtain ⟨v,h1,h2⟩:=g.vr i' _ hρ
    exact ⟨v,by simp [h1],h2.same s⟩
   ·rename_i d' hρ
    cases e
    obtain ⟨v,h1,h2⟩:=g.vr i' _ hρ
    exact ⟨v,by simp [h1],(h2.imp λ_ _ _=>trivial).same s⟩
   ·rename_i d' hρ
    cases e
    obtain ⟨v,h1,h2⟩:=g.vr i' _ hρ
    exact ⟨v,by simp [h1],(h2.imp λ_ _ _=>trivial).same s⟩
   ·cases e
theorem F0(C:BC X)(hr:Room k X.A)(hc:X.lu=true)(hi:PI X (.Name y yp) iter (tI XO fi))
  (he:∀ cl Ca s2 H2 fp,BodyC XO.cv k (Ii X scope (y::fr) cl Ca s2 H2 fp)->PE (Ii X scope (y::fr) cl Ca s2 H2 fp) elt (tF ⟨XO.cv,λ_ _ _=>False⟩ f))
  (nd:(y::fr).Nodup:=by decide +kernel) (hkind:scope.kind= .function:=by rfl) (hcell:∀ z∈scope.names,z.2≠.cell:=by decide +kernel) (hnames:∀ z∈scope.names,z.2= .local->scope.names.lookup z.1=YW .local:=by decide +kernel)
  (hy:scope.names.lookup y=YW .local:=by rfl) (hids:ids.map (λi=>X.N[i]?)=fr.map YW:=by rfl)
  (hfr:∀ n∈fr,scope.names.lookup n=YW .free/\X.env.scope.names.lookup n=YW .cell:=by first | (dsimp only [CH,iZ,Cx.tr,Cx.hn,Ii,compEnvC];decide +kernel) | decide +kernel) (hall:∀ z∈scope.names,z.2= .free->X.env.scope.names.lookup z.1=YW .cell:=by first | (dsimp only [CH,iZ,Cx.tr,Cx.hn,Ii,compEnvC];decide +kernel) | decide +kernel)
  (hs:∀ x,eU iter X.env x=pure x:=by intro _;rfl):PE X (.ListComp elt [⟨.Name y yp,iter,[],0⟩] scope pos) (tF XO (ro fi ids f)):=by
 intro lh s σ H Q I ⟨H₀,Hs,ρ,r,g,e,kk⟩
 have hfree:∀ z∈scope.names,z.2= .free->∃ c,X.env.cells.lookup z.1=YW c:=λz hz hk=>I.ok.has z.1 (.inl (hall z hz hk))
 rw [eval_ListComp]
 refine wpAny_comprehension_free (use:=YY) rfl hs (LA hfree) hkind hnames ?_
 unfold ro at e
 cases hfi:fi ρ with
 | none=>rw [hfi] at e;cases e
 | some ri=>
 rw [hfi] at e
 cases ri with
 | exc c=>
  refine bj (hi lh s σ H (λ_ _=>False) I ⟨H₀,Hs,ρ,.exc c,g,hfi,λl ds J H1 z=>(nomatch z),λc' H' z sm=>?_⟩) λv s1 h1=>bj h1 λitv s2 h2=>?_
  ·cases z
   exact kk.2 c H' (ZS e).symm sm
  ·obtain ⟨_,_,_,_,_,_,_,_,_,_,z⟩:=h2
   exact z.elim
 | ok l ds=>
 dsimp only at e
 split at e
 rotate_left
 ·cases e
 rename_i hbig
 cases hgo:b7 f (ids.map λi=>mw ρ[i]?) ds with
 | none=>rw [hgo] at e;cases e
 | some xs=>
 rw [hgo] at e
 have er:r= .ok 2 (.list xs):=(ZS e).symm
 subst er
 refine bj (hi lh s σ H (λJ H1=>Same H H1/\Qk H₀ Hs l ds J H1) I ⟨H₀,Hs,ρ,.ok l ds,g,hfi,λl' ds' J H1 z sm it=>?_,λc H' z=>(nomatch z)⟩) λv s1 h1=>bj h1 λitv s2 h2=>?_
 ·cases z
  exact ⟨sm,it⟩
 obtain ⟨it,fp,tn,J,H2,rfl,I2,T,st2,f2,sm2,hfrom⟩:=h2
 have hy2:A9 H2 J ds:=hfrom H2 (λ_ _ z=>z) λ_ _ z=>z.rd
 have fobj:∀ b∈fp,∃ o,s2.heap.get? b=YW o:=λb hb=>let ⟨o,e,_⟩:=T.obj 0 _ st2 b hb;⟨o,e⟩
 refine bM (wpAny_newFunctionEnv hcell (by intro z hz;simp at hz) (λh1 hns hsb=>?_) hkind)
 dsimp only at hns hsb ⊢
 generalize hHp:s2.heap.push {cls:=.type "list",dict:=YY,data:=.seq ([]:List YZ).toArray} =Hp1 at hns hsb ⊢
 have hCz:Hp1.objs.size=s2.heap.objs.size+1:=by rw [<- hHp,iT]
 have hDC:s2.heap.objs.size≠Hp1.objs.size:=by omega
 have hC:s2.heap.objs.size<=Hp1.objs.size:=by omega
 have old:∀ b o,s2.heap.get? b=YW o->h1.get? b=YW o:=λb o q=>by
  have:=Z7 q
  exact hsb.extBut b o (aE (Zt this hC)) (Zk _ (hHp ▸ Zk _ q))
 have hD1:h1.get? s2.heap.objs.size=YW {cls:=.type "list",data:=.seq ([]:List YZ).toArray 0}:=hsb.extBut _ _ hDC (Zk _ (hHp ▸ ZK _ rfl))
 have ok:=Sk (N:=y::fr) (scope:=scope) I2 f2 fobj hC hkind hcell hfree
 generalize hcl:Ad X.env.cells scope.names []=cl at ok ⊢
 have sub:∀ x c,cl.lookup x=YW c->X.env.cells.lookup x=YW c:=λx c q=>by
  subst hcl
  rcases Cg _ _ hfree x c (s8 q) with z | z
  ·cases z
  ·exact z
 generalize hCa:Hp1.objs.size=Ca at hns hsb hDC hC ok ⊢
 generalize hDa:s2.heap.objs.size=Da at hDC hC hD1 hCz hCa
 have ltD:∀ b o,s2.heap.get? b=YW o->b < Da:=λb o q=>by
  have:=Z7 q
  rw [hDa] at this
  exact this
 have hDf:Da∉fp:=λhm=>by
  obtain ⟨o,q⟩:=fobj Da hm
  exact absurd (ltD _ _ q) (bC Da)
 have hDs:Da∉sf X.stack:=λhm=>by
  obtain ⟨_,o,q,_⟩:=I2.stack.mem hm
  exact absurd (ltD _ _ q) (bC Da)
 have hDcell:∀ x c,cl.lookup x=YW c->c≠Da:=λx c q z=>by
  obtain ⟨v,w⟩:=I2.cell x c (sub x c q)
  obtain ⟨o,q',_⟩:=w
  exact absurd (z ▸ ltD _ _ q') (bC Da)
 have fpok:∀ {H':Hp} {ps:List (Zh×bX)},(∀ b∈fp,H' b=YY)->(∀ p∈ps,p.1∉fp)->∀ b∈fp,JX (Ii X scope (y::fr) cl Ca s2 H2 fp) ps H' b:=λ{H' ps} hn hp b hb=>by
  obtain ⟨o,q⟩:=fobj b hb
  refine ⟨hn b hb,aE (Zt (ltD _ _ q) hC),λz=>?_,.inl hb,λx c z=>(f2 b hb).2.2.2.2.1 x c (sub x c z),λp hp' z=>?_⟩
  ·rcases ZP.mp (I2.stkSub b z) with z | z
   ·exact (f2 b hb).2.1 z
   ·exact (f2 b hb).2.2.1 z
  ·exact hp p hp' (z ▸ hb)
 have hB:BodyC XO.cv k (Ii X scope (y::fr) cl Ca s2 H2 fp):=⟨Yt C,hr,λps σ' H' s' ev s'' J' z=>by
  obtain ⟨_,_,_,_,_,_,_,_,_,_,_,w⟩:=z
  exact w.elim⟩
 have I0:Inv (Ii X scope (y::fr) cl Ca s2 H2 fp) [] (YY::SM σ ids) H2 {s2 with heap:=h1,toks:=s2.toks+([]:List (Z3×YZ)).length}:=by
  subst hcl
  exact Pg I2 ok hfree (by rw [hDa];exact hC) old hns hids hfr
 have loop:codeAny (ZD X.prog X.w) X.A (.compLoop (.ListComp elt [⟨.Name y yp,iter,[],0⟩] scope pos) 0 (.ref it) (.ref Da) (compEnvC scope cl Ca X.env)) (compPost (ZD X.prog X.w) X.A X.xe YY (EP X lh σ Q) (.ref Da) Ca) {s2 with heap:=h1,toks:=s2.toks+([]:List (Z3×YZ)).length}:=by
  obtain ⟨J',hJ⟩:∃ J':Nat->Zd->Prop,J'=(λn s'=>∃ i H' w0 its nn dv done rest,Inv (Ii X scope (y::fr) cl Ca s2 H2 fp) [] (w0::SM σ ids) H' s'/\tn i s'.heap/\(∀ b∈fp,H' b=YY)/\s'.heap.get? Da=YW {cls:=.type "list",data:=.seq its.toArray nn}/\H' Da=YY/\Same H2 H'/\
   Vals dv its/\Reps (λ_ _=>False) H' done dv/\b7 f (ids.map λi=>mw ρ[i]?) (ds.drop i)=YW rest/\xs=done++rest/\done.length=i/\i<=ds.length/\n=ds.length - i):=⟨_,rfl⟩
  refine codeAny_compLoop_list J' ?_ ds.length (by rw [hJ];exact ⟨0,H2,YY,[],0,[],[],xs,I0,T.keep _ _ _ st2 λb hb o q=>old b o q,λb hb=>(f2 b hb).1,hD1,I2.hok.fresh (iL hDa),Same.refl _,.nil,rfl,hgo,rfl,rfl,aY _,rfl⟩)
  intro n s3 h3
  rw [hJ] at h3
  obtain ⟨i,H3,w0,its,nn,dv,done,rest,I3,st3,fr3,hD3,nD3,sm3,rv,rd,hgo3,hxs,hdl,hil,rfl⟩:=h3
  have pinD:Inv (Ii X scope (y::fr) cl Ca s2 H2 fp) [(Da,{cls:=.type "list",data:=.seq its.toArray nn})] (w0::SM σ ids) H3 s3:=I3.pins_of λp hp=>by
   have z:p=(Da,{cls:=.type "list",data:=.seq its.toArray nn}):=by simpa using hp
   subst z
   exact ⟨hD3,nD3,hDC,hDs,λv z=>(nomatch z)⟩
  have fok3:=fpok (ps:=[(Da,({cls:=.type "list",data:=.seq its.toArray nn}:bX))]) fr3 λp hp=>by
   have z:p=(Da,{cls:=.type "list",data:=.seq its.toArray nn}):=by simpa using hp
   subst z
   exact hDf
  obtain ⟨y1,y2⟩:=hy2 H3 sm3 i
  cases hd:ds[i]? with
  | none=>
   have hle:ds.length<=i:=List.getElem?_eq_none_iff.mp hd
   have hieq:i=ds.length:=by exact Nat.le_antisymm ‹_› ‹_›
   refine bj (T.done (Ii X scope (y::fr) cl Ca s2 H2 fp) rfl rfl rfl hc i _ s3 _ H3 _ pinD fok3 st3 (y2 hieq)) λrr s4 ⟨hrr,I4⟩=>?_
   subst hrr
   obtain ⟨mC,hnC,_⟩:=I4.loc
   refine ⟨mC,hnC,λh5 sb5=>?_⟩
   obtain ⟨hD4,nD4,_⟩:=I4.pin _ (ZV _ (bF.mpr rfl))
   rw [hieq,List.drop_length] at hgo3
   cases hgo3
   rw [ZL] at hxs
   subst hxs
   have far:∀ b o,s2.heap.get? b=YW o->b≠Ca/\b≠Da:=λb o q=>⟨aE (Zt (ltD _ _ q) hC),aE (ltD _ _ q)⟩
   have U5:Un (sf X.stack) fp H2 (upd H3 Da (.lst dv)) s2.heap h5:=by
    have U4:Un (sf X.stack) fp H2 H3 s2.heap s4.heap:=I4.base
    refine ⟨λb o q n hb hx=>(sb5.2 b (far b o q).1).trans (U4.keep b o q n hb hx),λb o q n hb hx=>?_,λb o q n hx=>?_,λb o q hx=>?_,λb ys q=>?_,λb o u q=>?_,λb ps q=>?_⟩
    ·obtain ⟨sl,z⟩:=U4.slot b o q n hb hx
     exact ⟨sl,(sb5.2 b (far b o q).1).trans z⟩
    ·rw [qb (far b o q).2];exact U4.free b o q n hx
    ·obtain ⟨o',z⟩:=U4.there b o q hx
     exact ⟨o',(sb5.2 b (far b o q).1).trans z⟩
    ·rw [qb (jq (U4.tups b ys q) nD4)];exact U4.tups b ys q
    ·rw [qb (jq (U4.frzs b o u q) nD4)];exact U4.frzs b o u q
    ·obtain ⟨more,z⟩:=U4.tbls b ps q
     exact ⟨more,by rw [qb (jq z nD4)];exact z⟩
   have hok5:HOk X.prog X.w (upd H3 Da (.lst dv)) h5:=λb u q=>by
    have fC:H3 Ca=YY:=I4.free
    by_cases z:b=Da
    ·subst z
     rw [qr] at q
     cases q
     have lq:=rv.length
     have hl2:=rd.length
     exact ⟨by rw [hl2,hdl,hieq];exact iy hbig,its,nn,rv,(sb5.2 _ hDC).trans hD4⟩
    ·rw [qb z] at q
     refine (I4.hok b u q).stay (λc v hcc w=>(sb5.2 c λzz=>?_).trans w) (λc w=>by rw [qb (jq w nD4)];exact w) λc ys w=>by rw [qb (jq w nD4)];exact w
     subst zz
     rcases hcc with zz | zz
     ·rw [<- zz,fC] at q;cases q
     ·rw [fC] at zz;cases zz
   have I5:Inv X lh σ (upd H3 Da (.lst dv)) {s4 with heap:=h5}:=I2.call' (s':={s4 with heap:=h5}) I4.os U5 hok5 I4.bare λb hb=>⟨(f2 b hb).2.2.2.1,(f2 b hb).2.1,(f2 b hb).2.2.2.2.1,(f2 b hb).2.2.2.2.2⟩
   refine ⟨.ref Da,_,I5,rfl,kk.give rfl ((sm2.trans sm3).trans (qp nD3 _)) ⟨Da,dv,rfl,.inl ⟨⟨rfl,g.s1.free (sm2.free (I2.hok.fresh (iL hDa)))⟩,qr⟩,(rd.imp λ_ _ z=>z.elim).same (qp nD3 _)⟩⟩
  | some d=>
   obtain ⟨hlt,hde⟩:=Zi.mp hd
   rw [dA hlt,hde] at hgo3
   unfold b7 at hgo3
   split at hgo3
   rotate_left
   ·cases hgo3
   rename_i l' x' hfx
   split at hgo3
   rotate_left
   ·cases hgo3
   rename_i hlf
   cases hgo4:b7 f (ids.map λi=>mw ρ[i]?) (ds.drop (i+1)) with
   | none=>rw [hgo4] at hgo3;cases hgo3
   | some rest4=>
   rw [hgo4] at hgo3
   cases hgo3
   obtain ⟨hgo,hyl⟩:=y1 d hd
   refine bj (T.item (Ii X scope (y::fr) cl Ca s2 H2 fp) rfl rfl rfl hc i _ s3 _ H3 _ pinD fok3 st3 hgo) λrr s4 ⟨u,hrr,h4⟩=>?_
   subst hrr
   refine DN h4 ?_
   rintro ⟨x,H5,I5,rx,hyd,st5,fr5⟩
   obtain ⟨sm5,rp5⟩:=hyl x H5 hyd
   have ho5:=T.obj _ _ st5
   have I5':=I5.pinned (fpok fr5 λp hp=>by
    have z:p=(Da,{cls:=.type "list",data:=.seq its.toArray nn}):=by simpa using hp
    subst z
    exact hDf) ho5
   refine wpAny_assign_Name (Cf (X:=Ii X scope (y::fr) cl Ca s2 H2 fp) I5' nd (i:=0) rfl (.inl (lookup_relabel_local hy)) rx (λs6 I6=>?_) (.inr (lookup_relabel_local hy)))
   have g6:=Vu (XO:=XO) (ids:=ids) g ((sm2.trans sm3).trans sm5) rp5
   refine fB (he cl Ca s2 H2 fp hB _ s6 _ H5 (λv H'=>Same H5 H'/\Rep (λ_ _=>False) H' x' v) I6 ⟨H5,H5,_,.ok l' x',g6,hfx,⟨λl'' d'' v H' z sm rp=>?_,λc H' z=>(nomatch z)⟩⟩) (λxv s7 h7=>?_) λ_ _ z=>z.elim
   ·cases z
    exact ⟨sm,rp.nl hlf⟩
   obtain ⟨v7,H7,I7,r7,sm7,rp7⟩:=h7
   obtain ⟨hD7,nD7,_⟩:=I7.pin (Da,({cls:=.type "list",data:=.seq its.toArray nn}:bX)) (ZV _ (eZ _ (bF.mpr rfl)))
   have hitl:its.length=i:=by rw [<- rv.length,rd.length,hdl]
   refine wpAny_list_append_plain (items:=its.toArray) ⟨nn,hD7⟩ (λh8 hp8 sb8=>?_) (by rw [Zl,hitl];exact Zo (ZX hlt) (iy hbig))
   obtain ⟨n8,hD8⟩:=hp8
   have I8:Inv (Ii X scope (y::fr) cl Ca s2 H2 fp) [] _ H7 {s7 with heap:=h8}:=(I7.pins_of (pins':=[]) λp hp=>(nomatch hp)).turned (t':=s7.toks) (it:=Da) (λb o hb q=>(sb8.2 b hb).trans q) nD7 hDC (.inr (iL hDa)) hDcell λp hp=>(nomatch hp)
   refine ⟨ds.length - (i+1),by omega,?_⟩
   rw [hJ]
   refine ⟨i+1,H7,_,its++[xv],n8,dv++[v7],done++[x'],rest4,I8,T.keep _ _ _ st5 λb hb o q=>?_,λb hb=>?_,?_,nD7,(sm3.trans sm5).trans sm7,rv.append (.cons r7 .nil),?_,hgo4,by rw [hxs];simp,by simp [hdl],hlt,rfl⟩
   ·have:=(I7.pin (b,o) (ZV _ (ZV _ (tm hb q)))).1
    exact (sb8.2 b λz=>hDf (z ▸ hb)).trans this
   ·obtain ⟨o,q,_⟩:=ho5 b hb
    exact (I7.pin (b,o) (ZV _ (ZV _ (tm hb q)))).2.1
   ·rw [hD8];simp
   ·exact Reps.append ((rd.same sm5).same sm7) (Reps.one rp7)
 exact codeAny_compStart_list loop (T.self X.A 0 _ _ _ (T.keep _ _ _ st2 λb hb o q=>old b o q) loop)
end
section
variable{X:Cx}{XO:XOT}{cv:Cfg}{e:ZY}{f fa fb fc:FE}{st:aG}{rest sa sb body:List aG}{a b:FS}{pos p tpos:eE}{tg iter:ZY}{fi:FI}{tf:FT}{elts:List ZY}{k1:Nat}
theorem Fy:bE "enumerate" =YW (.type "enumerate"):=by decide +kernel
theorem Kc:∀ (ds:List YX) (n i:Nat),(yk n ds)[i]? =(ds[i]?).map λd=>.tuple [.int ((n+i:Nat):Int),d]
 | [],_,_=>by simp [yk]
 | d::ds,n,0=>by simp [yk]
 | d::ds,n,i+1=>by
  have:=Kc ds (n+1) i
  simp only [yk,ZQ,this]
  congr 1
  funext x
  rw [show n+1+i=n+(i+1) by omega]
theorem Jr:∀ (ds:List YX) (n:Nat),(yk n ds).length=ds.length
 | [],_=>rfl
 | d::ds,n=>by simp [yk,Jr ds (n+1)]
end
section
variable{X:Cx}{XO:F7}{cv:Cfg}{e:ZY}{f fa fb fc:FE}{st:aG}{rest sa sb body:List aG}{a b:FS}{pos p tpos:eE}{tg iter:ZY}{fi:FI}{tf:FT}{elts:List ZY}{k1:Nat}
theorem Q1(i j:Nat){x y:Z3}{xp yp:eE}(hc:X.lu=true)(hN:X.N.Nodup)(hi:X.N[i]? =YW x:=by rfl)(hx:Oi X.env.scope x:=by first | exact ZZ rfl | exact ZE rfl)
  (hf:X.fn x=true∨X.env.scope.names.lookup x=YW .local:=by first | exact .inl rfl | exact .inr rfl | assumption) (hin:eV i cv.n=true:=by rfl)
  (hj:X.N[j]? =YW y:=by rfl) (hy:Oi X.env.scope y:=by first | exact ZZ rfl | exact ZE rfl)
  (hfy:X.fn y=true∨X.env.scope.names.lookup y=YW .local:=by first | exact .inl rfl | exact .inr rfl | assumption) (hjn:eV j cv.n=true:=by rfl):Tg X cv (.Tuple [.Name x xp,.Name y yp] k1 pos) (f7 i j):=
 ⟨W9 X.K 2 (OE (Ij i) (OE (Ij j) Wy)),T8 hc (Kg (Ic hN hi hx hf) (Kg (Ic hN hj hy hfy) SG)),λH₀ F ρ ρ1 σ H d x Q s r e q=>by
   unfold f7 at e
   split at e
   ·cases e
    obtain ⟨p,vs,rfl,hp,rs⟩:=r
    obtain ⟨v1,vr,rfl,r1,rs⟩:=rs
    obtain ⟨v2,vr,rfl,r2,rs⟩:=rs
    have rs:vr=[]:=rs
    subst rs
    exact ⟨p,_,rfl,.inl hp,rfl,v1,_,rfl,v2,_,rfl,rfl,q _ ((s.putLoc hin r1).putLoc hjn r2)⟩
   ·cases e⟩
theorem SO.drop{H₀ F H:Hp}{ρ:f9}{σ:L2.St}{O:Fd}{i:Nat}{xs:List YX}(g:SR cv H₀ F ρ σ H)(o:SO cv H₀ F ρ σ H O)(hρ:ρ[i]? =YW (YW (.own xs))):
  ∃ p vs O',SR cv H₀ F (ρ.set i (YW (.loc (.list xs)))) σ H/\SO cv H₀ F (ρ.set i (YW (.loc (.list xs)))) σ H O'/\σ[i]? =YW (YW (.ref p))/\O' p=YY/\H p=YW (.lst vs)/\Reps (λ_ _=>False) H xs vs/\∀ a j,O' a=YW j->O a=YW j:=by
 obtain ⟨p,vs,hσ,hO,hp',rs⟩:=o.sl i _ hρ
 have hρl:i < ρ.length:=(Zi.mp hρ).1
 have o2:SO cv H₀ F (ρ.set i (YW (.loc (.list xs)))) σ H (λa=>if a=p then YY else O a):=by
  refine ⟨λa j q=>?_,λa j q=>?_,λj t q=>?_⟩
  ·by_cases z:a=p
   ·rw [jn z] at q;cases q
   ·rw [qz z] at q;exact o.fr a j q
  ·by_cases z:a=p
   ·rw [jn z] at q;cases q
   ·rw [qz z] at q;exact o.ls a j q
  ·by_cases hij:i=j
   ·subst hij
    rw [q9 _ _ _ _ hρl,jn rfl] at q
    cases q
    exact ⟨.ref p,hσ,p,vs,rfl,.inl ⟨⟨rfl,jn rfl,g.s0.free (o.fr p i hO)⟩,hp'⟩,rs.imp λ_ _ z=>z.elim⟩
   ·rw [q9 _ _ _ _ hρl,qz hij] at q
    have h:=o.sl j t q
    have hn:∀ a,O a=YY->(if a=p then YY else O a)=YY:=λa q=>by
     by_cases z:a=p
     ·rw [jn z]
     ·rw [qz z];exact q
    cases t with
    | par d=>obtain ⟨w,e1,rr⟩:=h;exact ⟨w,e1,rr.imp λ_ a z=>hn a z⟩
    | loc d=>obtain ⟨w,e1,rr⟩:=h;exact ⟨w,e1,rr.imp λ_ a z=>⟨z.1,hn a z.2.1,z.2.2⟩⟩
    | own ds=>
     obtain ⟨q1,ws,e1,hq,hqp,rs'⟩:=h
     have hne:q1≠p:=λz=>by rw [z,hO] at hq;cases hq;exact hij rfl
     exact ⟨q1,ws,e1,(qz hne).trans hq,hqp,rs'⟩
    | own2 ds=>
     obtain ⟨q1,ws,e1,hq,hqp,rs'⟩:=h
     have hne:q1≠p:=λz=>by rw [z,hO] at hq;cases hq;exact hij rfl
     exact ⟨q1,ws,e1,(qz hne).trans hq,hqp,rs'.imp λ_ a z=>⟨z.1,hn a z.2.1,z.2.2⟩⟩
    | lent ds=>
     obtain ⟨ws,e1,hq,hqp,rs'⟩:=h
     have hne:cv.lend≠p:=λz=>by rw [z,hO] at hq;cases hq;exact hij rfl
     exact ⟨ws,e1,(qz hne).trans hq,hqp,rs'⟩
    | dct ks=>
     obtain ⟨q1,e1,hq,hd⟩:=h
     have hne:q1≠p:=λz=>by rw [z,hO] at hq;cases hq;exact hij rfl
     exact ⟨q1,e1,(qz hne).trans hq,hd⟩
    | ex c=>exact h
 refine ⟨p,vs,_,⟨g.s0,g.s1,by simp [g.len],g.ln,_,o2⟩,o2,hσ,jn rfl,hp',rs,λa j q=>?_⟩
 by_cases z:a=p
 ·rw [jn z] at q;cases q
 ·rw [qz z] at q;exact q
end
section
variable{X:Cx}{XO:XOT}{e:ZY}{fa:FE}{pos p p2 p3:eE}
noncomputable def Wr:List V->Hp->VK->Prop:=λxs H Q=>∃ n:Int,xs=[.int n]/\∀ l,H l=YY->Q (.ref l) (upd H l (.rng 0 n))
theorem Qy:CallR X (.type "range") Wr:=by
 intro lh s σ H xs us Q I r h
 obtain ⟨n,rfl,q⟩:=h
 obtain ⟨u,rfl,t,rfl⟩:=Bq r
 exact call_range_1 ⟨.ref s.heap.objs.size,_,I.laid (o:=.rng 0 n) (t':=s.toks+1+1) (λb o q=>Zk _ q) (Ze _) ⟨_,_,_,ZK _ rfl⟩,rfl,q _ (I.hok.fresh (Ze _))⟩
theorem EN:∀ (us:List YZ) (n a:Nat),us.length=n->(∀ (j:Nat) (v:YZ),us[j]? =YW v->∃ t,v=YZ.int ((a:Int)+(j:Nat)) t)->Vals ((List.range' a n).map λ(k:Nat)=>V.int (k:Int)) us
 | [],n,a,e,_=>by subst e;exact .nil
 | u::us,n,a,e,h=>by
  subst e
  obtain ⟨t,rfl⟩:=h 0 u rfl
  refine .cons ⟨t,by simp⟩ (EN us _ (a+1) rfl λj v hj=>?_)
  obtain ⟨t,rfl⟩:=h (j+1) v hj
  exact ⟨t,by congr 1;push_cast;omega⟩
noncomputable def SK:List V->Hp->VK->Prop:=λxs H Q=>∃ (l:Zh) (n:Int),xs=[.ref l]/\H l=YW (.rng 0 n)/\n.natAbs<=big/\∀ q,H q=YY->Q (.ref q) (upd H q (.lst ((ZR n.toNat).map λ(k:Nat)=>V.int (k:Int))))
theorem Hg(hc:X.lu=true):CallR X (.type "list") SK:=by
 intro lh s σ H xs us Q I r h
 obtain ⟨l,n,rfl,hl,hn,q⟩:=h
 obtain ⟨u,rfl,rx⟩:=Bq r
 cases rx
 obtain ⟨t,u,v,hr⟩:=I.hok l _ hl
 have hb:big < 2 ^ 20:=by decide
 refine call_list_range (I.ok.hd hc) hr (small_one (by decide) (by decide) (by omega) (by omega)) (rangeSize_nat 0 n) (by omega) λh' tk acc c hk hD hI=>?_
 refine ⟨.ref s.heap.objs.size,_,I.laid (t':=tk) hk (Ze _) (show ObjOk X.prog X.w _ h' _ (.lst ((ZR n.toNat).map λ(k:Nat)=>V.int (k:Int))) from ⟨by rw [Z9,eW];exact Zo (by omega) (iy (Ze _)),acc.toList,c,?_,by simpa using hD⟩),rfl,q _ (I.hok.fresh (Ze _))⟩
 rw [List.range_eq_range']
 refine EN acc.toList n.toNat 0 (by simpa using hI.1) λj v hj=>?_
 obtain ⟨t,e⟩:=hI.2 j v (by simpa using hj)
 exact ⟨t,by rw [e];congr 1;simp⟩
theorem N3{P:PP}{H:Hp}(n:Nat):Reps P H (bu n) ((ZR n).map λ(k:Nat)=>V.int (k:Int)):=by
 unfold bu
 generalize ZR n=ks
 induction ks with
 | nil=>rfl
 | cons k ks ih=>exact ⟨_,_,rfl,rfl,ih⟩
theorem Nx(C:BC X)(hc:X.lu=true)(ha:PE X e (tF XO fa))(hg:Gl X "list":=by rfl)(hgr:Gl X "range":=by rfl)(he:Zf [e] X.env=(false,bB e X.env)::Zf [] X.env:=by exact jf rfl)(hpl:(aF p3 (Zf [] X.env)).any (·.1)=false:=by exact ym rfl)
  (he':Zf [.Call (.Name "range" p2) [e] [] p3] X.env=(false,bB (.Call (.Name "range" p2) [e] [] p3) X.env)::Zf [] X.env:=by exact jf rfl) (hpl':(aF pos (Zf [] X.env)).any (·.1)=false:=by exact ym rfl):
  PE X (.Call (.Name "list" p) [.Call (.Name "range" p2) [e] [] p3] [] pos) (tF XO (EF fa)):=
 PE.imp (Bj (Hg hc) hg C.mlist gJ (wy (Bj Qy hgr C.mrange boot_range (wy ha xo he) (by decide) (by decide) he hpl) xo he') (by decide) (by decide) he' hpl') λσ H Q h=>by
  have:=Dq (r:=λxs H Q=>Wr xs H λz H2=>SK [z] H2 Q) (op:=Cp) (λH₀ Hs H l x d v Q s0 s1 e rx q=>by
   unfold Cp at e
   split at e
   ·split at e
    ·rename_i n hn
     cases e
     refine ⟨n,by rw [show v=V.int n from rx],λl hl=>⟨l,n,rfl,qr,hn,λm hm=>?_⟩⟩
     have sm:=(qp hl (.rng 0 n)).trans (qp hm (.lst ((ZR n.toNat).map λ(k:Nat)=>V.int (k:Int))))
     have hm':H m=YY:=(qp hl _).free hm
     exact q _ _ sm ⟨m,_,rfl,.inl ⟨⟨rfl,s1.free hm'⟩,qr⟩,N3 _⟩
    ·cases e
   ·cases e) h
  exact this
end
end KT
namespace KT
open PySem PyProof.Rows
section
open PySem.SeqAt
open PySem.AutoSeq1 (wpAny_loadPart')
open PySem.MeetsSeq PySem.MeetsSeq2 PySem.MeetsSeq3
end
open PySem.Spec L2
end KT
namespace KT
open PySem PySem.Spec PyProof.Rows L2
theorem Aa:∀ xs ys:List Int,ao xs ys=HT.lexLt xs ys
 | [],[]=>rfl
 | [],_::_=>rfl
 | _::_,[]=>rfl
 | x::xs,y::ys=>by rw [HT.lexLt_cons,<- Aa xs ys];rfl
theorem A7{P:PP}{H:Hp}:∀ {ds:List YX} {ns:List Int} {vs:List V},cg ds=YW ns->Reps P H ds vs->vs=ns.map V.int
 | [],ns,vs,e,r=>by cases e;exact r
 | d::ds,ns,vs,e,r=>by
  unfold cg at e
  split at e
  ·rename_i h;cases h
  ·rename_i i ds' hh
   cases hh
   cases hx:cg ds with
   | none=>rw [hx] at e;cases e
   | some ms=>
    rw [hx] at e
    cases e
    obtain ⟨v,ws,rfl,rv,rs⟩:=r
    rw [A7 hx rs,show v=V.int i from rv]
    rfl
  ·cases e
section
variable{X:Cx}{XO:F7}{cv:Cfg}{e:ZY}{f:FE}{tg:ZY}{tf:FT}{pos:eE}
theorem Qx(ht:Tg X cv tg tf)(h:PE X e (tF ⟨cv.cv,XO⟩ f))(hs:swapsWithSole [tg] e pos.line X.env=pure false:=by rfl)(hw:swappedStores [tg] e X.env=pure YY:=by rfl)(h1:(gP [tg] X.env).map (·.2)=[assign tg X.env]:=by rfl):PS X (.Assign [tg] e pos) (tS cv XO (Cm tf f)):=by
 obtain ⟨gt,hg,hd⟩:=ht.ex
 refine PS.imp (U2 h hg hs hw h1) λD σ H ⟨H₀,F,ρ,r,g,e',k⟩=>?_
 refine bp g e' k λl d v H1 s1 r1 e1=>?_
 split at e1
 ·rename_i hlf
  cases htf:tf d ρ with
  | none=>rw [htf] at e1;cases e1
  | some ρ1=>
   rw [htf] at e1
   cases e1
   exact hd H₀ F ρ ρ1 σ H1 d v _ (g.same s1) (r1.nl hlf) htf λσ1 s2=>k σ1 H1 s2
 ·cases e1
end
noncomputable def Xw(lo:Int)(n:Nat):It:=⟨λi _=>i < n,λi H x H'=>H'=H/\x= .int (lo - i),λi _=>n<=i⟩
theorem Nk{P:Z8}{w:ZN}{K:Zb}{tg:ZY}(it:Zh)(lo:Int)(n:Nat):Turn P w K tg (Xw lo n) [it] it (λi h=>IsRangeIter h it (lo+(i:Nat) * (-1)) ((n:Int) - (i:Nat)) (-1)) where
 mem:=by simp
 obj:=λi h st b hb=>by
  have e:b=it:=by simpa using hb
  subst e
  exact ⟨_,st,λv z=>by
   have z':Data.fields _=Data.cell v:=z
   cases z'⟩
 keep:=λi h h' st k=>k it (by simp) _ st
 item:=by
  intro X hP hw hK hc i lh s σ H E I hf st hg
  subst hP hw hK
  obtain ⟨f0,f1,f2,f3,f4,f5⟩:=hf it (by simp)
  have W:=Walks.range (prog:=X.prog) (w:=X.w) (I.ok.hd hc) it lo (-1) n
  refine W.item i s _ _ hg st λv h' tk hv st' kk=>?_
  obtain ⟨t,rfl⟩:=hv
  have I1:Inv X lh σ H {s with heap:=h',toks:=tk}:=I.turned (λb o hb e=>kk b o (by simpa using hb) e) f0 f1 f3 f4 f5
  refine ⟨_,rfl,Mc (s:={s with heap:=h',toks:=tk}) (n:="range_iterator") st' rfl rfl (by decide) ⟨.int (lo - i),H,I1,⟨t,?_⟩,⟨rfl,rfl⟩,st',λb hb=>(hf b hb).1⟩⟩
  congr 1
  omega
 done:=by
  intro X hP hw hK hc i lh s σ H E I hf st hg
  subst hP hw hK
  obtain ⟨f0,f1,f2,f3,f4,f5⟩:=hf it (by simp)
  exact wpAny_pyNext_range_end (I.ok.hd hc) st (by have:n<=i:=hg;omega) λh' eb=>⟨rfl,I.turned (t':=s.toks) (λb o hb e=>eb b o hb e) f0 f1 f3 f4 f5⟩
 self:=λ_ _ _ _ _ st h=>wpAny_pyIter_rangeiter st h
section
variable{X:Cx}{tg:ZY}
theorem QR{lh:List (Zh×bX)}{σ:L2.St}{H:Hp}{s:Zd}{R:It->Hp->Prop}{E:YZ->Zd->Prop}{lo hi:Int}{t u v:Tok}{tk:Nat}(I:Inv X lh σ H s)(h1:-(2 ^ 62)<=lo)(h2:lo < 2 ^ 62)(h3:-(2 ^ 62)<=hi)(h4:hi < 2 ^ 62)
  (q:R (Xw lo (lo - hi).toNat) H):Z0 (ZD X.prog X.w) X.A (pyIter (.ref s.heap.objs.size)) (XG X lh σ tg R) E {s with heap:=s.heap.push {cls:=.type "range",data:=.fields #[.int lo t,.int hi u,.int (-1) v]},toks:=tk}:=by
 refine wpAny_pyIter_range (IsRange.new ..) (PySem.W.small_down h1 h2 h3 h4) ?_
 have I1:Inv X lh σ H {s with heap:=s.heap.push {cls:=.type "range",data:=.fields #[.int lo t,.int hi u,.int (-1) v]},toks:=tk}:=I.kept λb o e=>Zk _ e
 refine ⟨(s.heap.push {cls:=.type "range",data:=.fields #[.int lo t,.int hi u,.int (-1) v]}).objs.size,[(s.heap.push {cls:=.type "range",data:=.fields #[.int lo t,.int hi u,.int (-1) v]}).objs.size],_,_,H,rfl,
  I1.kept (t':=tk) λb o e=>Zk _ e,Nk _ lo (lo - hi).toNat,?_,λb hb=>?_,q⟩
 ·have e1:lo+((0:Nat):Int) * (-1)=lo:=by simp
  have e2:(((lo - hi).toNat:Nat):Int) - ((0:Nat):Int)=aT.Range.rangeSize lo hi (-1):=by rw [PySem.W.rangeSize_downNat];rfl
  show IsRangeIter _ _ (lo+((0:Nat):Int) * (-1)) ((((lo - hi).toNat:Nat):Int) - ((0:Nat):Int)) (-1)
  rw [e1,e2]
  exact ZK _ rfl
 ·have e:b=(s.heap.push {cls:=.type "range",data:=.fields #[.int lo t,.int hi u,.int (-1) v]}).objs.size:=by simpa using hb
  subst e
  exact I1.fpOk (Ze _) (I1.hok.fresh (Ze _))
noncomputable def Wn(ta:TA):TI:=λσ H R=>ta σ H λvs H1=>∃ i j:Int,vs=[.int i,.int j,.int (-1)]/\(-(2 ^ 60)<=i/\i < 2 ^ 60/\-(2 ^ 60)<=j/\j < 2 ^ 60)/\R (Xw i (i - j).toNat) H1
theorem Rb{a b c:ZY}{ta:TA}{p pos:eE}(hg:Gl X "range")(hm:X.mg "range" =YY)(ha:PA X [a,b,c] ta)(hs:Zf [a,b,c] X.env=(false,bB a X.env)::Zf [b,c] X.env)(hpl:(aF pos (Zf [b,c] X.env)).any (·.1)=false):
  PI X tg (.Call (.Name "range" p) [a,b,c] [] pos) (Wn ta):=by
 intro lh s σ H R I h
 refine Call_ (Dj I hg hm boot_range (cH (bj (ha pos lh s σ H _ I h) λus s1 ⟨vs,H1,I1,r1,q1⟩=>?_) hs hpl))
 obtain ⟨i,j,e,⟨q1,q2,q3,q4⟩,q⟩:=q1
 subst e
 cases r1 with
 | cons r rr=>
  cases rr with
  | cons r' rr=>
   cases rr with
   | cons r'' rr=>
    cases rr
    obtain ⟨t,rfl⟩:=r
    obtain ⟨t',rfl⟩:=r'
    obtain ⟨t'',rfl⟩:=r''
    exact call_range_3 (by decide) (QR I1 (by omega) (by omega) (by omega) (by omega) q) (.inl (PyProof.noPylong_small (by exact aQ _ _)))
end
section
variable{X:Cx}{XO:XOT}{tg e e2 e3:ZY}{f f2 f3:FE}{pos p p1 p2 p3 p4:eE}
theorem JM{Z:Hp}{n:Nat}:A9 Z (Xw ((n:Int) - 1) n) (yu n):=λH2 s i=>by
 refine ⟨λd hd=>?_,λhi=>?_⟩
 ·unfold yu at hd
  rw [ZG] at hd
  cases hr:(ZR n)[i]? with
  | none=>rw [hr] at hd;cases hd
  | some k=>
   rw [hr] at hd
   cases hd
   obtain ⟨hlt,hk⟩:=Zi.mp hr
   rw [eW] at hlt
   rw [List.getElem_range] at hk
   subst hk
   refine ⟨hlt,λx H3 y=>?_⟩
   obtain ⟨e,y⟩:=y
   subst e y
   exact ⟨Same.refl _,rfl⟩
 ·show n<=i
  rw [hi]
  simp [yu]
theorem Ie(C:BC X){j1 j2:Nat}(h:PE X e (tF XO f))(hg:Gl X "range":=by rfl)
  (hs:Zf [e,.UnaryOp .USub (.Constant (.int 1) j1 p1) p2,.UnaryOp .USub (.Constant (.int 1) j2 p3) p4] X.env=(false,bB e X.env)::Zf [.UnaryOp .USub (.Constant (.int 1) j1 p1) p2,.UnaryOp .USub (.Constant (.int 1) j2 p3) p4] X.env:=by exact jf rfl)
  (hpl:(aF pos (Zf [.UnaryOp .USub (.Constant (.int 1) j1 p1) p2,.UnaryOp .USub (.Constant (.int 1) j2 p3) p4] X.env)).any (·.1)=false:=by exact ym rfl):
  PI X tg (.Call (.Name "range" p) [e,.UnaryOp .USub (.Constant (.int 1) j1 p1) p2,.UnaryOp .USub (.Constant (.int 1) j2 p3) p4] [] pos) (tI XO (i0 f)):=
 PI.imp (Rb hg C.mrange (zc h (zc (FY zf) (zc (FY zf) (zi (XO:=XO)) (jf rfl)) (jf rfl)) hs) hs hpl) λσ H R ⟨H₀,Hs,ρ,r,g,e,k,kx⟩=>by
  unfold i0 at e
  split at e
  ·rename_i l a hf
   split at e
   ·rename_i hn
    cases e
    have hb:big < 2 ^ 40:=by decide
    refine ⟨H₀,Hs,ρ,.ok (min l (min 2 (min 2 2))) [.int a,.int (-1),.int (-1)],g,by simp [zq,hf,i8,e1,eC,zm,IW],λl' ds vs H1 e' s1 r1=>?_,λc H' e=>(nomatch e)⟩
    cases e'
    obtain ⟨v1,vr,rfl,q1,r1⟩:=r1
    obtain ⟨v2,vr,rfl,q2,r1⟩:=r1
    obtain ⟨v3,vr,rfl,q3,r1⟩:=r1
    have r1:vr=[]:=r1
    subst r1
    refine ⟨a,-1,by rw [show v1=V.int a from q1,show v2=V.int (-1) from q2,show v3=V.int (-1) from q3],by omega,?_⟩
    refine k 2 _ _ H1 rfl s1 λZ _ _=>?_
    rw [show (a - -1).toNat=(a+1).toNat by rfl]
    by_cases ha:0<=a+1
    ·have e1:a=(((a+1).toNat:Nat):Int) - 1:=by omega
     have:=JM (Z:=Z) (n:=(a+1).toNat)
     rw [<- e1] at this
     exact this
    ·have e0:(a+1).toNat=0:=by omega
     rw [e0]
     exact λH2 s i=>⟨λd hd=>by simp [yu] at hd,λ_=>aY _⟩
   ·cases e
  ·rename_i c hf
   cases e
   exact ⟨H₀,Hs,ρ,.exc c,g,by simp [zq,hf],λl' ds vs H1 e'=>(nomatch e'),λc' H' e' s=>kx c' H' (by cases e';rfl) s⟩
  ·cases e
theorem WZ{x:Z3}{a:Zh}(V:X.mg x=YW (.ref a))(hg:Gl X x:=by rfl)(hd:(x == ("__debug__":Z3))=false:=by decide):PE X (.Name x pos) (tF XO (eC (Mr a))):=
 PE.imp (GX (v:=.ref a) hg V rfl hd) λσ H Q ⟨H₀,Hs,ρ,r,g,e,kk⟩=>kk.give e (Same.refl _) ⟨a,rfl,rfl⟩
structure PF(CX:GY)(P:Z8)(w:ZN)(K:Zb)(mg:Z3->Option YZ)(base:ZM)(cv:Nat->YZ)(n ar:Nat)(gs:List (Nat×FC)):Prop where
 ex:∀ a g,gs.lookup a=YW g->∃ x,FnF CX P w K mg base cv n x ar g/\mg x=YW (.ref a)
section
variable{CX:GY}{P:Z8}{w:ZN}{K:Zb}{mg:Z3->Option YZ}{base:ZM}{cv:Nat->YZ}{n ar:Nat}{gs:List (Nat×FC)}{x:Z3}{a:Nat}{g:FC}
theorem T4:PF CX P w K mg base cv n ar []:=⟨λa g h=>(nomatch h)⟩
theorem LN(V:mg x=YW (.ref a))(F:FnF CX P w K mg base cv n x ar g)(T:PF CX P w K mg base cv n ar gs):PF CX P w K mg base cv n ar ((a,g)::gs):=⟨λb g' h=>by
 rw [bU] at h
 cases q:b == a with
 | true=>
  rw [q] at h
  cases h
  have:b=a:=by simpa using q
  subst this
  exact ⟨x,F,V⟩
 | false=>rw [q] at h;exact T.ex b g' h⟩
end
section
variable{CX:GY}{es:List ZY}{fs:List FE}{n ar:Nat}{gs:List (Nat×FC)}
theorem QG(i:Nat){x:Z3}(F:PF CX X.prog X.w X.K X.mg X.base XO.cv n ar gs)(hr:Room n X.A)(L:D4 CX X XO)(ha:PA X (e::es) (QE XO fs))(hn:iM ar fs.length=true:=by rfl)
  (hN:X.N[i]? =YW x:=by rfl) (hv:DS X.env.scope x:=by first | exact ZZ rfl | exact ZE (ZZ rfl) | exact ZE (ZE rfl)) (hd:(x == ("__debug__":Z3))=false:=by decide)
  (hcd:(x == ("__classdict__":Z3))=false:=by decide) (he:Zf (e::es) X.env=(false,bB e X.env)::Zf es X.env:=by exact jf rfl) (hpl:(aF pos (Zf es X.env)).any (·.1)=false:=by exact ym rfl):
  PE X (.Call (.Name x p) (e::es) [] pos) (tF XO (EG i gs fs)):=by
 intro lh s σ H Q I ⟨H₀,Hs,ρ,r,gg,ee,kk⟩
 unfold EG at ee
 split at ee
 case h_2=>cases ee
 rename_i ai hρ
 obtain ⟨v,hσ,a,e',rfl⟩:=gg.vr i _ hρ
 have ea:ai=(a:Int):=by cases e';rfl
 subst ea
 rw [Int.toNat_natCast] at ee
 split at ee
 case h_2=>cases ee
 rename_i g hgs
 obtain ⟨y,F,hm'⟩:=F.ex a g hgs
 obtain ⟨f,fd,ps,F,hm,hk,hb⟩:=F.ex
 have ef:f=a:=by rw [hm'] at hm;cases hm;rfl
 subst ef
 refine cP (bj (vo hN hv hd hcd lh s σ H (λv H1=>v= .ref f/\H1=H) I ⟨_,hσ,rfl,rfl⟩) λu s1 ⟨v,H1,I',rv,hv1,hH1⟩=>?_)
 subst hv1 hH1
 cases rv
 have hA:QE XO fs σ H1 (λvs H1=>iw XO.cv ar g vs H1 Q (λcls _ H'=>∃ c,cls=XO.cv c/\XO.f c σ H')):=by
  refine Ct gg ee kk λl ds vs H1 s1 g1 r1 hl e1 k1=>?_
  have lq:vs.length=ar:=by rw [r1.length,hl,gO hn]
  cases hg:g ds with
  | none=>rw [hg] at e1;cases e1
  | some rc=>
   rw [hg] at e1
   refine ⟨ds,rc,lq,r1.imp λ_ _ _=>trivial,hg,λd v H' er s rp=>?_,λc H' er s=>?_⟩
   ·subst er
    exact k1.give (l:=2) e1 s (rp.imp λz a q=>⟨q.1,g1.s1.free q.2⟩)
   ·subst er
    exact ⟨c,rfl,k1.2 c H' (by cases e1;rfl) s⟩
 refine PySem.W.callWith_K (h₀:=X.base) I'.ok.mod.kin hk (bj (ha pos lh s1 σ H1 _ I' hA) λus s1 ⟨vs,H1,I1,r,q⟩=>⟨I1.kIn,?_⟩) he hpl
 have hl:(us++[]).length=ps.length:=by rw [ZL,<- r.length];exact F.len _ _ _ _ q
 have hB:=hb s1 us I1.kIn hl
 rw [ZL] at hB
 refine wpAny_call (iK (F.run X.A X.stack s1 H1 ⟨us,[]⟩ us vs Q _ hr I1.env0 hB r q) λr s' hq=>?_)
 cases r with
 | error e=>exact L lh σ H1 s1 e s' I1 hq
 | ok fl=>
  cases fl with
  | ret u=>exact I1.after hq
  | next=>exact bL hq
  | brk=>exact bL hq
  | cont=>exact bL hq
end
structure KTup(K:Zb)(mg:Z3->Option YZ)(x:Z3)(d:YX):Prop where
 ex:∃ (a:Zh) (ds:List YX) (vs:List V),d= .tuple ds/\mg x=YW (.ref a)/\(∀ H:Hp,Di K H a vs)/\∀ (P:PP) (H:Hp),Reps P H ds vs
theorem Xd{x:Z3}{d:YX}{b:ZY}{fb:FE}(T:KTup X.K X.mg x d)(hb:PE X b (tF XO fb))(hg:Gl X x:=by rfl)(hd:(x == ("__debug__":Z3))=false:=by decide)(hs:DW b:=by exact λ_ _=>rfl):
  PE X (.Subscript (.Name x p) b pos) (tF XO (z9 (eC d) fb)):=by
 obtain ⟨a,ds,vs,rfl,hm,hq,hrp⟩:=T.ex
 refine PE.imp (Py Li (GX (v:=.ref a) hg hm rfl hd) hb hs) λσ H Q ⟨H₀,Hs,ρ,r,g,e,kk⟩=>?_
 have e:zm (fb ρ) (λm y=>(xr (.tuple ds) y).map λd=>.ok (min 2 m) d)=YW r:=e
 refine g9 g e kk λm y u H2 s2 g2 r2 e2' k2=>?_
 cases hx:xr (.tuple ds) y with
 | none=>rw [hx] at e2';cases e2'
 | some d=>
  rw [hx] at e2'
  cases y with
  | int i=>
   have hx:vg ds i=YW d:=hx
   cases (show u= .int i from r2)
   obtain ⟨z,hz,rz⟩:=(hrp (PL H₀ Hs (min 2 m)) H2).atI hx
   exact .inr (.inl ⟨a,vs,i,z,rfl,rfl,hq H2,hz,k2.give e2' (Same.refl _) rz⟩)
  | none=>cases hx
  | bool _=>cases hx
  | str _=>cases hx
  | tuple _=>cases hx
  | list _=>cases hx
  | dict _=>cases hx
end
end KT
namespace KT
open PySem PySem.Spec PyProof.Rows L2 AutoSeq1
section
variable{prog:Z8}{w:ZN}{A:aC}{E:YZ->Zd->Prop}{s:Zd}
theorem Ly{it tu:Zh}{i:Nat}{its:Array YZ}{y:YZ}{Q:YZ->Zd->Prop}(h1:s.heap.IsTupleIter it tu i)(h2:s.heap.IsTuple tu its)(hy:its[i]? =YW y)
  (k:∀ g,g.IsTupleIter it tu (i+1)->fJ it s.heap g->Q y {s with heap:=g}):Z0 (ZD prog w) A (dB (.ref it)) Q E s:=by
 obtain ⟨ob,hob,kc,kd⟩:=id h1;obtain ⟨ot,hot,_,nt,kt⟩:=h2
 unfold dB
 refine Zc (bG (name:=fK "__next__") h1.typeIs cS (cL cS h1.typeIs F.entry_tuple_iterator_next ?_ (F.args_tuple_iterator_next_1 _)))
 show Z0 _ _ (field (.ref it) 0 >>= _) _ _ s;refine Zc (bZ hob kd (x:=.ref tu) rfl ?_)
 show Z0 _ _ (if (aA tu == ZI)=true then _ else _) _ _ s;rw [qz (show ¬ ((aA tu == ZI)=true) from Zv)]
 show Z0 _ _ (field (.ref it) 1 >>= _) _ _ s;refine Zc (bZ hob kd (x:=.int i 0) rfl ?_)
 show Z0 _ _ (seqItems? (.ref tu) >>= _) _ _ s;refine Zc (wpAny_seqItems hot kt ?_)
 simp only [Int.toNat_natCast,hy];refine Zc (gK hob kd (by simp) (Zr ⟨y,rfl,Zr (k _ ?_ (fJ.update ..))⟩))
 exact ⟨_,eR _ hob (cX (cR kd _)),(bX.cls_mapFields ..).trans kc,by rw [cR kd];simp [rawInt]⟩
theorem Br{it tu:Zh}{i:Nat}{its:Array YZ}{Q:YZ->Zd->Prop}(hh:A.handled=YY)(h1:s.heap.IsTupleIter it tu i)(h2:s.heap.IsTuple tu its)(hy:its[i]? =YY)
  (k:∀ g e,ZM.ExtBut it s.heap g->(∃ o,g.get? e=YW o/\o.cls= .type "StopIteration")->E (.ref e) {s with heap:=g}):Z0 (ZD prog w) A (dB (.ref it)) Q E s:=by
 obtain ⟨ob,hob,kc,kd⟩:=id h1;obtain ⟨ot,hot,_,nt,kt⟩:=h2
 unfold dB
 refine Zc (bG (name:=fK "__next__") h1.typeIs cS (cL cS h1.typeIs F.entry_tuple_iterator_next ?_ (F.args_tuple_iterator_next_1 _)))
 show Z0 _ _ (field (.ref it) 0 >>= _) _ _ s;refine Zc (bZ hob kd (x:=.ref tu) rfl ?_)
 show Z0 _ _ (if (aA tu == ZI)=true then _ else _) _ _ s;rw [qz (show ¬ ((aA tu == ZI)=true) from Zv)]
 show Z0 _ _ (field (.ref it) 1 >>= _) _ _ s;refine Zc (bZ hob kd (x:=.int i 0) rfl ?_)
 show Z0 _ _ (seqItems? (.ref tu) >>= _) _ _ s;refine Zc (wpAny_seqItems hot kt ?_)
 simp only [Int.toNat_natCast,hy];refine Zc (wpAny_rule (Zc (gK hob kd (by simp) ?_)))
 show Z0 _ _ (newExc (.type "StopIteration") [] >>= _) _ _ _;refine Zc ?_;simp only [newExc,newTuple]
 refine Zc (bM ?_ (by size_fits));refine Zc (m:=firstArgMember _ _) (wpAny_of_eq (a:=ZI) (by first | rfl | (simp only [firstArgMember];rfl)) ?_)
 refine bM ?_ (by size_fits);simp only [raiseNew]
 refine Zc (wpAny_handled ?_);first | rw [show A.in1.handled=YY from hh] | rw [hh]
 refine Zc (Zr (wpAny_throw ?_));exact k _ _ (((fJ.update ..).extBut.push _).push _) ⟨_,ZK _ rfl,rfl⟩
end
theorem MW{prog:Z8}{w:ZN}{A:aC}(hh:A.handled=YY)(it tu:Zh)(hne:tu≠it)(its:Array YZ):
  Draws prog w A it [it,tu] its.size (λi v=>its[i]? =YW v) (λi h=>h.IsTupleIter it tu i/\h.IsTuple tu its) where
 live:=λ_ _ q=>let ⟨o,ho,_⟩:=q.1;⟨o,ho⟩
 frame:=λ_ _ _ q hk=>⟨q.1.at λo e=>hk it (by simp) o e,let ⟨o,ho,r⟩:=q.2;⟨o,hk tu (by simp) o ho,r⟩⟩
 item:=λi s Q E hi q k=>Ly q.1 q.2 (y:=its[i]) (by simp [hi]) λg h1 h2=>k _ g s.toks (by simp [hi]) ⟨h1,q.2.extBut h2.extBut hne⟩ h2
 done:=λs Q E q k=>Br hh q.1 q.2 (by simp) k
theorem KY(l:Zh)(its:Array YZ)(n:Nat)(dct:Option Zh)(sl:Array (Option YZ)):
  Meets (aT.«enumerate.__new__» ⟨[.type "enumerate",.ref l],[]⟩) (λ_ R s=>s.heap.get? l=YW {cls:=.type "tuple",dict:=dct,data:=.seq its n,slots:=sl}/\
   R (.ok (.ret (.ref (s.heap.push {cls:=.type "tuple_iterator",data:=.fields #[.ref l,.int 0 0]}).objs.size)))
    {s with heap:=(s.heap.push {cls:=.type "tuple_iterator",data:=.fields #[.ref l,.int 0 0]}).push {cls:=.type "enumerate",data:=.fields #[.none,.bool false,.ref s.heap.objs.size,rawInt 0,.none,.none]}}):=
 .of_wp λprog w A R s h=>by
  obtain ⟨hp,g,d,tk,os⟩:=s;obtain ⟨hl,h⟩:=h;have hsub:=sub_enumerate
  have hT:ZM.IsTuple (Zd.heap ⟨hp,g,d,tk,os⟩) l its:=⟨_,hl,rfl,n,rfl⟩
  wp_walk using ZT hl
  refine wpAny_stack_any λst=>Zr ?_
  split
  ·rename_i c _ _ _ _ _
   cases (c == bK "enumerate")<;>(wp_walk using ZT hl,wpAny_pyIter_tuple hT;exact ⟨_,rfl,h⟩)
  ·wp_walk using ZT hl,wpAny_pyIter_tuple hT;exact ⟨_,rfl,h⟩
theorem KD{prog:Z8}{w:ZN}{A:aC}{E:YZ->Zd->Prop}{s:Zd}{l:Zh}{its:Array YZ}{Q:YZ->Zd->Prop}(hL:s.heap.IsTuple l its)
  (h:∀ h',IsEnum h' (s.heap.objs.size+1) s.heap.objs.size 0 .none->h'.IsTupleIter s.heap.objs.size l 0->h'.objs.size=s.heap.objs.size+2->(∀ b o,s.heap.get? b=YW o->h'.get? b=YW o)->Q (.ref (s.heap.objs.size+1)) {s with heap:=h'}):
  Z0 (ZD prog w) A (call (.type "enumerate") [.ref l]) Q E s:=by
 obtain ⟨⟨c,dct,dt,sl⟩,hl,kc,n,kd⟩:=hL
 have kc:c= .type "tuple":=kc;have kd:dt= .seq its n:=kd;subst kc kd
 refine callType_new F.called_enumerate (by decide) (F.typeCall_enumerate_1 _) (F.newCall_enumerate_1 _) (λobj=>F.args_object_init_2 obj _) F.entry_enumerate_new (KY l its n dct sl) ⟨hl,?_⟩
 have hz:(s.heap.push {cls:=.type "tuple_iterator",data:=.fields #[.ref l,.int 0 0]}).objs.size=s.heap.objs.size+1:=iT ..
 show _/\_;rw [hz]
 have he:IsEnum ((s.heap.push {cls:=.type "tuple_iterator",data:=.fields #[.ref l,.int 0 0]}).push {cls:=.type "enumerate",data:=.fields #[.none,.bool false,.ref s.heap.objs.size,rawInt 0,.none,.none]}) (s.heap.objs.size+1) s.heap.objs.size 0 .none:=by
  have:=ZK (s.heap.push {cls:=.type "tuple_iterator",data:=.fields #[.ref l,.int 0 0]}) (o:={cls:=.type "enumerate",data:=.fields #[.none,.bool false,.ref s.heap.objs.size,rawInt 0,.none,.none]}) rfl
  rw [hz] at this;exact this
 exact ⟨⟨_,he,rfl⟩,h _ he ⟨_,Zk _ (ZK _ rfl),rfl,rfl⟩ (by rw [iT,hz]) λb o x=>Zk _ (Zk _ x)⟩
noncomputable def Qq(K:Zb)(a:Zh):It:=
 ⟨λi H=>∃ xs x,Di K H a xs/\xs[i]? =YW x,λi H x H'=>∃ p v,x= .ref p/\H p=YY/\H'=upd H p (.tup [.int i,v])/\∀ xs,Di K H a xs->xs[i]? =YW v,λi H=>∃ xs,Di K H a xs/\xs.length<=i⟩
theorem KG{P:Z8}{w:ZN}{K:Zb}{elts:List ZY}{x1}{tpos:eE}(a e it:Zh)(hne:e≠it):Turn P w K (.Tuple elts x1 tpos) (Qq K a) [e,it] e (λi h=>∃ old,IsEnum h e it (i:Int) old/\h.IsTupleIter it a i) where
 mem:=by simp
 obj:=λi h ⟨old,st,li⟩ b hb=>by
  rcases ZP.mp hb with rfl | hb
  ·exact ⟨_,st,λv z=>by
    have z':Data.fields _=Data.cell v:=z
    cases z'⟩
  ·have e:b=it:=by simpa using hb
   subst e
   obtain ⟨o,e,c,d⟩:=li
   exact ⟨o,e,λv z=>by rw [d] at z;cases z⟩
 keep:=λi h h' ⟨old,st,li⟩ k=>⟨old,k e (by simp) _ st,li.at λo q=>k it (by simp) o q⟩
 item:=by
  intro X hP hw hK hc i lh s σ H E I hf ⟨old,st,li⟩ hg
  subst hP hw hK
  obtain ⟨xs,x,hq,hx⟩:=hg
  obtain ⟨its,rv,p,hz⟩:=I.tuple hq
  obtain ⟨u,hu,ru⟩:=rv.get hx
  have ht:s.heap.IsTuple a its.toArray:=p
  obtain ⟨f0,f1,f2,f3,f4,f5⟩:=hf e (by simp)
  obtain ⟨g0,g1,g2,g3,g4,g5⟩:=hf it (by simp)
  have nai:a≠it:=λz=>by
   obtain ⟨o,ho,hc1,_⟩:=ht
   obtain ⟨o',ho',hc2,_⟩:=li
   rw [z,ho'] at ho;cases ho;rw [hc2] at hc1;exact absurd hc1 (by decide)
  have nae:a≠e:=λz=>by
   obtain ⟨o,ho,hc1,_⟩:=ht
   rw [z,st] at ho;cases ho;exact absurd (show bK "enumerate" =bK "tuple" from hc1) (by decide)
  have D:Draws X.prog X.w X.A.in1 it [it,a] its.toArray.size (λi v=>its.toArray[i]? =YW v) (λi h=>h.IsTupleIter it a i/\h.IsTuple a its.toArray):=MW (show X.A.in1.handled=YY from I.ok.hd hc) it a nai its.toArray
  refine wpAny_pyNext_enum_itemD D st ⟨li,ht⟩ (by have:=(Zi.mp hu).1;simpa using this) hne (by simp [hne,eT nae]) λy h1 tk hPy heo hst1 ht1 hz1 hk1=>⟨_,rfl,?_⟩
  have hyu:y=u:=by
   have:its.toArray[i]? =YW y:=hPy
   rw [List.getElem?_toArray,hu] at this
   cases this;rfl
  subst hyu
  have li1:=hst1.1
  refine wpAny_letOwnedTupleGo_enum heo λh2 he2 hs2=>?_
  replace hs2:fJ e h1 h2:=hs2
  have hel:e < s.heap.objs.size:=Z7 st
  have nP:H s.heap.objs.size=YY:=I.hok.fresh (Ze _)
  have keep2:∀ b o,b≠e->b≠it->s.heap.get? b=YW o->h2.get? b=YW o:=λb o n1 n2 q=>(hs2.2 b n1).trans (hk1 b o n1 n2 q)
  have hp2:h2.get? s.heap.objs.size=YW {cls:=.type "tuple",data:=.seq #[.int i tk,y]}:=(hs2.2 _ (iH hel)).trans ht1
  have nm:∀ b,b∉[e,it]->b≠e/\b≠it:=λb hb=>⟨λz=>hb (by simp [z]),λz=>hb (by simp [z])⟩
  have tr:∀ b o,H b=YW o->b≠e/\b≠it:=λb o q=>⟨(λz=>by rw [z,f0] at q;cases q),(λz=>by rw [z,g0] at q;cases q)⟩
  have hok2:HOk X.prog X.w (upd H s.heap.objs.size (.tup [.int i,x])) h2:=λb ob q=>by
   by_cases z:b=s.heap.objs.size
   ·subst z
    rw [qr] at q
    cases q
    exact ⟨by show 2<=Zx;decide,[.int i tk,y],.cons ⟨_,rfl⟩ (.cons ru .nil),_,hp2,rfl,_,rfl⟩
   ·rw [qb z] at q
    refine (I.hok b ob q).stay (λc v hcc r=>?_) (λc r=>by rw [qb (jq r nP)];exact r) λc ys r=>by rw [qb (jq r nP)];exact r
    rcases hcc with hcc | hcc
    ·rw [hcc] at r ⊢
     exact keep2 b v (tr b _ q).1 (tr b _ q).2 r
    ·exact keep2 c v (tr c _ hcc).1 (tr c _ hcc).2 r
  have I2:Inv X lh σ (upd H s.heap.objs.size (.tup [.int i,x])) {s with heap:=h2,gens:=s.gens,drawn:=s.drawn,toks:=tk+1}:=by
   refine I.step (ch:=[e,it]) (λb hb=>?_) (λb o _ _ hb q _=>keep2 b o (nm b hb).1 (nm b hb).2 q) (λb o _ _ hb q _=>⟨o.slots,keep2 b o (nm b hb).1 (nm b hb).2 q⟩) (λb o hb q n=>?_) (λb o hb q=>⟨o,keep2 b o (nm b hb).1 (nm b hb).2 q⟩)
    (λb ys q=>by rw [qb (jq q nP)];exact q) (λb o y q=>by rw [qb (jq q nP)];exact q) (λb ps q=>⟨#[],by rw [qb (jq q nP),q];simp⟩) (λm hm=>?_) hok2 I.bare
   ·rcases ZP.mp hb with rfl | hb
    ·exact ⟨f3,f1,f4,f5⟩
    ·have z:b=it:=by simpa using hb
     subst z
     exact ⟨g3,g1,g4,g5⟩
   ·rw [qb (aE (Z7 q))];exact n
   ·obtain ⟨o,es,ep,ho,r⟩:=hm
    exact ⟨o,es,ep,keep2 _ o (eT f1) (eT g1) ho,r⟩
  refine ⟨.ref s.heap.objs.size,_,I2,rfl,⟨_,x,rfl,nP,rfl,λys hy=>by rw [I.tuple_inj hy hq];exact hx⟩,⟨y,?_,?_⟩,λb hb=>?_⟩
  ·have:=he2
   push_cast
   exact this
  ·exact li1.at λo q=>(hs2.2 it (eT hne)).trans q
  ·have hn:=(hf b hb).1
   have hb2:b≠s.heap.objs.size:=λz=>by
    rcases ZP.mp hb with q | q
    ·rw [q] at z;exact absurd hel (by rw [z];exact bC _)
    ·have q:b=it:=by simpa using q
     obtain ⟨o,ho,_⟩:=li
     have:=Z7 ho
     rw [<- q,z] at this
     exact absurd this (bC _)
   rw [qb hb2];exact hn
 done:=by
  intro X hP hw hK hc i lh s σ H E I hf ⟨old,st,li⟩ hg
  subst hP hw hK
  obtain ⟨xs,hq,hx⟩:=hg
  obtain ⟨its,rv,p,hz⟩:=I.tuple hq
  have ht:s.heap.IsTuple a its.toArray:=p
  obtain ⟨g0,g1,g2,g3,g4,g5⟩:=hf it (by simp)
  have hl:=rv.length
  have hT:s.TypeIs (.ref e) "enumerate":=⟨_,st,rfl⟩
  unfold pyNext
  refine Zc (wpAny_attempt (bG (name:=fK "__next__") hT F.slot_enumerate_next (cL F.slot_enumerate_next hT F.entry_enumerate_next ?_ (F.args_enumerate_next_1 _))))
  show Z0 _ _ (field (.ref e) 2 >>= _) _ _ _;refine Zc (bZ st rfl (x:=.ref it) rfl ?_)
  refine Zc (Br (I.ok.hd hc) li ht (by simp;omega) λh' x he' hx'=>?_)
  obtain ⟨o,ho,kc⟩:=hx'
  refine Zc (wpAny_isInstance (T:="StopIteration") (b:=true) ⟨o,ho,kc⟩ isSubtype_stop ?_)
  exact Zr ⟨rfl,I.turned (t':=s.toks) (λb o hb q=>he' b o hb q) g0 g1 g3 g4 g5⟩
 self:=λ_ _ _ _ _ ⟨_,st,_⟩ h=>wpAny_pyIter_enum st h
section
variable{X:Cx}{elts:List ZY}{k1:Nat}{tpos p pos:eE}
noncomputable def VP(K:Zb)(tl:TE):TI:=λσ H R=>tl σ H λx H1=>∃ a,x= .ref a/\(∃ xs,Di K H1 a xs)/\R (Qq K a) H1
theorem Qo{l:ZY}{tl:TE}(hg:Gl X "enumerate")(hm:X.mg "enumerate" =YY)(hl:PE X l tl)(he:Zf [l] X.env=(false,bB l X.env)::Zf [] X.env)(hpl:(aF pos (Zf [] X.env)).any (·.1)=false):
  PI X (.Tuple elts k1 tpos) (.Call (.Name "enumerate" p) [l] [] pos) (VP X.K tl):=by
 intro lh s σ H R I h
 refine cP (Dj I hg hm Fy ?_ (by decide) (by decide))
 have hA:Jc tl Rr σ H (λvs H1=>match vs with
  | [x]=>∃ a,x= .ref a/\(∃ xs,Di X.K H1 a xs)/\R (Qq X.K a) H1
  | _=>False):=h
 refine cH (bj (wy hl xo he pos lh s σ H _ I hA) λus s1 ⟨vs,H1,I1,r1,q1⟩=>?_) he hpl
 match vs,r1,q1 with
 | [x],r1,⟨a,hx,⟨xs,hq⟩,hR⟩=>
  subst hx
  obtain ⟨u,rfl,ru⟩:=Bq r1
  cases ru
  obtain ⟨its,rv,pl,hz⟩:=I1.tuple hq
  refine KD (show s1.heap.IsTuple a its.toArray from pl) λh' he' li' hz' hk'=>wpAny_pyIter_enum he' ?_
  have hs:s1.heap.objs.size<=s1.heap.objs.size+1:=Nat.le_succ _
  refine ⟨s1.heap.objs.size+1,[s1.heap.objs.size+1,s1.heap.objs.size],_,Qq X.K a,H1,rfl,I1.kept (t':=s1.toks) hk',KG a _ _ (Nat.succ_ne_self _),⟨_,he',li'⟩,λb hb=>?_,hR⟩
  rcases ZP.mp hb with rfl | hb
  ·exact I1.fpOk hs (I1.hok.fresh hs)
  ·have z:b=s1.heap.objs.size:=by simpa using hb
   subst z
   exact I1.fpOk (Ze _) (I1.hok.fresh (Ze _))
end
theorem BS{K:Zb}{Z:Hp}{p:Zh}{vs:List V}{ds:List YX}(hl:Rd Z p (.tup vs))(r:Reps (λ_ _=>False) Z ds vs):A9 Z (Qq K p) (yk 0 ds):=λH2 s i=>by
 have hq:Di K H2 p vs:=.inl (Rd.same s hl)
 refine ⟨λd hd=>?_,λhi=>⟨vs,hq,by rw [r.length,hi,Jr];exact Ze _⟩⟩
 rw [Kc] at hd
 cases hx:ds[i]? with
 | none=>rw [hx] at hd;cases hd
 | some x=>
  rw [hx] at hd
  cases hd
  obtain ⟨v,hv,rv⟩:=r.get hx
  refine ⟨⟨vs,v,hq,hv⟩,λy H3 yl=>?_⟩
  obtain ⟨q,v',rfl,hn,rfl,hv'⟩:=yl
  have:=hv' vs hq
  rw [hv] at this
  cases this
  refine ⟨qp hn _,q,_,rfl,(.inl qr),⟨_,_,rfl,?_,_,_,rfl,(rv.same s).same (qp hn _),rfl⟩⟩
  show V.int _=V.int _
  rw [Nat.zero_add]
section
variable{X:Cx}{XO:F7}{cv:Cfg}{body:List aG}{b:FS}{pos p tpos:eE}{tf:FT}{elts:List ZY}{k1:Nat}
theorem Rv(i:Nat){x:Z3}{xp p1:eE}(hp:eP (ZD X.prog X.w) X.A X.env X.xe)(hc:X.lu=true)(hm:X.mg "enumerate" =YY)(ht:Tg X cv (.Tuple elts k1 tpos) tf)(hb:PSs X body (tS cv XO b))(hN:X.N[i]? =YW x:=by rfl)
  (hv:DS X.env.scope x:=by first | exact ZZ rfl | exact ZE (ZZ rfl) | exact ZE (ZE rfl)) (hd:(x == ("__debug__":Z3))=false:=by decide) (hcd:(x == ("__classdict__":Z3))=false:=by decide) (hg:Gl X "enumerate":=by rfl)
  (he:Zf [.Name x xp] X.env=(false,bB (.Name x xp) X.env)::Zf [] X.env:=by exact jf rfl) (hpl:(aF p1 (Zf [] X.env)).any (·.1)=false:=by exact ym rfl)
  (hs:∀ y,eU (.Call (.Name "enumerate" p) [.Name x xp] [] p1) X.env y=pure y:=by intro _;rfl):PS X (.For (.Tuple elts k1 tpos) (.Call (.Name "enumerate" p) [.Name x xp] [] p1) body [] pos) (tS cv XO (CN i tf b)):=by
 obtain ⟨gt,hg',hd'⟩:=ht.ex
 refine PS.imp (KH hp hc (Qo hg hm (vo (i:=i) hN hv hd hcd) he hpl) hg' hb hs) λD σ H ⟨H₀,F,ρ,r,g,e,k⟩=>?_
 obtain ⟨O,o⟩:=g.ex
 obtain ⟨gf,hF⟩:=g.freeze o
 have hT:∀ a xs,Rd H a (.tup xs)->Rd (EU O H) a (.tup xs):=λa xs hx=>Eg o.ls hx
 unfold CN at e
 split at e
 ·rename_i xs hρ
  split at e
  ·rename_i hlf
   obtain ⟨v,hσ,p,vs,rfl,rl,rs⟩:=o.sl i _ hρ
   exact ⟨.ref p,hσ,p,rfl,⟨vs,.inl rl⟩,ig gf (BS (hT p vs rl) (Reps.free hT xs vs hlf rs)) hd' e (k.thaw g.s0 hF)⟩
  ·cases e
 ·rename_i xs hρ
  split at e
  ·rename_i hlf
   obtain ⟨v,hσ,p,vs,rfl,rl,rs⟩:=o.sl i _ hρ
   exact ⟨.ref p,hσ,p,rfl,⟨vs,.inl rl⟩,ig gf (BS (hT p vs rl) (Reps.free hT xs vs hlf rs)) hd' e (k.thaw g.s0 hF)⟩
  ·cases e
 ·cases e
end
end KT
namespace KT
open PySem PySem.Spec PyProof.Rows L2
section
variable{X:Cx}{XO:F7}{cv:Cfg}{pos:eE}{H₀ F H:Hp}{ρ:f9}{σ:L2.St}
theorem SR.change2{i:Nat}{ds':List YX}{p:Zh}{vs vs':List V}{O:Fd}(g:SR cv H₀ F ρ σ H)(o:SO cv H₀ F ρ σ H O)(hρ:i < ρ.length)(hσ:σ[i]? =YW (YW (.ref p)))(hO:O p=YW i)(hp:H p=YW (.lst vs))(hs:∀ j t,i≠j->ρ[j]? =YW (YW t)->SS cv H₀ O σ[j]? j H t)
  (r:Reps (λz a=>z=false/\O a=YY/\H₀ a=YY) H ds' vs'):SR cv H₀ F (ρ.set i (YW (.own2 ds'))) σ (upd H p (.lst vs')):=by
 have hT:∀ a xs,Rd H a (.tup xs)->Rd (upd H p (.lst vs')) a (.tup xs):=λa xs e=>B5 (o0:=.l vs) hp e
 have hL:∀ {P:PP},(∀ z a,P z a->O a=YY)->∀ a ws,Rl P H a ws->Rl P (upd H p (.lst vs')) a ws:=λ{P} hP a ws rl=>by
  have hne:∀ z,P z a->a≠p:=λz q y=>by have:=hP z a q;rw [y,hO] at this;cases this
  rcases rl with ⟨q,e⟩ | ⟨q,u,e⟩
  ·exact .inl ⟨q,by rw [qb (hne _ q)];exact e⟩
  ·exact .inr ⟨q,u,by rw [qb (hne _ q)];exact e⟩
 refine ⟨g.s0,λb u e=>?_,by simp [g.len],g.ln,O,o.fr,λa j e=>?_,λj t e=>?_⟩
 ·rw [qb]
  ·exact g.s1 b u e
  ·intro z;subst z;rw [o.fr b i hO] at e;cases e
 ·by_cases z:a=p
  ·subst z;exact ⟨.l vs',qr⟩
  ·rw [qb z];exact o.ls a j e
 ·by_cases hij:i=j
  ·subst hij
   rw [q9 _ _ _ _ hρ,jn rfl] at e
   cases e
   exact ⟨p,vs',hσ,hO,qr,Reps.mono hT (hL λ_ _ x=>x.2.1) _ _ r⟩
  ·rw [q9 _ _ _ _ hρ,qz hij] at e
   have q:=hs j t hij e
   cases t with
   | par d=>obtain ⟨w,e1,rr⟩:=q;exact ⟨w,e1,Rep.mono hT (hL λ_ _ x=>x) d w rr⟩
   | loc d=>obtain ⟨w,e1,rr⟩:=q;exact ⟨w,e1,Rep.mono hT (hL λ_ _ x=>x.2.1) d w rr⟩
   | own ds=>
    obtain ⟨q1,ws,e1,hq,hqp,rs⟩:=q
    have hne:q1≠p:=λz=>by rw [z,hO] at hq;cases hq;exact hij rfl
    exact ⟨q1,ws,e1,hq,by rw [qb hne];exact hqp,Reps.mono hT (hL λ_ _ x=>x.elim) _ _ rs⟩
   | own2 ds=>
    obtain ⟨q1,ws,e1,hq,hqp,rs⟩:=q
    have hne:q1≠p:=λz=>by rw [z,hO] at hq;cases hq;exact hij rfl
    exact ⟨q1,ws,e1,hq,by rw [qb hne];exact hqp,Reps.mono hT (hL λ_ _ x=>x.2.1) _ _ rs⟩
   | lent ds=>
    obtain ⟨ws,e1,hq,hqp,rs⟩:=q
    have hne:cv.lend≠p:=λz=>by rw [z,hO] at hq;cases hq;exact hij rfl
    exact ⟨ws,e1,hq,by rw [qb hne];exact hqp,Reps.mono hT (hL λ_ _ x=>x.elim) _ _ rs⟩
   | dct ks=>
    obtain ⟨q1,e1,hq,hd⟩:=q
    have hne:q1≠p:=λz=>by rw [z,hO] at hq;cases hq;exact hij rfl
    exact ⟨q1,e1,hq,hd.upd hne⟩
   | ex c=>
    obtain ⟨w,e1,φ,hx,hφ⟩:=q
    have hne:w≠p:=λz=>by rw [z,hp] at hx;cases hx
    exact ⟨w,e1,φ,by rw [qb hne];exact hx,hφ⟩
theorem NU(i j:Nat){x y:Z3}{xp yp apos cpos:eE}(hN:X.N[i]? =YW x:=by rfl)(hv:DS X.env.scope x:=by first | exact ZZ rfl | exact ZE (ZZ rfl) | exact ZE (ZE rfl))
  (hd:(x == ("__debug__":Z3))=false:=by decide) (hcd:(x == ("__classdict__":Z3))=false:=by decide)
  (hN':X.N[j]? =YW y:=by rfl) (hv':DS X.env.scope y:=by first | exact ZZ rfl | exact ZE (ZZ rfl) | exact ZE (ZE rfl))
  (hd':(y == ("__debug__":Z3))=false:=by decide) (hcd':(y == ("__classdict__":Z3))=false:=by decide)
  (hbase:cI (.Name x xp) "append" X.env (bB (.Name x xp) X.env)=bB (.Name x xp) X.env:=by rfl)
  (hfew:((aF cpos (Zf [.Name y yp] X.env)).all (λx=>!x.1) && (iX cpos (gB [] X.env)).all (λx=>x.1.isSome)
    && decide ([ZY.Name y yp].length+([]:List fL).length+(if ([]:List fL).isEmpty then 0 else 1) < 30))=true:=by rfl)
  (hline:(apos.endLine == cpos.line)=true:=by rfl) (hs1:Zf [.Name y yp] X.env=(false,bB (.Name y yp) X.env)::Zf [] X.env:=by rfl) (hplain:(aF cpos (Zf [] X.env)).any (·.1)=false:=by rfl)
  (hs:cB (.Call (.Attribute (.Name x xp) "append" apos) [.Name y yp] [] cpos) YY pos.line X.env=pure false:=by rfl):
  PS X (.Expr (.Call (.Attribute (.Name x xp) "append" apos) [.Name y yp] [] cpos) pos) (tS cv XO (my i j)):=by
 intro lh s σ H D I ⟨H₀,F,ρ,r,g,e',k⟩
 refine Ab (GA aW dY dZ Be (vo (i:=i) hN hv hd hcd) (wy (vo (i:=j) hN' hv' hd' hcd') xo hs1) hbase hfew hline hs1 hplain) hs lh s σ H D I ?_
 unfold my at e'
 split at e'
 case h_2=>cases e'
 rename_i ys hj
 obtain ⟨O0,o0⟩:=g.ex
 obtain ⟨pj,ws,O,g2,o,hσj,hOj,hpj,rsj,_⟩:=SO.drop g o0 hj
 have fin:∀ (xs:List YX) (p:Zh) (vs:List V),σ[i]? =YW (YW (.ref p))->O p=YW i->H p=YW (.lst vs)->Reps (λz a=>z=false/\O a=YY/\H₀ a=YY) H xs vs->
   SR cv H₀ F ((ρ.set j (YW (.loc (.list ys)))).set i (YW (.own2 (xs++[.list ys])))) σ (upd H p (.lst (vs++[.ref pj]))):=λxs p vs hσ hO hp rs=>by
  have hil:i < (ρ.set j (YW (.loc (.list ys)))).length:=by
   have:=(Zi.mp hσ).1
   rw [g.ln] at this
   rw [g2.len];exact this
  refine g2.change2 o hil hσ hO hp (λj' t _ q=>o.sl j' t q) (rs.append (Reps.one ?_))
  refine ⟨pj,ws,rfl,.inl ⟨⟨rfl,hOj,?_⟩,hpj⟩,rsj.imp λ_ _ z=>z.elim⟩
  obtain ⟨p0,vs0,e0,q0,h0,_⟩:=o0.sl j _ hj
  rw [hσj] at e0
  cases e0
  exact g.s0.free (o0.fr _ _ q0)
 split at e'
 ·rename_i xs hi
  split at e'
  ·rename_i hc
   cases e'
   have hρ2:(ρ.set j (YW (.loc (.list ys))))[i]? =YW (YW (.own xs)):=by
    rw [q9 _ _ _ _ (Zi.mp hj).1,qz (eT hc.1)];exact hi
   obtain ⟨p,vs,hσ,hO,hp,rs⟩:=o.sl i _ hρ2
   exact ⟨.ref p,hσ,.inl ⟨rfl,vs,SqL.of hp⟩,.ref pj,hσj,p,vs,.ref pj,rfl,rfl,hp,by rw [rs.length];exact Zt hc.2 B1,k _ _ (fin xs p vs hσ hO hp (rs.imp λ_ _ z=>z.elim))⟩
  ·cases e'
 ·rename_i xs hi
  split at e'
  ·rename_i hc
   cases e'
   have hρ2:(ρ.set j (YW (.loc (.list ys))))[i]? =YW (YW (.own2 xs)):=by
    rw [q9 _ _ _ _ (Zi.mp hj).1,qz (eT hc.1)];exact hi
   obtain ⟨p,vs,hσ,hO,hp,rs⟩:=o.sl i _ hρ2
   exact ⟨.ref p,hσ,.inl ⟨rfl,vs,SqL.of hp⟩,.ref pj,hσj,p,vs,.ref pj,rfl,rfl,hp,by rw [rs.length];exact Zt hc.2 B1,k _ _ (fin xs p vs hσ hO hp rs)⟩
  ·cases e'
 ·cases e'
end
structure FunT(K:Zb)(mg:Z3->Option YZ)(x:Z3)(st:aG)(ps:List Z3):Prop where
 ex:∃ f fd,Fun K x x st f fd/\mg x=YW (.ref f)/\Binds K fd ps []/\∀ (s:Zd) (us:List YZ),us.length=ps.length->BindsTo s fd ⟨us,[]⟩ (ps.zip us)
section
variable{P:Z8}{w:ZN}{K:Zb}{mg:Z3->Option YZ}{base:ZM}{cv:Nat->YZ}{CX:GY}{n ar:Nat}{x:Z3}{st:aG}{ps:List Z3}{g:FC}
theorem xy(F:FunT K mg x st ps):FnF CX P w K mg base cv 0 x ar (λ_=>YY):=by
 obtain ⟨f,fd,F,hm,hb,_⟩:=F.ex
 have no:∀ vs H Q E,¬ iw cv ar (λ_=>YY) vs H Q E:=λvs H Q E h=>by
  obtain ⟨ds,r,_,_,z,_⟩:=h
  cases z
 exact ⟨f,fd,ps,⟨λvs H Q E h=>absurd h (no vs H Q E),λA lj s H args us vs Q E _ _ _ _ h=>absurd h (no vs H Q E)⟩,hm,F.kp,hb⟩
theorem gj(F:FunT K mg x st ps)(ok:∀ f fd,Fun K x x st f fd->FnOk P w K mg base CX n f fd ps (iw cv ar g)):FnF CX P w K mg base cv n x ar g:=by
 obtain ⟨f,fd,F,hm,hb,_⟩:=F.ex
 exact ⟨f,fd,ps,ok f fd F,hm,F.kp,hb⟩
theorem RQ{h:ZM}{f:Zh}{oc:YZ}{od an:Option Zh}{osl:Array (Option YZ)}{kV doc pm cdv ct:YZ}(X:K.In h)(G:h.Ns ZF mg)(a:bO K ZF x=YW (YW (.ref f)))
  (l:K.lookup f=YW ⟨oc,od,.func (aU x x (u0 st) (g8 st) (zx st) .none kV doc pm an cdv ct),osl⟩) (c:fD K cdv x=true) (k:eF K (.ref f)=true)
  (hb:∀ (kV doc pm:YZ) (an:Option Zh) (cdv ct:YZ) (us:List YZ),us.length=ps.length->iO (aU x x (u0 st) (g8 st) (zx st) .none kV doc pm an cdv ct) ⟨us,[]⟩=pure (ps.zip us)):FunT K mg x st ps:=
 have F:=UY (st:=st) l c k
 ⟨f,_,F,gZ X G a,F.binds hb,λs us hl=>.of_eq (hb kV doc pm an cdv ct us hl)⟩
end
theorem WX{us:List YZ}(h:us.length=1):∃ a,us=[a]:=List.length_eq_one_iff.mp h
theorem W3{us:List YZ}(h:us.length=2):∃ a b,us=[a,b]:=by
 cases us with
 | nil=>cases h
 | cons a r=>obtain ⟨b,rfl⟩:=WX (by simpa using h);exact ⟨a,b,rfl⟩
theorem Wv{us:List YZ}(h:us.length=3):∃ a b c,us=[a,b,c]:=by
 cases us with
 | nil=>cases h
 | cons a r=>obtain ⟨b,c,rfl⟩:=W3 (by simpa using h);exact ⟨a,b,c,rfl⟩
theorem XQ{us:List YZ}(h:us.length=4):∃ a b c d,us=[a,b,c,d]:=by
 cases us with
 | nil=>cases h
 | cons a r=>obtain ⟨b,c,d,rfl⟩:=Wv (by simpa using h);exact ⟨a,b,c,d,rfl⟩
noncomputable def Cc(K:Zb):Bool:=K.all λp=>p.2.cls != .type "list"
theorem Ji:∀ {K:Zb} {a:Zh} {o:bX},K.lookup a=YW o->(a,o)∈K
 | [],_,_,e=>by cases e
 | (b,u)::r,a,o,e=>by
  rw [bU] at e
  by_cases z:(a == b)=true
  ·rw [z] at e
   cases e
   have:a=b:=by simpa using z
   subst this
   exact Zz
  ·have z:(a == b)=false:=by simpa using z
   rw [z] at e
   exact Z5 _ (Ji e)
theorem KM{K:Zb}(h:Cc K=true){a:Zh}{o:bX}(e:K.lookup a=YW o):o.cls≠.type "list":=by
 unfold Cc at h
 rw [gT] at h
 have:=h (a,o) (Ji e)
 simpa using this
theorem G4{P:PP}{H:Hp}:∀ ns:List Int,Reps P H (ns.map .int) (ns.map V.int)
 | []=>rfl
 | n::r=>⟨.int n,_,rfl,rfl,G4 r⟩
theorem L8{K:Zb}{H:Hp}{a:Zh}{ns:List Int}(hk:Cc K=true)(h:SqL K H a (ns.map V.int)):Rep (λ_ _=>True) H (.list (ns.map .int)) (.ref a):=by
 rcases h with h | ⟨o,its,n,hl,hc,_⟩
 ·exact ⟨a,_,rfl,h.elim (λz=>.inl ⟨trivial,z⟩) λz=>.inr ⟨trivial,z⟩,G4 ns⟩
 ·exact absurd hc (KM hk hl)
noncomputable def P7:Nat->Z3
 | 1=>"NotRead"
 | 2=>"NoTurning"
 | 3=>"NoNumber"
 | 4=>"NoThing"
 | 5=>"Unlike"
 | _=>"KindError"
noncomputable def gv(K:Zb)(x:Z3):Option YZ:=match bO K ZF x with
 | some (YW v)=>YW v
 | _=>YY
noncomputable def rq(K:Zb)(c:Nat):YZ:=match gv K (P7 c) with
 | some v=>v
 | none=>(gv K "KindError").getD .none
noncomputable def ML(K:Zb)(v:YZ):Bool:=match v with
 | .ref D=>(cO K (.ref D) "__getattribute__" == YW (YW (.builtin "BaseException.__getattribute__"))) && (cO K (.ref D) "__getattr__" == YW YY) && (gX K D (.type "BaseException") == YW true) &&
  PySem.W.hasDictIn K D && (cO K (.ref D) "__class__" == YW (YW (.builtin "object.__class__"))) &&
  (PySem.W.specialIn K (.builtin "object.__class__") "__get__" == YW (YW (.builtin "getset_descriptor.__get__"))) && (PySem.W.takesIn K (.builtin "object.__class__") == YW true) && (gX K D (.type "object") == YW true)
 | _=>false
theorem YV{p:Nat->Prop}(h0:p 0)(h1:p 1)(h2:p 2)(h3:p 3)(h4:p 4)(h5:p 5)(h:∀ c,p (c+6)):∀ c,p c
 | 0=>h0
 | 1=>h1
 | 2=>h2
 | 3=>h3
 | 4=>h4
 | 5=>h5
 | c+6=>h c
theorem UE(K:Zb)(c:Nat):rq K (c+6)=rq K 0:=rfl
noncomputable def IL(p:Nat->Bool):Bool:=p 0 && p 1 && p 2 && p 3 && p 4 && p 5
theorem QH{p:Nat->Bool}(h:IL p=true):p 0=true/\p 1=true/\p 2=true/\p 3=true/\p 4=true/\p 5=true:=by
 simp only [IL,Zn] at h
 obtain ⟨⟨⟨⟨⟨a,b⟩,c⟩,d⟩,e⟩,f⟩:=h
 exact ⟨a,b,c,d,e,f⟩
theorem Xr{K:Zb}{p:Nat->YZ->Prop}{q:Nat->Bool}(h:IL q=true)(hq:∀ c,q c=true->p c (rq K c))(hp:∀ c v,p 0 v->p (c+6) v):∀ c,p c (rq K c):=by
 obtain ⟨h0,h1,h2,h3,h4,h5⟩:=QH h
 exact YV (hq 0 h0) (hq 1 h1) (hq 2 h2) (hq 3 h3) (hq 4 h4) (hq 5 h5) λc=>by rw [UE];exact hp c _ (hq 0 h0)
theorem LW{K:Zb}(h:IL (λc=>ML K (rq K c))=true):XAll K (rq K):=by
 refine ⟨Xr (p:=λ_ v=>∃ D,v= .ref D/\XCls K D) h (λc hc=>?_) λ_ _ z=>z⟩
 have hc:ML K (rq K c)=true:=hc
 unfold ML at hc
 split at hc
 ·rename_i D hD
  simp only [Zn,beq_iff_eq] at hc
  obtain ⟨⟨⟨⟨⟨⟨⟨a,b⟩,c⟩,d⟩,e⟩,f⟩,g⟩,i⟩:=hc
  exact ⟨D,hD,a,b,c,d,e,f,g,i⟩
 ·cases hc
noncomputable def O5(K:Zb):Bool:=IL λc=>ML K (rq K c)
noncomputable def S5(K:Zb)(x:Z3)(sub:Nat->Bool):Bool:=match gv K x with
 | some (.ref C)=>IL λc=>aD K (rq K c) (.ref C) == YW (sub c)
 | _=>false
noncomputable def VG(K:Zb)(sub:Nat->Bool):Bool:=IL λc=>aD K (rq K c) (.type "ValueError") == YW (sub c)
noncomputable def TV(K:Zb)(x:Z3)(sub:Nat->Bool):Bool:=match gv K x with
 | some v=>IL λc=>PySem.W.exmOne K (rq K c) v == YW (sub c)
 | _=>false
noncomputable def SD(K:Zb)(x:Z3):Bool:=match gv K x with
 | some (.ref C)=>PySem.W.excIn K C Y3 "ValueError.__new__"
 | _=>false
section
variable{K:Zb}{h:ZM}{mg:Z3->Option YZ}{x:Z3}{sub:Nat->Bool}
theorem OS{v:YZ}(X:K.In h)(G:h.Ns ZF mg)(e:gv K x=YW v):mg x=YW v:=by
 unfold gv at e
 split at e
 ·rename_i z
  cases e
  exact gZ X G z
 ·cases e
theorem MT(X:K.In h)(G:h.Ns ZF mg)(hs:∀ c,sub (c+6)=sub 0)(ha:O5 K=true)(hb:S5 K x sub=true):IsF K mg (rq K) x sub:=by
 refine ⟨LW ha,.inl ?_⟩
 unfold S5 at hb
 split at hb
 ·rename_i C hC
  exact ⟨C,OS X G hC,Xr (p:=λc v=>aD K v (.ref C)=YW (sub c)) hb (λc z=>by simpa using z) λc v z=>by rw [hs];exact z⟩
 ·cases hb
theorem Sx(X:K.In h)(G:h.Ns ZF mg)(hs:∀ c,sub (c+6)=sub 0)(ha:O5 K=true)(hn:bO K ZF "ValueError" =YW YY)
  (hb:VG K sub=true):IsF K mg (rq K) "ValueError" sub:=by
 refine ⟨LW ha,.inr ⟨"ValueError",aB X G hn,by decide +kernel,Xr (p:=λc v=>aD K v (.type "ValueError")=YW (sub c)) hb (λc z=>by simpa using z) λc v z=>by rw [hs];exact z⟩⟩
theorem PH(X:K.In h)(G:h.Ns ZF mg)(hs:∀ c,sub (c+6)=sub 0)
  (hb:TV K x sub=true):HanF K mg (rq K) x sub:=by
 refine ⟨?_⟩
 unfold TV at hb
 split at hb
 ·rename_i v hv
  exact ⟨v,OS X G hv,Xr (p:=λc u=>PySem.W.exmOne K u v=YW (sub c)) hb (λc z=>by simpa using z) λc u z=>by rw [hs];exact z⟩
 ·cases hb
theorem IP{c:Nat}(X:K.In h)(G:h.Ns ZF mg)(hx:x=P7 c)
  (hb:SD K x=true):ExcF K mg (rq K) x c:=by
 refine ⟨?_⟩
 unfold SD at hb
 split at hb
 ·rename_i C hC
  refine ⟨C,?_,OS X G hC,hb⟩
  unfold rq
  rw [<- hx,hC]
 ·cases hb
theorem WO(X:K.In h)(G:h.Ns ZF mg)(hb:(["len","int","bool","str","tuple","list","isinstance","range","enumerate","zip","reversed"]:List Z3).all (λx=>bO K ZF x == YW YY)=true):MF mg:=by
 simp only [List.all_cons,List.all_nil,Bool.and_true,Zn,beq_iff_eq] at hb
 obtain ⟨a,b,c,d,e,f,g,i,j,k,l⟩:=hb
 exact ⟨aB X G a,aB X G b,aB X G c,aB X G d,aB X G e,aB X G f,aB X G g,aB X G i,aB X G j,aB X G k,aB X G l⟩
end
theorem Qs{P:Z8}{w:ZN}{H:Hp}{s:Zd}{e:YZ}{s':Zd}(h:ji P w [] H s (λ_ _ _=>False) e s'):False:=by
 obtain ⟨_,_,_,_,_,_,_,_,_,z⟩:=h
 exact z
theorem T6{K:Zb}{cv:Nat->YZ}{g:FC}{H:Hp}{a:Zh}{ns:List Int}(hk:Cc K=true)(hg:g [.list (ns.map .int)]=YW (.ok (.bool true)))(h:SqL K H a (ns.map V.int)):iw cv 1 g [.ref a] H (λv _=>v= .bl true) λ_ _ _=>False:=
 ⟨[.list (ns.map .int)],_,rfl,⟨.ref a,[],rfl,L8 hk h,rfl⟩,hg,λd v H' e _ r=>by cases e;exact r,λc H' e=>(nomatch e)⟩
theorem XR{l:PySem.W.OpenLaw}{q:Z8}{loose:List Z3}{XP:(Z3->Option YZ)->ZM->Prop}{YP:ZN->ZM->Prop}{d:DefRec}{K:Params->Zb}{g:FC}{N:Nat}{st:aG}(hn:l.most=YW 63)(hdf:d.params.defaults=[])(hr:Room N callerA)
  (hY:∀ (w:ZN) (h:ZM),YP w h->(K w.params).In h) (hd:d.name= "law")
  (F:∀ (w:ZN) (mg:Z3->Option YZ) (h:ZM),(K w.params).In h->h.Ns ZF mg->FunT (K w.params) mg "law" st ["script"]/\
    ∀ f fd,Fun (K w.params) "law" "law" st f fd->∀ base:ZM,FnOk l.prog w (K w.params) mg base (ji l.prog w) N f fd ["script"] (iw (rq (K w.params)) 1 g))
  (hL:∀ w:ZN,Cc (K w.params)=true) (hg:∀ ns:List Int,ns.length<=63->g [.list (ns.map .int)]=YW (.ok (.bool true))):
  PySem.W.WalkO q loose XP YP l.row.toRowW d [] (λf vs=>PySem.call f vs):=
 L2.Rf (n:=63) (k:=N) (x:="script") (CX:=λw=>ji l.prog w) (sp:=λw=>iw (rq (K w.params)) 1 g) hn (by decide) hdf hr hY (λw mg fa h KX G hm=>by
  obtain ⟨T,ok⟩:=F w mg h KX G
  obtain ⟨f,fd,FF,hmf,_,hb⟩:=T.ex
  rw [hd,hmf] at hm
  cases hm
  exact ⟨fd,λs u=>hb s [u] rfl,λbase _ _=>ok _ fd FF base⟩) (λw H a ns hl _ hS=>T6 (hL w) (hg ns hl) hS) λw H s e s' z=>Qs z
noncomputable def XM:YX->YZ->Bool
 | .int i,.int j _=>i == j
 | .str x,.str y _=>x == y
 | _,_=>false
noncomputable def M9:List YX->List YZ->Bool
 | [],[]=>true
 | d::ds,u::us=>XM d u && M9 ds us
 | _,_=>false
noncomputable def Xn:YX->V
 | .int i=>.int i
 | .str x=>.str x
 | _=>.non
theorem UN{d:YX}{u:YZ}(h:XM d u=true):RelV (Xn d) u/\∀ (P:PP) (H:Hp),Rep P H d (Xn d):=by
 unfold XM at h
 split at h
 ·rename_i i j t
  have e:i=j:=by simpa using h
  subst e
  exact ⟨⟨t,rfl⟩,λ_ _=>rfl⟩
 ·rename_i x y t
  have e:x=y:=by simpa using h
  subst e
  exact ⟨⟨t,rfl⟩,λ_ _=>rfl⟩
 ·cases h
theorem O2:∀ {ds:List YX} {us:List YZ},M9 ds us=true->Vals (ds.map Xn) us/\∀ (P:PP) (H:Hp),Reps P H ds (ds.map Xn)
 | [],[],_=>⟨.nil,λ_ _=>rfl⟩
 | d::ds,u::us,h=>by
  simp only [M9,Zn] at h
  obtain ⟨r1,p1⟩:=UN h.1
  obtain ⟨r2,p2⟩:=O2 h.2
  exact ⟨.cons r1 r2,λP H=>⟨_,_,rfl,p1 P H,p2 P H⟩⟩
 | [],_::_,h=>by cases h
 | _::_,[],h=>by cases h
noncomputable def Pu(K:Zb)(x:Z3)(d:YX):Bool:=match d,bO K ZF x with
 | .tuple ds,YW (YW (.ref a))=>(match K.lookup a with
  | some ⟨.type c,_,.seq its _,_⟩=>(c == "tuple") && decide (its.size<=1000) && M9 ds its.toList
  | _=>false)
 | _,_=>false
theorem R8{K:Zb}{mg:Z3->Option YZ}{h:ZM}{x:Z3}{d:YX}(X:K.In h)(G:h.Ns ZF mg)(z:Pu K x d=true):KTup K mg x d:=by
 unfold Pu at z
 split at z
 ·rename_i ds a hn
  split at z
  ·rename_i c od its n sl hl
   simp only [Zn,beq_iff_eq,decide_eq_true_eq] at z
   obtain ⟨⟨rfl,hz⟩,hs⟩:=z
   obtain ⟨r,p⟩:=O2 hs
   exact ⟨a,ds,_,rfl,gZ X G hn,λH=>.inr ⟨_,its,n,hl,rfl,rfl,Zo hz (by decide),r⟩,p⟩
  ·cases z
 ·cases z
end KT
namespace KT
open PySem PySem.W PyProof.Rows
noncomputable def ev{α:Type}(lt:Nat->Nat->Bool):KasT α->α
 | .ret a=>a
 | .ask i j k=>ev lt (k (lt i j))
theorem Bb{α β:Type}(lt:Nat->Nat->Bool)(f:α->KasT β):∀ t:KasT α,ev lt (t.bind f)=ev lt (f (ev lt t))
 | .ret _=>rfl
 | .ask i j k=>Bb lt f (k (lt i j))
section
variable{O:jD}(κ:Nat->O.α)
noncomputable def Ky(p:Array Nat)(i:Nat):O.α:=κ (p.getD i 0)
noncomputable def Af(i j:Nat):Bool:=O.blt (κ i) (κ j)
noncomputable def Av(p:Array Nat)(k:Nat):Prop:=∀ i j,i<=j->j < k->O.kle (Ky κ p i) (Ky κ p j)
noncomputable def Lo(p:Array Nat)(k:Nat):Prop:=∀ i j,i<=j->j < k->O.kle (Ky κ p j) (Ky κ p i)
variable{κ}
theorem AQ{p q:Array Nat}{i j:Nat}(h:p[i]? =q[j]?):Ky κ p i=Ky κ q j:=by
 have:p.getD i 0=q.getD j 0:=by
  rw [eX,eX,h]
 unfold Ky;rw [this]
theorem GI{p:Array Nat}{src d:Nat}(hs:src < p.size)(hd:d<=src)(k:Nat):Ky κ (bubble p src d) k=if k=src - d then Ky κ p src else if src - d < k/\k<=src then Ky κ p (k - 1) else Ky κ p k:=by
 have e:=getElem?_bubble hs d hd k
 split
 ·rename_i h;rw [jn h] at e;exact AQ e
 ·rename_i h
  rw [qz h] at e
  split
  ·rename_i h2;rw [jn h2] at e;exact AQ e
  ·rename_i h2;rw [qz h2] at e;exact AQ e
theorem Hw{p:Array Nat}{i j:Nat}(hj:j<=p.size)(k:Nat):Ky κ (kas_rev p i j) k=if i<=k/\k < j then Ky κ p (i+j - 1 - k) else Ky κ p k:=by
 have e:=getElem?_mirror_all (i:=i) hj k
 unfold kas_rev
 split
 ·rename_i h;rw [jn h] at e;exact AQ e
 ·rename_i h;rw [qz h] at e;exact AQ e
theorem Ek{p:Array Nat}{i j:Nat}(hj:j<=p.size)(he:∀ k,i<=k->k < j->Ky κ p k=Ky κ p (j - 1))(k:Nat):Ky κ (kas_rev p i j) k=Ky κ p k:=by
 rw [Hw hj]
 split
 ·rename_i h;rw [he k h.1 h.2,he (i+j - 1 - k) (by omega) (by omega)]
 ·rfl
theorem mr(p:Array Nat)(i j:Nat):(kas_rev p i j).size=p.size:=mirror_size _ _ _ _
theorem BL(p:Array Nat)(i j:Nat):(kas_rev p i j).Perm p:=mirror_perm _ _ _ _
theorem Bc{a b:O.α}(h:O.blt a b=false):O.kle b a:=h
theorem mm{a b:O.α}(h:O.blt a b=true):O.kle a b:=jD.kle_of_klt h
theorem ON(p:Array Nat):Av κ p 1:=λi j h1 h2=>by
 have:i=j:=by omega
 subst this;exact eN _
theorem NV{p:Array Nat}{n:Nat}(h1:1<=n)(h:Av κ p n)(e:O.kle (Ky κ p (n - 1)) (Ky κ p n)):Av κ p (n+1):=λi j hij hj=>by
 by_cases hjn:j=n
 ·subst hjn
  by_cases hi:i=j
  ·subst hi;exact eN _
  ·exact bV (h i (j - 1) (by omega) (by omega)) e
 ·exact h i j hij (by omega)
theorem Bi{p:Array Nat}{n:Nat}(h1:1<=n)(h:Lo κ p n)(e:O.kle (Ky κ p n) (Ky κ p (n - 1))):Lo κ p (n+1):=λi j hij hj=>by
 by_cases hjn:j=n
 ·subst hjn
  by_cases hi:i=j
  ·subst hi;exact eN _
  ·exact bV e (h i (j - 1) (by omega) (by omega))
 ·exact h i j hij (by omega)
theorem Lw(p:Array Nat):∀ (f n:Nat),1<=n->Av κ p n->Av κ p (ev (Af κ) (kas_asc p f n))/\n<=ev (Af κ) (kas_asc p f n)/\ev (Af κ) (kas_asc p f n)<=n+f/\(ev (Af κ) (kas_asc p f n) < n+f->O.blt (Ky κ p (ev (Af κ) (kas_asc p f n))) (Ky κ p (ev (Af κ) (kas_asc p f n) - 1))=true)
 | 0,n,_,h=>⟨h,Ze _,Ze _,λz=>absurd z (bC _)⟩
 | f+1,n,h1,h=>by
  have e:ev (Af κ) (kas_asc p (f+1) n)=ev (Af κ) (if Af κ (p.getD n 0) (p.getD (n - 1) 0)=true then .ret n else kas_asc p f (n+1)):=rfl
  rw [e]
  cases q:Af κ (p.getD n 0) (p.getD (n - 1) 0) with
  | true=>exact ⟨h,Ze _,by show n<=_;exact eG _ _,λ_=>q⟩
  | false=>
   rw [qz (by simp)]
   obtain ⟨a,b,c,d⟩:=Lw p f (n+1) (by exact aQ _ _) (NV h1 h (Bc q))
   exact ⟨a,by exact ZX ‹_›,by omega,λz=>d (by omega)⟩
theorem Ec:∀ (f:Nat) (p:Array Nat) (n q:Nat),q+1<=n->n+f<=p.size->Lo κ p n->(∀ i,n - (q+1)<=i->i < n->Ky κ p i=Ky κ p (n - 1))->
  ∃ p' n' q',ev (Af κ) (kas_desc f p n q)=(p',n',q')/\p'.Perm p/\q'+1<=n'/\n'<=n+f/\Lo κ p' n'/\∀ i,n' - (q'+1)<=i->i < n'->Ky κ p' i=Ky κ p' (n' - 1)
 | 0,p,n,q,h1,h2,h3,h4=>⟨p,n,q,rfl,fV _,h1,Ze _,h3,h4⟩
 | f+1,p,n,q,h1,h2,h3,h4=>by
  have e:ev (Af κ) (kas_desc (f+1) p n q)=ev (Af κ) (if Af κ (p.getD n 0) (p.getD (n - 1) 0)=true then (if q > 0 then kas_desc f (kas_rev p (n - (q+1)) n) (n+1) 0 else kas_desc f p (n+1) 0)
   else .ask (p.getD (n - 1) 0) (p.getD n 0) λd=>if d=true then .ret (p,n,q) else kas_desc f p (n+1) (q+1)):=rfl
  rw [e]
  cases c:Af κ (p.getD n 0) (p.getD (n - 1) 0) with
  | true=>
   rw [jn rfl]
   by_cases hq:q > 0
   ·rw [jn hq]
    have iY:=Ek (κ:=κ) (p:=p) (i:=n - (q+1)) (j:=n) (by exact Zq ‹_›) h4
    have hf:Lo κ (kas_rev p (n - (q+1)) n) (n+1):=Bi (by exact Z2 ‹_›) (λi j hij hj=>by rw [iY,iY];exact h3 i j hij hj) (by rw [iY,iY];exact mm c)
    obtain ⟨p',n',q',a1,a2,a3,a4,a5,a6⟩:=Ec f (kas_rev p (n - (q+1)) n) (n+1) 0 (by exact aQ _ _) (by rw [mr];omega) hf (λi h1 h2=>by congr 1;omega)
    exact ⟨p',n',q',a1,a2.trans (BL _ _ _),a3,by omega,a5,a6⟩
   ·rw [qz hq]
    obtain ⟨p',n',q',a1,a2,a3,a4,a5,a6⟩:=Ec f p (n+1) 0 (by exact aQ _ _) (by omega) (Bi (by exact Z2 ‹_›) h3 (mm c)) (λi h1 h2=>by congr 1;omega)
    exact ⟨p',n',q',a1,a2,a3,by omega,a5,a6⟩
  | false=>
   rw [qz (by simp)]
   have e2:ev (Af κ) (.ask (p.getD (n - 1) 0) (p.getD n 0) λd=>if d=true then .ret (p,n,q) else kas_desc f p (n+1) (q+1))=ev (Af κ) (if Af κ (p.getD (n - 1) 0) (p.getD n 0)=true then .ret (p,n,q) else kas_desc f p (n+1) (q+1)):=rfl
   rw [e2]
   cases d:Af κ (p.getD (n - 1) 0) (p.getD n 0) with
   | true=>rw [jn rfl];exact ⟨p,n,q,rfl,fV _,h1,by exact eG _ _,h3,h4⟩
   | false=>
    rw [qz (by simp)]
    have eq:Ky κ p n=Ky κ p (n - 1):=O.total _ _ c d
    obtain ⟨p',n',q',a1,a2,a3,a4,a5,a6⟩:=Ec f p (n+1) (q+1) (by exact fM ‹_›) (by omega) (Bi (by exact Z2 ‹_›) h3 (Bc d)) (λi h1 h2=>by
     show _=Ky κ p n
     by_cases hi:i=n
     ·subst hi;rfl
     ·rw [eq];exact h4 i (by omega) (by omega))
    exact ⟨p',n',q',a1,a2,a3,by omega,a5,a6⟩
theorem Jq{n nrem:Nat}{p:Array Nat}(h1:1<=n)(hn:n<=nrem)(hz:nrem<=p.size)(h:Lo κ p n):
  ∃ m p',ev (Af κ) (kas_tail3 n nrem p)=(m,p')/\p'.Perm p/\m<=nrem/\1<=m/\Av κ p' m:=by
 have hr:Av κ (kas_rev p 0 n) n:=λi j hij hj=>by
  rw [Hw (by exact Zo ‹_› ‹_›),Hw (by exact Zo ‹_› ‹_›),jn (by omega),jn (by omega)]
  exact h _ _ (by omega) (by omega)
 obtain ⟨a,b,c,_⟩:=Lw (κ:=κ) (kas_rev p 0 n) (nrem - n) n h1 hr
 refine ⟨ev (Af κ) (kas_asc (kas_rev p 0 n) (nrem - n) n),kas_rev p 0 n,?_,BL _ _ _,by omega,by exact Zt ‹_› ‹_›,a⟩
 unfold kas_tail3
 rw [Bb];rfl
theorem D8{n nrem:Nat}{p:Array Nat}(h1:1<=n)(hn:n+1<=nrem)(hz:nrem<=p.size)(h:∀ i,i < n->Ky κ p i=Ky κ p (n - 1))(hd:O.blt (Ky κ p n) (Ky κ p (n - 1))=true):
  ∃ m p',ev (Af κ) (kas_descPart n nrem p)=(m,p')/\p'.Perm p/\m<=nrem/\1<=m/\Av κ p' m:=by
 have hf:Lo κ p (n+1):=Bi h1 (λi j hij hj=>by rw [h i (by exact Nat.lt_of_le_of_lt ‹_› ‹_›),h j hj];exact eN _) (mm hd)
 obtain ⟨p',n',q',a1,a2,a3,a4,a5,a6⟩:=Ec (nrem - (n+1)) p (n+1) 0 (by exact aQ _ _) (by omega) hf (λi h1 h2=>by congr 1;omega)
 have hsz:p'.size=p.size:=a2.size_eq
 unfold kas_descPart
 rw [Bb,a1]
 dsimp only
 split
 ·have iY:=Ek (κ:=κ) (p:=p') (i:=n' - (q'+1)) (j:=n') (by omega) a6
  obtain ⟨m,p2,b1,b2,b3,b4,b5⟩:=Jq (κ:=κ) (n:=n') (nrem:=nrem) (p:=kas_rev p' (n' - (q'+1)) n') (by exact Z2 ‹_›) (by omega) (by rw [mr];omega) (λi j hij hj=>by rw [iY,iY];exact a5 i j hij hj)
  exact ⟨m,p2,b1,(b2.trans (BL _ _ _)).trans a2,b3,b4,b5⟩
 ·obtain ⟨m,p2,b1,b2,b3,b4,b5⟩:=Jq (κ:=κ) (n:=n') (nrem:=nrem) (p:=p') (by exact Z2 ‹_›) (by omega) (by omega) a5
  exact ⟨m,p2,b1,b2.trans a2,b3,b4,b5⟩
theorem Os{nrem:Nat}{p:Array Nat}(h1:1<=nrem)(hz:nrem<=p.size):∃ m p',ev (Af κ) (kas_count nrem p)=(m,p')/\p'.Perm p/\m<=nrem/\1<=m/\Av κ p' m:=by
 obtain ⟨a,b,c,d⟩:=Lw (κ:=κ) p (nrem - 1) 1 (Ze _) (ON p)
 unfold kas_count
 rw [Bb]
 generalize ev (Af κ) (kas_asc p (nrem - 1) 1)=n at a b c d
 split
 ·exact ⟨n,p,rfl,fV _,by omega,b,a⟩
 ·rename_i hne
  have hlt:n < nrem:=by
   have:n≠nrem:=λz=>hne (by simp [z])
   omega
  have hd:=d (by omega)
  split
  ·rename_i h2
   have e:ev (Af κ) (.ask (p.getD 0 0) (p.getD (n - 1) 0) λc=>if c=true then .ret (n,p) else kas_descPart n nrem (kas_rev p 0 n))=ev (Af κ) (if Af κ (p.getD 0 0) (p.getD (n - 1) 0)=true then .ret (n,p) else kas_descPart n nrem (kas_rev p 0 n)):=rfl
   rw [e]
   cases q:Af κ (p.getD 0 0) (p.getD (n - 1) 0) with
   | true=>exact ⟨n,p,rfl,fV _,by exact ZX ‹_›,b,a⟩
   | false=>
    rw [qz (by simp)]
    have he:∀ i,i < n->Ky κ p i=Ky κ p (n - 1):=λi hi=>by
     have e1:O.kle (Ky κ p (n - 1)) (Ky κ p 0):=Bc q
     exact jD.kle_antisymm (a i (n - 1) (by omega) (by omega)) (bV e1 (a 0 i (by exact aQ _ _) hi))
    have iY:=Ek (κ:=κ) (p:=p) (i:=0) (j:=n) (by omega) (λk _ hk=>he k hk)
    obtain ⟨m,p2,b1,b2,b3,b4,b5⟩:=D8 (κ:=κ) (n:=n) (nrem:=nrem) (p:=kas_rev p 0 n) b (by assumption) (by rw [mr];omega) (λi hi=>by rw [iY,iY];exact he i hi) (by rw [iY,iY];exact hd)
    exact ⟨m,p2,b1,b2.trans (BL _ _ _),b3,b4,b5⟩
  ·rename_i h2
   have:n=1:=by omega
   subst this
   exact D8 (κ:=κ) (Ze _) (by assumption) hz (λi hi=>by congr 1;omega) hd
theorem El{p:Array Nat}{k:Nat}(h:Av κ p k):∀ (f l r:Nat),r - l<=f->l<=r->r<=k->(∀ i,i < l->O.kle (Ky κ p i) (Ky κ p k))->(∀ i,r<=i->i < k->O.kle (Ky κ p k) (Ky κ p i))->
  ∃ m,ev (Af κ) (kas_place p k f l r)=m/\m<=k/\(∀ i,i < m->O.kle (Ky κ p i) (Ky κ p k))/\∀ i,m<=i->i < k->O.kle (Ky κ p k) (Ky κ p i)
 | 0,l,r,hf,hlr,hr,h1,h2=>⟨l,rfl,by exact Zo ‹_› ‹_›,h1,λi a b=>h2 i (by omega) b⟩
 | f+1,l,r,hf,hlr,hr,h1,h2=>by
  unfold kas_place
  by_cases hge:l≥r
  ·rw [jn hge];exact ⟨l,rfl,by exact Zo ‹_› ‹_›,h1,λi a b=>h2 i (by exact Zo ‹_› ‹_›) b⟩
  ·rw [qz hge]
   have e:ev (Af κ) (.ask (p.getD k 0) (p.getD ((l+r) / 2) 0) λc=>if c=true then kas_place p k f l ((l+r) / 2) else kas_place p k f ((l+r) / 2+1) r)=ev (Af κ) (if Af κ (p.getD k 0) (p.getD ((l+r) / 2) 0)=true then kas_place p k f l ((l+r) / 2) else kas_place p k f ((l+r) / 2+1) r):=rfl
   rw [e]
   cases q:Af κ (p.getD k 0) (p.getD ((l+r) / 2) 0) with
   | true=>
    rw [jn rfl]
    exact El h f l ((l+r) / 2) (by omega) (by omega) (by omega) h1 λi a b=>bV (mm q) (h _ _ a b)
   | false=>
    rw [qz (by simp)]
    exact El h f ((l+r) / 2+1) r (by omega) (by omega) hr (λi a=>bV (h i ((l+r) / 2) (by exact bJ ‹_›) (by omega)) (Bc q)) h2
theorem OY:∀ (f:Nat) (p:Array Nat) (k:Nat),k+f=p.size->Av κ p k->∃ p',ev (Af κ) (kas_bin f p k)=p'/\p'.Perm p/\Av κ p' p.size
 | 0,p,k,hk,h=>by
  have:k=p.size:=by omega
  subst this
  exact ⟨p,rfl,fV _,h⟩
 | f+1,p,k,hk,h=>by
  obtain ⟨l,e,hl,a1,a2⟩:=El (κ:=κ) h k 0 k (by exact Ze _) (by exact aQ _ _) (Ze _) (λi hi=>absurd hi (cE _)) (λi x y=>absurd y (by exact Nat.not_lt_of_le ‹_›))
  unfold kas_bin
  rw [Bb,e]
  have hb:=λj=>GI (κ:=κ) (p:=p) (src:=k) (d:=k - l) (by omega) (by omega) j
  have hr:Av κ (bubble p k (k - l)) (k+1):=λi j hij hj=>by
   rw [hb i,hb j]
   have e1:k - (k - l)=l:=by omega
   rw [e1]
   by_cases hi:i=l
   ·rw [jn hi]
    by_cases hj':j=l
    ·rw [jn hj'];exact eN _
    ·rw [qz hj',jn (by omega)]
     exact a2 (j - 1) (by omega) (by omega)
   ·rw [qz hi]
    by_cases hj':j=l
    ·rw [jn hj',qz (by omega)]
     exact a1 i (by omega)
    ·rw [qz hj']
     by_cases hi2:l < i/\i<=k
     ·rw [jn hi2,jn (by omega)]
      exact h _ _ (by omega) (by omega)
     ·rw [qz hi2]
      by_cases hj2:l < j/\j<=k
      ·rw [jn hj2];exact h _ _ (by omega) (by omega)
      ·rw [qz hj2];exact h _ _ hij (by omega)
  obtain ⟨p',b1,b2,b3⟩:=OY f (bubble p k (k - l)) (k+1) (by rw [bubble_size];omega) hr
  rw [bubble_size] at b3
  exact ⟨p',b1,b2.trans (bubble_perm _ _ _),b3⟩
theorem Sl{n:Nat}(hn:1<=n):∃ p,ev (Af κ) (kas_sort n)=p/\p.Perm (aN (ZR n))/\Av κ p n:=by
 have hz:(aN (ZR n)).size=n:=by simp
 obtain ⟨m,p,e,h1,h2,h3,h4⟩:=Os (κ:=κ) (nrem:=n) (p:=aN (ZR n)) hn (by omega)
 have hp:p.size=n:=h1.size_eq.trans hz
 unfold kas_sort
 rw [Bb,e]
 dsimp only
 by_cases hm:m < n
 ·rw [jn hm]
  have e1:max m 1=m:=by omega
  rw [e1]
  obtain ⟨p',b1,b2,b3⟩:=OY (κ:=κ) (n - m) p m (by omega) h4
  exact ⟨p',b1,b2.trans h1,by rw [<- hp];exact b3⟩
 ·rw [qz hm]
  have:m=n:=by omega
  subst this
  exact ⟨p,rfl,h1,h4⟩
end
noncomputable def Kh{α:Type}(P:Nat->Prop)(R:α->Prop):KasT α->Prop
 | .ret a=>R a
 | .ask i j k=>P i/\P j/\∀ b,Kh P R (k b)
theorem se{α β:Type}{P:Nat->Prop}{R:α->Prop}{S:β->Prop}{f:α->KasT β}(hf:∀ a,R a->Kh P S (f a)):∀ t:KasT α,Kh P R t->Kh P S (t.bind f)
 | .ret a,h=>hf a h
 | .ask i j k,h=>⟨h.1,h.2.1,λb=>se hf (k b) (h.2.2 b)⟩
noncomputable def Qw:jD:={α:=Nat,blt:=λa b=>decide (a < b),irrefl:=λa=>by simp,trans:=λa b c h1 h2=>by simp at *;omega,negTrans:=λa b c h=>by simp at *;omega,total:=λa b h1 h2=>by simp at *;exact Nat.le_antisymm ‹_› ‹_›}
noncomputable def dh(n:Nat)(p:Array Nat):Prop:=∀ k,p.getD k 0 < n
theorem Bg{n:Nat}{p:Array Nat}{i j:Nat}(hj:j<=p.size)(h:dh n p):dh n (kas_rev p i j):=λk=>by
 have e:=Hw (O:=Qw) (κ:=λx=>x) (p:=p) (i:=i) hj k
 have e:(kas_rev p i j).getD k 0=if i<=k/\k < j then p.getD (i+j - 1 - k) 0 else p.getD k 0:=e
 rw [e]
 split<;>exact h _
theorem HX{n:Nat}{p:Array Nat}{src d:Nat}(hs:src < p.size)(hd:d<=src)(h:dh n p):dh n (bubble p src d):=λk=>by
 have e:=GI (O:=Qw) (κ:=λx=>x) (p:=p) hs hd k
 have e:(bubble p src d).getD k 0=if k=src - d then p.getD src 0 else if src - d < k/\k<=src then p.getD (k - 1) 0 else p.getD k 0:=e
 rw [e]
 by_cases c1:k=src - d
 ·rw [jn c1];exact h src
 ·rw [qz c1]
  by_cases c2:src - d < k/\k<=src
  ·rw [jn c2];exact h _
  ·rw [qz c2];exact h _
theorem HV{N:Nat}(p:Array Nat)(h:dh N p):∀ (f n:Nat),Kh (· < N) (λm=>n<=m/\m<=n+f) (kas_asc p f n)
 | 0,n=>⟨Ze _,Ze _⟩
 | f+1,n=>⟨h _,h _,λb=>by
  cases b with
  | true=>exact ⟨Ze _,by exact eG _ _⟩
  | false=>
   have:=run_mono (HV p h f (n+1)) (λm (hm:n+1<=m/\m<=n+1+f)=>show n<=m/\m<=n+(f+1) by omega)
   exact this⟩
where
 run_mono {α:Type} {P:Nat->Prop} {R S:α->Prop} {t:KasT α} (ht:Kh P R t) (hs:∀ a,R a->S a):Kh P S t:=by
  induction t with
  | ret a=>exact hs a ht
  | ask i j k ih=>exact ⟨ht.1,ht.2.1,λb=>ih b (ht.2.2 b)⟩
theorem Cn{N M:Nat}:∀ (f:Nat) (p:Array Nat) (n q:Nat),n+f<=M->p.size=M->q+1<=n->dh N p->Kh (· < N) (λr=>r.1.size=M/\dh N r.1/\r.2.2+1<=r.2.1/\r.2.1<=M) (kas_desc f p n q)
 | 0,p,n,q,h1,h2,h3,h=>⟨h2,h,h3,by show n<=M;omega⟩
 | f+1,p,n,q,h1,h2,h3,h=>⟨h _,h _,λb=>by
  cases b with
  | true=>
   show Kh _ _ (if q > 0 then kas_desc f (kas_rev p (n - (q+1)) n) (n+1) 0 else kas_desc f p (n+1) 0)
   split
   ·exact Cn f _ (n+1) 0 (by omega) (by rw [mr];exact h2) (by exact aQ _ _) (Bg (by omega) h)
   ·exact Cn f p (n+1) 0 (by omega) h2 (by exact aQ _ _) h
  | false=>
   refine ⟨h _,h _,λd=>?_⟩
   cases d with
   | true=>exact ⟨h2,h,h3,by show n<=M;exact Zq ‹_›⟩
   | false=>exact Cn f p (n+1) (q+1) (by omega) h2 (by exact fM ‹_›) h⟩
theorem G1{N M:Nat}{n nrem:Nat}{p:Array Nat}(hn:n<=nrem)(hz:nrem<=M)(hp:p.size=M)(h:dh N p):Kh (· < N) (λr=>r.2.size=M/\dh N r.2/\r.1<=nrem) (kas_tail3 n nrem p):=by
 unfold kas_tail3
 have hr:=Bg (n:=N) (p:=p) (i:=0) (j:=n) (by omega) h
 refine se (R:=λm=>n<=m/\m<=n+(nrem - n)) (λm hm=>?_) _ (HV _ hr _ _)
 exact ⟨(mr _ _ _).trans hp,hr,show m<=nrem by omega⟩
theorem Cs{N M:Nat}{n nrem:Nat}{p:Array Nat}(h1:1<=n)(hn:n+1<=nrem)(hz:nrem<=M)(hp:p.size=M)(h:dh N p)(hM:nrem=M):Kh (· < N) (λr=>r.2.size=M/\dh N r.2/\r.1<=nrem) (kas_descPart n nrem p):=by
 unfold kas_descPart
 refine se (R:=λr=>r.1.size=M/\dh N r.1/\r.2.2+1<=r.2.1/\r.2.1<=M) (λr hr=>?_) _ (Cn _ p (n+1) 0 (by omega) hp (by exact aQ _ _) h)
 split
 ·exact G1 (by omega) hz (by rw [mr];exact hr.1) (Bg (by omega) hr.2.1)
 ·exact G1 (by omega) hz hr.1 hr.2.1
theorem MU{N n:Nat}{p:Array Nat}(h1:1<=n)(hp:p.size=n)(h:dh N p):Kh (· < N) (λr=>r.2.size=n/\dh N r.2/\r.1<=n) (kas_count n p):=by
 unfold kas_count
 refine se (R:=λm=>1<=m/\m<=1+(n - 1)) (λm hm=>?_) _ (HV p h _ _)
 split
 ·exact ⟨hp,h,by show m<=n;omega⟩
 ·rename_i hne
  have hlt:m < n:=by
   have:m≠n:=λz=>hne (by simp [z])
   omega
  split
  ·refine ⟨h _,h _,λb=>?_⟩
   cases b with
   | true=>exact ⟨hp,h,by show m<=n;exact ZX ‹_›⟩
   | false=>exact Cs (by exact ZX ‹_›) (by assumption) (Ze _) (by rw [mr];exact hp) (Bg (by omega) h) rfl
  ·exact Cs (by omega) (by assumption) (Ze _) hp h rfl
theorem CV{N:Nat}(p:Array Nat)(k:Nat)(h:dh N p):∀ (f l r:Nat),l<=k->r<=k->Kh (· < N) (λm=>m<=k) (kas_place p k f l r)
 | 0,l,r,h1,h2=>h1
 | f+1,l,r,h1,h2=>by
  unfold kas_place
  split
  ·exact h1
  ·refine ⟨h _,h _,λb=>?_⟩
   cases b with
   | true=>exact CV p k h f l ((l+r) / 2) h1 (by omega)
   | false=>exact CV p k h f ((l+r) / 2+1) r (by omega) h2
theorem Mo{N:Nat}:∀ (f:Nat) (p:Array Nat) (k:Nat),k+f=p.size->dh N p->Kh (· < N) (λ_=>True) (kas_bin f p k)
 | 0,p,k,_,_=>trivial
 | f+1,p,k,hk,h=>by
  unfold kas_bin
  exact se (R:=λm=>m<=k) (λm hm=>Mo f _ (k+1) (by rw [bubble_size];omega) (HX (by omega) (by omega) h)) _ (CV p k h k 0 k (aY _) (Ze _))
theorem Qa{n:Nat}(hn:1<=n):Kh (· < n) (λ_=>True) (kas_sort n):=by
 have hp:(aN (ZR n)).size=n:=by simp
 have hl:dh n (aN (ZR n)):=λk=>by
  rw [eX]
  by_cases hk:k < n
  ·simp [hk]
  ·simp [hk];assumption
 unfold kas_sort
 refine se (R:=λr=>r.2.size=n/\dh n r.2/\r.1<=n) (λr hr=>?_) _ (MU hn hp hl)
 split
 ·exact Mo _ _ _ (by omega) hr.2.1
 ·trivial
theorem Q2{α:Type}{lt:Nat->Nat->Bool}{cmp:Nat->Nat->(Bool->Zd->Prop)->Zd->Prop}{n:Nat}{s:Zd}{G:α->Zd->Prop}(hc:∀ i j,i < n->j < n->∀ C:Bool->Zd->Prop,C (lt i j) s->cmp i j C s):
  ∀ t:KasT α,Kh (· < n) (λ_=>True) t->G (ev lt t) s->t.kasWp cmp G s
 | .ret a,_,h=>h
 | .ask i j k,r,h=>hc i j r.1 r.2.1 _ (Q2 hc (k (lt i j)) (r.2.2 _) h)
end KT
namespace KT
open PySem
noncomputable def Ku{α:Type}(lt:α->α->Bool)(x:α):List α->List α
 | []=>[x]
 | y::ys=>if lt y x=true then y::Ku lt x ys else x::y::ys
noncomputable def jw{α:Type}(lt:α->α->Bool):List α->List α
 | []=>[]
 | x::xs=>Ku lt x (jw lt xs)
noncomputable def BF(a b:Int):Bool:=decide (a < b)
noncomputable def qu(r:List Int):YX:=.tuple (r.map .int)
noncomputable def B9:List YX->Option (List (List Int))
 | []=>YW []
 | .tuple xs::r=>(match cg xs,B9 r with
  | some a,YW b=>YW (a::b)
  | _,_=>YY)
 | _::_=>YY
noncomputable def Dz(xs:List YX):Option YX:=if xs.length < 64 then (match cg xs with
 | some ns=>YW (.list ((jw BF ns).map .int))
 | none=>(match B9 xs with
  | some rs=>YW (.list ((jw ao rs).map qu))
  | none=>YY)) else YY
noncomputable def Ce:YX->Option YX
 | .list xs=>Dz xs
 | .tuple xs=>Dz xs
 | _=>YY
noncomputable def fe:FE->FE:=e1 Ce true
theorem OU:∀ ns:List Int,lfs (ns.map .int)=true
 | []=>rfl
 | n::ns=>by simp [lfs,lf,OU ns]
theorem Ym(r:List Int):lf (qu r)=true:=by simp [qu,lf,OU]
theorem HS:∀ rs:List (List Int),lfs (rs.map qu)=true
 | []=>rfl
 | r::rs=>by simp [lfs,Ym,HS rs]
theorem td:∀ ns:List Int,cg (ns.map .int)=YW ns
 | []=>rfl
 | n::ns=>by simp [cg,td ns]
theorem Fw:∀ rs:List (List Int),B9 (rs.map qu)=YW rs
 | []=>rfl
 | r::rs=>by
  show (match cg (r.map .int),B9 (rs.map qu) with
   | some a,YW b=>YW (a::b)
   | _,_=>YY)=_
  rw [td,Fw rs]
theorem Ll{ns:List Int}(h:ns.length < 64):Dz (ns.map .int)=YW (.list ((jw BF ns).map .int)):=by
 unfold Dz
 rw [jn (by simpa using h),td]
theorem KC{rs:List (List Int)}(h:rs.length < 64):Dz (rs.map qu)=YW (.list ((jw ao rs).map qu)):=by
 unfold Dz
 rw [jn (by simpa using h)]
 cases rs with
 | nil=>rfl
 | cons r rs=>rw [show cg ((r::rs).map qu)=YY from rfl,Fw]
noncomputable def Ub:YX->Bool
 | .int _=>true
 | _=>false
noncomputable def CQ:YX->Bool
 | .tuple ds=>KN.kD (.tuple ds) && decide ((jB ds).depth<=8)
 | _=>false
noncomputable def Bp(ks:List YX)(x:YX):Bool:=(Ub x && ks.all Ub) || (CQ x && ks.all CQ)
noncomputable def Bn(ks:List YX)(x:YX):Bool:=ks.any λk=>Zm k x
noncomputable def Ow(neg:Bool)(f:FE)(i:Nat):FE:=λρ=>zm (f ρ) λ_ x=>match ρ[i]? with
 | some (YW (.dct ks))=>if Bp ks x=true then YW (.ok 2 (.bool (if neg then !(Bn ks x) else Bn ks x))) else YY
 | _=>YY
noncomputable def IT(i:Nat):FE:=λρ=>match ρ[i]? with
 | some (YW (.dct ks))=>YW (.ok 2 (.int ks.length))
 | _=>YY
noncomputable def LG(i:Nat):FS:=λρ=>YW (.next (ρ.set i (YW (.dct []))))
noncomputable def I9(i:Nat)(f:FE):FS:=λρ=>match ρ[i]? with
 | some (YW (.dct ks))=>zk (f ρ) ρ λ_ x=>if (Bp ks x && !(Bn ks x) && decide (ks.length < big))=true then YW (.next (ρ.set i (YW (.dct (ks++[x]))))) else YY
 | _=>YY
abbrev FL:=List YX->Option (Option Nat×List YX)
noncomputable def jv(i:Nat)(f:FE):FS:=λρ=>match ρ[i]? with
 | some (YW (.lent xs))=>zk (f ρ) ρ λ_ d=>if (lf d && decide (xs.length < big))=true then YW (.next (ρ.set i (YW (.lent (xs++[d]))))) else YY
 | _=>YY
mutual
noncomputable def ltD:YX->YX->Option Bool
 | .int i,.int j=>YW (decide (i < j))
 | .str x,.str y=>YW (decide (x.cps.toList < y.cps.toList))
 | .tuple xs,.tuple ys=>ltDs xs ys
 | _,_=>YY
noncomputable def ltDs:List YX->List YX->Option Bool
 | [],[]=>YW false
 | [],_::_=>YW true
 | _::_,[]=>YW false
 | x::xs,y::ys=>if Zm x y=true then ltDs xs ys else ltD x y
end
noncomputable def Jx(x y:YX):Option YX:=if (x.canLay0 && y.canLay0 && decide (x.depth<=60))=true then (ltD x y).map .bool else YY
noncomputable def P8:FE->FE->FE:=e2 Jx true
inductive Arg where
 | f (e:FE)
 | n (j:Nat)
 | x (j k:Nat)
noncomputable def uc:Option (Option Slot)->Option YX
 | some (YW (.par d))=>YW d
 | some (YW (.loc d))=>YW d
 | some (YW (.own ds))=>YW (.list ds)
 | _=>YY
noncomputable def o3(i:Nat)(ρ:f9):Arg->Option YX
 | .f e=>(match e ρ with
  | some (.ok _ d)=>if lf d=true then YW d else YY
  | _=>YY)
 | .n j=>if j=i then YY else uc ρ[j]?
 | .x j k=>if j=i then YY else (match uc ρ[j]? with
  | some (.list ds)=>ds[k]?
  | _=>YY)
noncomputable def uo(i:Nat)(ρ:f9):List Arg->Option (List YX)
 | []=>YW []
 | a::as=>match o3 i ρ a,uo i ρ as with
  | some d,YW ds=>YW (d::ds)
  | _,_=>YY
noncomputable def CW:Option Slot->Option Slot
 | some (.own ds)=>YW (.loc (.list ds))
 | some (.own2 ds)=>YW (.loc (.list ds))
 | some (.par d)=>YW (.par d)
 | some (.loc d)=>YW (.loc d)
 | some (.ex c)=>YW (.ex c)
 | _=>YY
noncomputable def nk(ρ:f9)(i:Nat):Option (List YX):=match (ρ[i]?:Option (Option Slot)) with
 | some (YW (.own ds))=>YW ds
 | some (YW (.lent ds))=>YW ds
 | _=>YY
noncomputable def BI(ρ:f9)(i:Nat)(ds:List YX):Option Slot:=match (ρ[i]?:Option (Option Slot)) with
 | some (YW (.own _))=>YW (.own ds)
 | some (YW (.lent _))=>YW (.lent ds)
 | _=>YY
noncomputable def oz(ρ:f9)(i:Nat)(ds:List YX):f9:=(ρ.map CW).set i (BI ρ i ds)
abbrev FR:=List YX->List YX->Option (YX×List YX)
noncomputable def um(g:FR)(as:List Arg)(i:Nat)(ρ:f9):Option (YX×List YX):=match uo i ρ as,nk ρ i with
 | some ds,YW rs=>g ds rs
 | _,_=>YY
noncomputable def kg(j:Nat)(g:FR)(as:List Arg)(i:Nat):FS:=λρ=>match um g as i ρ with
 | some (d,rs)=>if j=i then YY else YW (.next ((oz ρ i rs).set j (YW (.par d))))
 | none=>YY
noncomputable def AG(g:FR)(as:List Arg)(i:Nat):FS:=λρ=>match um g as i ρ with
 | some (_,rs)=>YW (.next (oz ρ i rs))
 | none=>YY
noncomputable def ng(ρ:f9)(i:Nat):Bool:=match (ρ[i]?:Option (Option Slot)) with
 | some (YW (.lent _))=>true
 | _=>false
noncomputable def ir(g:FR)(as:List Arg)(i:Nat):FS:=λρ=>match um g as i ρ with
 | some (d,rs)=>if ng ρ i=true then YW (.retL d rs) else YY
 | none=>YY
noncomputable def H9(g:FR)(as:List Arg)(i:Nat):FS:=λρ=>match um g as i ρ with
 | some (.list xs,rs)=>if (ng ρ i && lfs xs)=true then YW (.retL (.tuple xs) rs) else YY
 | _=>YY
noncomputable def ua(i:Nat)(f:FE):FS:=λρ=>match (ρ[i]?:Option (Option Slot)) with
 | some (YW (.lent rs))=>zk (f ρ) ρ λl d=>if (lf d || decide (2<=l))=true then YW (.retL d rs) else YY
 | _=>YY
noncomputable def Ao(i j:Nat):FS:=λρ=>match (ρ[i]?:Option (Option Slot)) with
 | some (YW (.lent rs))=>(match (if j=i then YY else uc ρ[j]?) with
  | some d=>YW (.retL d rs)
  | none=>YY)
 | _=>YY
noncomputable def Gf(i j k:Nat):FS:=λρ=>match (ρ[i]?:Option (Option Slot)) with
 | some (YW (.lent rs))=>(match (if j=i then YY else uc ρ[j]?),(if k=i then YY else uc ρ[k]?) with
  | some d,YW e=>YW (.retL (.list [d,e]) rs)
  | _,_=>YY)
 | _=>YY
noncomputable def jk(n:Nat)(b:FS):FR:=λargs ds=>match b (args.map (λd=>YW (.par d))++YW (.lent ds)::Z1 (n - args.length - 1) YY) with
 | some (.retL d ds')=>YW (d,ds')
 | _=>YY
noncomputable def BN(j i:Nat):FS:=λρ=>match ρ[i]? with
 | some (YW (.own ds))=>if i=j then YY else YW (.next ((ρ.set i YY).set j (YW (.own ds))))
 | _=>YY
noncomputable def BW(i j:Nat):FS:=λρ=>match ρ[i]? with
 | some (YW (.own xs))=>(match ρ[j]? with
  | some (YW (.own (y::ys)))=>if i≠j/\xs.length < big/\lf y=true then YW (.next ((ρ.set j (YW (.own ys))).set i (YW (.own (xs++[y]))))) else YY
  | _=>YY)
 | _=>YY
noncomputable def J9:YX->YX->Option YX
 | .tuple xs,.int k=>if (lfs xs && decide (xs.length * k.toNat<=big) && decide (k.natAbs<=big) && decide (0 < xs.length))=true then YW (.tuple (Z1 k.toNat xs).flatten) else YY
 | _,_=>YY
noncomputable def BY:FE->FE->FE:=e2 J9 true
end KT
namespace KT
open PySem PySem.W PyProof.Rows
section
variable{O:jD}
theorem CS(x:O.α):∀ l:List O.α,(Ku O.blt x l).Perm (x::l)
 | []=>.refl _
 | y::ys=>by
  unfold Ku
  split
  ·exact ((CS x ys).cons y).trans (.swap x y ys)
  ·exact .refl _
theorem ed:∀ l:List O.α,(jw O.blt l).Perm l
 | []=>.refl _
 | x::xs=>(CS x _).trans ((ed xs).cons x)
theorem FZ(x:O.α):∀ l:List O.α,l.Pairwise O.kle->(Ku O.blt x l).Pairwise O.kle
 | [],_=>by unfold Ku;exact .cons (λ_ h=>by cases h) .nil
 | y::ys,h=>by
  unfold Ku
  cases h with
  | cons h1 h2=>
   split
   ·rename_i c
    refine .cons (λz hz=>?_) (FZ x ys h2)
    rcases ZP.mp ((CS x ys).mem_iff.mp hz) with rfl | hz
    ·exact mm c
    ·exact h1 z hz
   ·rename_i c
    have hxy:O.kle x y:=by
     cases e:O.blt y x with
     | true=>exact absurd e c
     | false=>exact e
    refine .cons (λz hz=>?_) (.cons h1 h2)
    rcases ZP.mp hz with rfl | hz
    ·exact hxy
    ·exact bV hxy (h1 z hz)
theorem su:∀ l:List O.α,(jw O.blt l).Pairwise O.kle
 | []=>.nil
 | x::xs=>FZ x _ (su xs)
theorem mx{l ks:List O.α}(hp:l.Perm ks)(hs:l.Pairwise O.kle):l=jw O.blt ks:=
 List.Perm.eq_of_pairwise (λa b _ _ h1 h2=>O.total a b h2 h1) hs (su ks) (hp.trans (ed ks).symm)
theorem GL{ks:List O.α}{d:O.α}{p:Array Nat}(hp:p.Perm (aN (ZR ks.length)))(hr:Av (λi=>ks.getD i d) p ks.length):p.toList.map (λi=>ks.getD i d)=jw O.blt ks:=by
 have hl:p.toList.Perm (ZR ks.length):=by simpa using Array.perm_iff_toList_perm.mp hp
 refine mx ?_ ?_
 ·have e:(ZR ks.length).map (λi=>ks.getD i d)=ks:=by
    apply List.ext_getElem (by simp)
    intro i h1 h2
    simp [h2]
  exact (hl.map _).trans (by rw [e])
 ·rw [List.pairwise_iff_getElem]
  intro i j hi hj hij
  have hz:p.size=ks.length:=by simpa using hl.length_eq
  have hi':i < p.size:=by simpa using hi
  have hj':j < p.size:=by simpa using hj
  have:=hr i j (ZX hij) (by omega)
  unfold Ky at this
  simpa [Array.getD,hi',hj'] using this
end
section
variable{prog:Z8}{w:ZN}{A:aC}{E:YZ->Zd->Prop}{s:Zd}
noncomputable def But(a:Zh)(h h':ZM):Prop:=∀ b o,b≠a->h.get? b=YW o->h'.get? b=YW o
theorem Mp{a:Zh}{h:ZM}{f:bX->bX}:But a h (h.update a f):=λb o hb e=>by rw [ZM.get?_update_ne _ _ _ _ hb];exact e
theorem MA{a:Zh}{h h':ZM}{o:bX}(k:But a h h'):But a h (h'.push o):=λb x hb e=>Zk _ (k b x hb e)
theorem But.trans{a:Zh}{h h' h2:ZM}(k:But a h h')(k2:But a h' h2):But a h h2:=λb o hb e=>k2 b o hb (k b o hb e)
noncomputable def Yk(prog:Z8)(w:ZN)(A:aC)(s:Zd)(a:Zh)(vs:List YZ)(kd:gL)(lt:Nat->Nat->Bool):Prop:=
 (∀ h',But a s.heap h'->∀ Q:gL->Zd->Prop,Q kd {s with heap:=h'}->Z0 (ZD prog w) A (keyKind' vs.toArray) Q (λ_ _=>False) {s with heap:=h'})/\
 ∀ h',But a s.heap h'->∀ i j,i < vs.length->j < vs.length->∀ C:Bool->Zd->Prop,C (lt i j) {s with heap:=h'}->kas_ask prog w A kd vs i j C {s with heap:=h'}
theorem Ng{O:jD}{κ:Nat->O.α}{kd:gL}{a:Zh}{vs:List YZ}{n:Nat}{P:PySem.Fin->Zd->Prop}(ho:s.heap.get? a=YW (fP "list" vs.toArray n))(h64:vs.length < 64)
  (q:2<=vs.length->Yk prog w A s a vs kd (Af κ))
  (h:∀ (p:Array Nat) h' c,p.Perm (aN (ZR vs.length))->Av κ p vs.length->But a s.heap h'->h'.get? a=YW (fP "list" (aN (p.toList.map λi=>vs.getD i ZI)) c)->P (.done (.ret .none)) {s with heap:=h'}):
  Z0 (ZD prog w) A (aT.«list.sort» ⟨[.ref a],[]⟩) P E s:=by
 have big:(64:Nat) < Zx:=by rw [sizeLine_eq];decide
 obtain ⟨e1,ho1⟩:∃ c,(s.heap.update a (iQ λ_=>(#[]:Array YZ))).get? a=YW (fP "list" #[] c):=⟨_,get?_update_seq ho λ_=>#[]⟩
 let h6:ZM:=((s.heap.update a (iQ λ_=>(#[]:Array YZ))).push (fP "tuple" vs.toArray 0)).push (fP "list" #[] 0)
 have k6:But a s.heap h6:=MA (MA Mp)
 have ho6:h6.get? a=YW (fP "list" #[] e1):=Zk _ (Zk _ ho1)
 have fin:∀ (p:Array Nat),p.Perm (aN (ZR vs.length))->Av κ p vs.length->∀ (st:SortSt),(arrOf st).map (·.2)=aN (p.toList.map λi=>vs.getD i ZI)->failedOf st=YY->
   Z0 (ZD prog w) A (do
    let sorted:=(arrOf st).map (·.2)
    let touched:=(<- seqEpoch a) != e1
    aT.List.listUpdate (.ref a) λ_=>sorted
    if let YW e:=failedOf st then rule "list.sort.comparison-raised";throw e
    if touched then rule "list.sort.modified";raiseError "ValueError" "list modified during sort"
    ret .none) P E {s with heap:=h6}:=by
  intro p hp hr st hst hf
  dsimp only
  have hz:(aN (p.toList.map λi=>vs.getD i ZI)).size=vs.length:=by
   have:=hp.size_eq
   simpa using this
  rw [hst,hf]
  refine Zc (seqEpoch_at ho6 rfl (Zc (listUpdate_at ho6 rfl ?_ (aY _) (by omega))))
  simp only [bne_self_eq_false,Z4,if_false]
  exact Zr (h p _ _ hp hr (k6.trans Mp) (get?_update_seq ho6 _))
 rw [list_sort_plain]
 refine Zc (listItems_at ho rfl (Zc (listUpdate_at ho rfl ?_ (by rw [Zl];omega) (aY _))))
 refine Zc (seqEpoch_at ho1 rfl (Zc (wpAny_newTuple ?_ (by show vs.length<=_;omega))))
 refine Zc (wpAny_newList (dU ?_) (aY _))
 show Z0 (ZD prog w) A _ P E {s with heap:=h6}
 dsimp only
 by_cases h2:vs.toArray.size < 2
 ·rw [jn h2,jn h2]
  refine Zc (Zr ?_)
  rw [StateT.run_pure]
  refine Zc (Zr (fin (aN (ZR vs.length)) (.refl _) (λi j h1 h3=>?_) _ ?_ rfl))
  ·have:i=j:=by rw [Zl] at h2;omega
   subst this
   exact eN _
  ·match vs,h2 with
   | [],_=>show Array.map (λx:YZ×YZ=>x.snd) ((#[]:Array YZ).zip #[])=_;simp
   | [v],_=>show Array.map (λx:YZ×YZ=>x.snd) (#[v].zip #[v])=_;simp
   | _::_::_,h2=>exact absurd h2 (by simp)
 ·have h2':2<=vs.length:=by rw [Zl] at h2;exact gR ‹_›
  rw [qz h2,qz h2]
  obtain ⟨q1,q2⟩:=q h2'
  refine Zc (fB (q1 h6 k6 (λk s'=>k=kd/\s'= {s with heap:=h6}) ⟨rfl,rfl⟩) ?_ λ_ _ x=>x.elim)
  rintro k s' ⟨rfl,rfl⟩
  obtain ⟨p,ep,hp,hr⟩:=Sl (κ:=κ) (n:=vs.length) (by exact ZX ‹_›)
  have run:=Q2 (s:={s with heap:=h6}) (G:=λp' s'=>p'=p/\s'= {s with heap:=h6}) (q2 h6 k6) (kas_sort vs.length) (Qa (by exact ZX ‹_›)) ⟨ep,rfl⟩
  refine Zc (fB (kat_run (Q:=λst s'=>s'= {s with heap:=h6}/\arrOf st=p.map (kas_item (vs.toArray.zip vs.toArray))/\failedOf st=YY) rfl h2' h64 (λp' st s' _ a2 a3 a4=>?_) run) ?_ λ_ _ e=>e)
  ·obtain ⟨rfl,rfl⟩:=a4
   exact ⟨rfl,a2,a3⟩
  ·rintro ⟨⟨⟩,st⟩ s' ⟨rfl,har,hf⟩
   exact fin p hp hr st (kat_snds rfl har) hf
end
section
variable{prog:Z8}{w:ZN}{A:aC}{E:YZ->Zd->Prop}{s:Zd}
noncomputable def UK(h h':ZM):Prop:=∀ b o,h.get? b=YW o->h'.get? b=YW o
theorem Iw{l:Zh}{vs:List YZ}{o:bX}{n:Nat}{Q:List YZ->Zd->Prop}(ho:s.heap.get? l=YW o)(hc:o.cls= .type "list"∨o.cls= .type "tuple")(hd:o.data= .seq vs.toArray n)(hz:vs.length < 64)
  (h:∀ h',UK s.heap h'->h'.objs.size=s.heap.objs.size+1->Q vs {s with heap:=h'}):Z0 (ZD prog w) A (collect (.ref l)) Q E s:=by
 have big:(64:Nat) < Zx:=by rw [sizeLine_eq];decide
 have hn:(s.heap.push (fP "list" #[] 0)).get? s.heap.objs.size=YW (fP "list" #[] 0):=ZK _ rfl
 have ho':(s.heap.push (fP "list" #[] 0)).get? l=YW o:=Zk _ ho
 unfold collect
 refine Zc (wpAny_runValue (codeAny_builtin entry_proto_collect' ?_))
 show Z0 _ _ (newList [] >>= λx=>again (.builtin "list.__iadd__" ⟨[x,.ref l],[]⟩)) _ _ s
 refine Zc (wpAny_newList (Zr ⟨Code.quiet_builtin _ (by decide +kernel),codeAny_builtin entry_list_iadd' ?_⟩) (aY _))
 show Z0 _ _ (aT.List.listExtendWith (.ref s.heap.objs.size) (.ref l) (.ref s.heap.objs.size)) _ _ {s with heap:=s.heap.push (fP "list" #[] 0)}
 have hk:UK s.heap ((s.heap.push (fP "list" #[] 0)).update s.heap.objs.size (iQ (·++vs.toArray))):=λb x e=>by
  rw [ZM.get?_update_ne _ _ _ _ (aE (Z7 e))];exact Zk _ e
 unfold aT.List.listExtendWith
 obtain ⟨T,hT,hb⟩:∃ T:String,o.cls= .type T/\((bK T == bK "list") || (bK T == bK "tuple"))=true:=by
  rcases hc with hc | hc
  ·exact ⟨_,hc,by decide⟩
  ·exact ⟨_,hc,by decide⟩
 refine Zc (wpAny_typeOf (T:=T) ⟨o,ho',hT⟩ ?_)
 rw [jn (by rw [Bool.or_assoc,hb];simp)]
 refine Zc (listItems_at ho' hd (Zc (listItems_at hn rfl ?_)))
 rw [qz (by simp)]
 refine Zc (listUpdate_at hn rfl ?_ (aY _) (by simp;omega))
 refine Zr ?_
 refine Zc (wpAny_load (get?_update_seq hn _) ?_)
 show Z0 _ _ (pure ((#[]:Array YZ)++vs.toArray).toList) Q E _
 rw [show ((#[]:Array YZ)++vs.toArray).toList=vs by simp]
 exact Zr (h _ hk (by rw [ZM.size_update,iT]))
theorem Ez{O:jD}{κ:Nat->O.α}{kd:gL}{l:Zh}{vs:List YZ}{o:bX}{n:Nat}{Q:YZ->Zd->Prop}(ho:s.heap.get? l=YW o)(hc:o.cls= .type "list"∨o.cls= .type "tuple")(hd:o.data= .seq vs.toArray n)(h64:vs.length < 64)
  (q:2<=vs.length->∀ h',UK s.heap h'->(∀ Q:gL->Zd->Prop,Q kd {s with heap:=h'}->Z0 (ZD prog w) A.in1.in1 (keyKind' vs.toArray) Q (λ_ _=>False) {s with heap:=h'})/\
    ∀ i j,i < vs.length->j < vs.length->∀ C:Bool->Zd->Prop,C (Af κ i j) {s with heap:=h'}->Z0 (ZD prog w) A.in1.in1 (keyLt' kd (vs.getD i ZI) (vs.getD j ZI)) C (λ_ _=>False) {s with heap:=h'})
  (h:∀ (p:Array Nat) D h' c,p.Perm (aN (ZR vs.length))->Av κ p vs.length->UK s.heap h'->s.heap.objs.size<=D->h'.get? D=YW (fP "list" (aN (p.toList.map λi=>vs.getD i ZI)) c)->Q (.ref D) {s with heap:=h'}):
  Z0 (ZD prog w) A (call (.builtin "sorted") [.ref l]) Q E s:=by
 have big:(64:Nat) < Zx:=by rw [sizeLine_eq];decide
 refine Calls.call_function_entry kind_sorted plain_sorted entry_sorted (args_sorted1 _) ?_
 unfold aT.«sorted»
 refine Zc (m:=checkCount "sorted" 1 1 _) (Zr ?_)
 refine Zc (Iw ho hc hd h64 λh1 k1 z1=>?_)
 refine Zc (wpAny_newList ?_ (by omega))
 have hD:(h1.push (fP "list" vs.toArray 0)).get? h1.objs.size=YW (fP "list" vs.toArray 0):=ZK _ rfl
 have hlt:s.heap.objs.size<=h1.objs.size:=by omega
 have up:∀ h',But h1.objs.size (h1.push (fP "list" vs.toArray 0)) h'->UK s.heap h':=λh' k b x e=>
  k b x (aE (Zt (Z7 e) hlt)) (Zk _ (k1 b x e))
 refine Zc (dU (cL slot_list_sort ⟨_,hD,rfl⟩ entry_list_sort ?body (args_list_sort _)))
 case body=>
  refine Ng (s:={s with heap:=h1.push (fP "list" vs.toArray 0)}) (κ:=κ) (kd:=kd) hD h64 (λh2=>⟨λh' k=>(q h2 h' (up h' k)).1,λh' k=>(q h2 h' (up h' k)).2⟩) λp h' c a1 a2 a3 a4=>?_
  exact ⟨_,rfl,Zr ⟨_,rfl,h p _ h' c a1 a2 (up h' a3) hlt a4⟩⟩
noncomputable def intOrd:jD where
 α:=Int
 blt:=λa b=>decide (a < b)
 irrefl:=λa=>by simp
 trans:=λa b c h1 h2=>by simp at *;omega
 negTrans:=λa b c h=>by simp at *;omega
 total:=λa b h1 h2=>by simp at *;omega
theorem Bt:∀ a:List Int,HT.lexLt a a=false
 | []=>rfl
 | x::xs=>by rw [HT.lexLt_cons,jn rfl];exact Bt xs
theorem Dn:∀ a b c:List Int,HT.lexLt a b=true->HT.lexLt b c=true->HT.lexLt a c=true
 | [],[],[],h1,_=>by cases h1
 | [],_::_,[],_,h2=>by cases h2
 | [],_,_::_,_,_=>rfl
 | x::xs,[],_,h1,_=>by cases h1
 | x::xs,y::ys,[],_,h2=>by cases h2
 | x::xs,y::ys,z::zs,h1,h2=>by
  rw [HT.lexLt_cons] at *
  by_cases e1:x=y
  ·rw [jn e1] at h1
   by_cases e2:y=z
   ·rw [jn e2] at h2;rw [jn (e1.trans e2)];exact Dn xs ys zs h1 h2
   ·rw [qz e2] at h2;rw [qz (by rw [e1];exact e2),e1];exact h2
  ·rw [qz e1] at h1
   have l1:=of_decide_eq_true h1
   by_cases e2:y=z
   ·rw [qz (by rw [<- e2];exact e1),<- e2];exact h1
   ·rw [qz e2] at h2
    have l2:=of_decide_eq_true h2
    rw [qz (by omega)];exact decide_eq_true (by omega)
theorem M8:∀ a b c:List Int,HT.lexLt a c=true->HT.lexLt a b=true∨HT.lexLt b c=true
 | [],[],_,h=>.inr h
 | [],_::_,_,_=>.inl rfl
 | x::xs,_,[],h=>by cases h
 | x::xs,[],z::zs,_=>.inr rfl
 | x::xs,y::ys,z::zs,h=>by
  rw [HT.lexLt_cons] at *
  by_cases e:x=z
  ·rw [jn e] at h
   by_cases e1:x=y
   ·rw [jn e1,HT.lexLt_cons,jn (e1.symm.trans e)];exact M8 xs ys zs h
   ·rw [qz e1,HT.lexLt_cons,qz (by rw [<- e];exact λq=>e1 q.symm)]
    by_cases l:x < y
    ·exact .inl (decide_eq_true l)
    ·exact .inr (decide_eq_true (by omega))
  ·rw [qz e] at h
   have l:=of_decide_eq_true h
   by_cases e1:x=y
   ·right;rw [HT.lexLt_cons,qz (by rw [<- e1];exact e)];exact decide_eq_true (by omega)
   ·rw [qz e1]
    by_cases l1:x < y
    ·exact .inl (decide_eq_true l1)
    ·right;rw [HT.lexLt_cons,qz (by omega)];exact decide_eq_true (by omega)
theorem GD:∀ a b:List Int,HT.lexLt a b=false->HT.lexLt b a=false->a=b
 | [],[],_,_=>rfl
 | [],_::_,h,_=>by cases h
 | _::_,[],_,h=>by cases h
 | x::xs,y::ys,h1,h2=>by
  rw [HT.lexLt_cons] at *
  by_cases e:x=y
  ·rw [jn e] at h1;rw [jn e.symm] at h2;rw [e,GD xs ys h1 h2]
  ·rw [qz e] at h1;rw [qz (λq=>e q.symm)] at h2
   have l1:=of_decide_eq_false h1
   have l2:=of_decide_eq_false h2
   omega
noncomputable def rowOrd:jD:={α:=List Int,blt:=HT.lexLt,irrefl:=Bt,trans:=Dn,negTrans:=M8,total:=GD}
theorem MS{vs:List YZ}{ns:List Int}(h:dM vs ns){i:Nat}(hi:i < vs.length):∃ t,vs.getD i ZI= .int (ns.getD i 0) t:=by
 induction h generalizing i with
 | nil=>simp at hi
 | cons n t _ ih=>
  cases i with
  | zero=>exact ⟨t,rfl⟩
  | succ i=>exact ih (by simpa using hi)
theorem NS{vs:List YZ}{ns:List Int}(hI:dM vs ns)(h2:2<=vs.length):
  (∀ Q:gL->Zd->Prop,Q oneType' s->Z0 (ZD prog w) A (keyKind' vs.toArray) Q (λ_ _=>False) s)/\
    ∀ i j,i < vs.length->j < vs.length->∀ C:Bool->Zd->Prop,C (Af (O:=intOrd) (λk=>ns.getD k 0) i j) s->Z0 (ZD prog w) A (keyLt' oneType' (vs.getD i ZI) (vs.getD j ZI)) C (λ_ _=>False) s:=by
 refine ⟨λQ hq=>?_,λi j hi hj C hC=>?_⟩
 ·match vs,hI,h2 with
  | v₁::v₂::rest,hI,_=>rw [keyKind_ints hI];exact Zr hq
  | [_],_,h2=>exact absurd h2 (by simp)
  | [],_,h2=>exact absurd h2 (by simp)
 ·obtain ⟨t,e⟩:=MS hI hi
  obtain ⟨u,e'⟩:=MS hI hj
  rw [e,e']
  exact kat_lt_int hC
end
noncomputable def RowsAre(h:ZM):List YZ->List (List Int)->Prop
 | [],[]=>True
 | v::vs,r::rs=>(∃ (a:Zh) (o:bX) (xs:Array YZ) (n:Nat),v= .ref a/\h.get? a=YW o/\o.cls= .type "tuple"/\o.data= .seq xs n/\dM xs.toList r)/\RowsAre h vs rs
 | _,_=>False
theorem RowsAre.length{h:ZM}:∀ {vs:List YZ} {rs:List (List Int)},RowsAre h vs rs->vs.length=rs.length
 | [],[],_=>rfl
 | [],_::_,h=>h.elim
 | _::_,[],h=>h.elim
 | _::vs,_::rs,h=>by simp [h.2.length]
theorem RowsAre.ext{h h':ZM}(k:UK h h'):∀ {vs:List YZ} {rs:List (List Int)},RowsAre h vs rs->RowsAre h' vs rs
 | [],[],_=>trivial
 | [],_::_,h=>h.elim
 | _::_,[],h=>h.elim
 | _::vs,_::rs,⟨⟨a,o,xs,n,e,ho,r⟩,t⟩=>⟨⟨a,o,xs,n,e,k _ _ ho,r⟩,t.ext k⟩
theorem RowsAre.at_{h:ZM}:∀ {vs:List YZ} {rs:List (List Int)} {i:Nat},RowsAre h vs rs->i < vs.length->
  ∃ (a:Zh) (o:bX) (xs:Array YZ) (n:Nat),vs.getD i ZI= .ref a/\h.get? a=YW o/\o.cls= .type "tuple"/\o.data= .seq xs n/\dM xs.toList (rs.getD i [])
 | [],[],_,_,hi=>by simp at hi
 | [],_::_,_,h,_=>h.elim
 | _::_,[],_,h,_=>h.elim
 | _::vs,_::rs,0,h,_=>h.1
 | _::vs,_::rs,i+1,h,hi=>by
  have:=RowsAre.at_ (i:=i) h.2 (by simpa using hi)
  simpa using this
section
variable{M:Model}{prog:Z8}{w:ZN}{A:aC}{E:YZ->Zd->Prop}{s:Zd}
theorem D1:∀ {vs:List YZ} {rs:List (List Int)},RowsAre s.heap vs rs->
  ∃ fs:List (Option YZ),fs.map eA=rs.map (λr=>!r.isEmpty)/\(rs.all (λr=>!r.isEmpty)=true->∃ gs,fs=gs.map YW/\KatTups s.heap vs gs/\∀ g∈gs,∃ n t,g= .int n t)/\∀ Q:List (Option YZ)->Zd->Prop,Q fs s->Z0 M A (vs.mapM firstOfTuple') Q E s
 | [],[],_=>⟨[],rfl,λ_=>⟨[],rfl,trivial,λ_ h=>by cases h⟩,λQ h=>by rw [List.mapM_nil];exact Zr h⟩
 | [],_::_,h=>h.elim
 | _::_,[],h=>h.elim
 | v::vs,r::rs,⟨⟨a,o,xs,n,e,ho,hc,hd,hi⟩,t⟩=>by
  subst e
  obtain ⟨fs,f1,f2,f3⟩:=D1 t
  refine ⟨xs[0]?::fs,?_,λhall=>?_,λQ h=>?_⟩
  ·have:xs[0]?.isSome= !r.isEmpty:=by
     rw [<- bS]
     generalize xs.toList=xl at hi
     cases hi<;>rfl
   simp [this,f1]
  ·simp only [List.all_cons,Zn] at hall
   obtain ⟨gs,g1,g2,g3⟩:=f2 hall.2
   rw [<- bS]
   have h0:∃ m u,xs[0]? =YW (.int m u):=by
    rw [<- bS]
    generalize xs.toList=xl at hi
    cases hi with
    | nil=>simp at hall
    | cons m u _=>exact ⟨m,u,rfl⟩
   obtain ⟨m,u,e0⟩:=h0
   refine ⟨.int m u::gs,?_,KatTups.cons ho hc hd e0 g2,λg hg=>?_⟩
   ·rw [bS,e0,g1];rfl
   ·rcases ZP.mp hg with rfl | hg
    ·exact ⟨m,u,rfl⟩
    ·exact g3 g hg
  ·rw [List.mapM_cons]
   refine Zc ?_
   rw [kas_first_eq]
   refine Zc (Looks.here ((Looks.ld ho).andThen .now:Looks M s.heap (typeOf (.ref a)) o.cls) ?_)
   rw [hc,qz (by decide)]
   refine Zc (listItems_at ho hd (Zr ?_))
   exact Zc (f3 (λbs s'=>Z0 M A (pure (xs[0]?::bs)) Q E s') (Zr h))
theorem EY:∀ {vs:List YZ} {rs:List (List Int)},RowsAre s.heap vs rs->∀ v∈vs,Looks M s.heap (typeOf v) (.type "tuple")
 | [],_,_,v,hv=>by cases hv
 | _::_,[],h,_,_=>h.elim
 | v::vs,r::rs,⟨⟨a,o,xs,n,e,ho,hc,hd,hi⟩,t⟩,u,hu=>by
  rcases ZP.mp hu with rfl | hu
  ·subst e
   rw [<- hc]
   exact (Looks.ld ho).andThen .now
  ·exact EY t u hu
noncomputable def Jg(rs:List (List Int)):gL:=if rs.all (λr=>!r.isEmpty)=true then tuples' true else if (rs.map (λr=>!r.isEmpty)).head? =YW true then general' else oneType'
theorem ND{vs:List YZ}{rs:List (List Int)}(R:RowsAre s.heap vs rs)(h2:2<=vs.length){Q:gL->Zd->Prop}(h:Q (Jg rs) s):Z0 M A (keyKind' vs.toArray) Q E s:=by
 unfold Jg at h
 obtain ⟨fs,f1,f2,f3⟩:=D1 (E:=E) (A:=A) (M:=M) R
 by_cases hall:rs.all (λr=>!r.isEmpty)=true
 ·rw [jn hall] at h
  obtain ⟨gs,g1,g2,g3⟩:=f2 hall
  have hl:gs.length=vs.length:=by
   have:=congrArg eJ f1
   rw [g1] at this
   simp at this
   rw [R.length];exact this
  refine kat_kind (T:=.type "int") g2 (by omega) (λv hv=>?_) rfl h
  obtain ⟨n,t,rfl⟩:=g3 v hv
  exact Looks.of_pure rfl
 ·rw [qz hall] at h
  rw [kat_kind_eq,List.mapM_toArray,map_eq_pure_bind];refine Zc (Zc (f3 _ (Zr ?_)))
  have hn:¬ (fs.toArray.all (·.isSome)=true):=by
   intro q
   apply hall
   have e:fs.all eA=rs.all (λr=>!r.isEmpty):=by
    have:=congrArg (λl=>l.all id) f1
    simpa [List.all_map] using this
   rw [<- e]
   simpa using q
  rw [qz hn]
  have hh:((fs.toArray)[0]?.bind id).isSome=((rs.map (λr=>!r.isEmpty)).head? == YW true):=by
   rw [<- f1]
   cases fs with
   | nil=>rfl
   | cons x xs=>cases x<;>rfl
  by_cases hf:(rs.map (λr=>!r.isEmpty)).head? =YW true
  ·rw [jn hf] at h
   rw [jn (by rw [hh,hf];rfl)]
   exact Zr h
  ·rw [qz hf] at h
   rw [qz (by rw [hh];intro q;exact hf (by simpa using q))]
   rw [oneTypeOnly'_eq,List.mapM_toArray,map_eq_pure_bind]
   refine Zc (Zc (Zc (kas_mapM (r:=.type "tuple") _ (λv hv Q' hq=>(EY R v hv).here hq) (Zr ?_))))
   have hall2:((List.map (λ_=>bK "tuple") vs).toArray.all λx=>x == bK "tuple")=true:=by
    simp only [List.all_toArray,List.all_map,gT];exact λ_ _=>rfl
   have h0:(List.map (λ_=>bK "tuple") vs).toArray[0]? =YW (bK "tuple"):=by
    cases vs with
    | nil=>simp at h2
    | cons v r=>simp
   rw [h0]
   simp only [hall2,if_true];exact Zr (Zr h)
theorem Iz{b:Bool}{Q:Bool->Zd->Prop}:∀ {xs ys:List YZ} {ns ms:List Int} {i:Nat} {fin:Bool},dM xs ns->dM ys ms->fin=decide (ns.length < ms.length)->Q (HT.lexLt ns ms) s->KatLex prog w A b fin Q (xs.zip ys) i s
 | _,_,_,_,_,_,.nil,.nil,hf,h=>by subst hf;exact kat_nil h
 | _,_,_,_,_,_,.nil,.cons _ _ _,hf,h=>by subst hf;exact kat_nil (by simpa [HT.lexLt_nil_cons] using h)
 | _,_,_,_,_,_,.cons _ _ _,.nil,hf,h=>by subst hf;exact kat_nil (by simpa [HT.lexLt_cons_nil] using h)
 | _,_,_,_,i,_,.cons n t hx,.cons m u hy,hf,h=>by
  rw [bT]
  rw [HT.lexLt_cons] at h
  refine kat_cons (wpAny_eqBool_int ?_)
  by_cases e:n=m
  ·rw [jn e] at h
   rw [show (n == m)=true by simpa using e]
   exact kat_yes (Iz hx hy (by rw [hf];simp) h)
  ·rw [qz e] at h
   rw [show (n == m)=false by simpa using e]
   refine kat_no ?_
   cases hb:(b && i == 0) with
   | true=>exact oneLt_int h
   | false=>exact kat_one _ _ (lt_int h)
theorem Sh{vs:List YZ}{rs:List (List Int)}(R:RowsAre s.heap vs rs)(kd:gL)(hk:kd=tuples' true∨kd=general'∨kd=oneType')(hu:A.units < eD){i j:Nat}(hi:i < vs.length)(hj:j < vs.length){Q:Bool->Zd->Prop}
  (h:Q (HT.lexLt (rs.getD i []) (rs.getD j [])) s):Z0 (ZD prog w) A (keyLt' kd (vs.getD i ZI) (vs.getD j ZI)) Q E s:=by
 obtain ⟨a,o,xs,n,ea,ho,hc,hd,ia⟩:=R.at_ hi
 obtain ⟨b,o2,ys,n2,eb,ho2,hc2,hd2,ib⟩:=R.at_ hj
 rw [ea,eb]
 rcases hk with rfl | rfl | rfl
 ·exact kat_lt ho hd ho2 hd2 (Iz ia ib (by rw [<- ia.length,<- ib.length];simp) h)
 ·refine kat_one _ _ (HT.lt_tupInts ⟨o,ho,hc,n,hd⟩ ⟨o2,ho2,hc2,n2,hd2⟩ ia ib hu ?_)
  exact h
 ·rw [keyLt'_oneType,oneLt'_eq]
  simp only [if_true]
  refine Zc (wpAny_cRoomFor hu ?_)
  obtain ⟨cls,dd,data,sl⟩:=o
  obtain ⟨cls2,dd2,data2,sl2⟩:=o2
  simp only at hc hd hc2 hd2
  subst hc hd hc2 hd2
  refine Zc (wpAny_callSpecialIfBound?_slot (T:="tuple") ⟨_,ho,rfl⟩ eQ (cQ eQ ⟨_,ho,rfl⟩ gH (fY _ _) (HT.tuple_lt_ints a b xs ys n n2 dd dd2 sl sl2 _ _ ia ib) ⟨ho,ho2,?_⟩))
  exact dJ h
theorem Qv(rs:List (List Int)):Jg rs=tuples' true∨Jg rs=general'∨Jg rs=oneType':=by
 unfold Jg
 split
 ·exact .inl rfl
 ·split
  ·exact .inr (.inl rfl)
  ·exact .inr (.inr rfl)
theorem NB{vs:List YZ}{rs:List (List Int)}(R:RowsAre s.heap vs rs)(h2:2<=vs.length)(hu:A.units < eD):
  (∀ Q:gL->Zd->Prop,Q (Jg rs) s->Z0 (ZD prog w) A (keyKind' vs.toArray) Q (λ_ _=>False) s)/\
    ∀ i j,i < vs.length->j < vs.length->∀ C:Bool->Zd->Prop,C (Af (O:=rowOrd) (λk=>rs.getD k []) i j) s->Z0 (ZD prog w) A (keyLt' (Jg rs) (vs.getD i ZI) (vs.getD j ZI)) C (λ_ _=>False) s:=
 ⟨λQ hq=>ND R h2 hq,λi j hi hj C hC=>Sh R _ (Qv rs) hu hi hj hC⟩
end
end KT
namespace KT
open PySem PySem.Spec PyProof.Rows L2
noncomputable def M7(K:Zb)(H:Hp):List V->List (List Int)->Prop
 | [],[]=>True
 | v::vs,r::rs=>(∃ a,v= .ref a/\Di K H a (r.map V.int))/\M7 K H vs rs
 | _,_=>False
noncomputable def Qe(K:Zb):List V->Hp->VK->Prop:=λxs H Q=>∃ t vs,xs=[.ref t]/\(Di K H t vs∨SqL K H t vs)/\vs.length < 64/\
 ((∃ ns:List Int,vs=ns.map V.int/\∀ (is:List Nat) l,(∀ i∈is,i < vs.length)->is.map (λi=>ns.getD i 0)=jw BF ns->H l=YY->Q (.ref l) (upd H l (.lst (is.map λi=>vs.getD i .non))))∨
  (∃ rs:List (List Int),M7 K H vs rs/\∀ (is:List Nat) l,(∀ i∈is,i < vs.length)->is.map (λi=>rs.getD i [])=jw ao rs->H l=YY->Q (.ref l) (upd H l (.lst (is.map λi=>vs.getD i .non)))))
theorem Mm:∀ {vs:List V} {us:List YZ},Vals vs us->∀ {i:Nat},i < vs.length->RelV (vs.getD i .non) (us.getD i ZI)
 | _,_,.nil,i,h=>by simp at h
 | _,_,.cons r t,0,_=>r
 | _,_,.cons r t,i+1,h=>Mm t (i:=i) (by simpa using h)
theorem G6{vs:List V}{us:List YZ}(r:Vals vs us):∀ (is:List Nat),(∀ i∈is,i < vs.length)->Vals (is.map λi=>vs.getD i .non) (is.map λi=>us.getD i ZI)
 | [],_=>.nil
 | i::is,h=>.cons (Mm r (h i (Zz ..))) (G6 r is λj hj=>h j (Z5 _ hj))
section
variable{X:Cx}
theorem Mf{lh:List (Zh×bX)}{s:Zd}{σ:L2.St}{H:Hp}(I:Inv X lh σ H s):∀ {vs:List V} {us:List YZ} {rs:List (List Int)},Vals vs us->M7 X.K H vs rs->RowsAre s.heap us rs
 | _,_,[],.nil,_=>trivial
 | _,_,_::_,.nil,h=>h.elim
 | _,_,[],.cons _ _,h=>h.elim
 | _,_,r::rs,.cons q t,⟨⟨a,e,h⟩,hs⟩=>by
  subst e
  cases q
  obtain ⟨its,rv,⟨o,ho,hc,n,hd⟩,_⟩:=I.tuple h
  exact ⟨⟨a,o,its.toArray,n,rfl,ho,hc,hd,EK rv⟩,Mf I t hs⟩
theorem JU(hu:X.A.units+64 < eD):CallR X (.builtin "sorted") (Qe X.K):=by
 intro lh s σ H xs us Q I hv h
 obtain ⟨t,vs,rfl,hq,hz,h⟩:=h
 cases hv with
 | cons r1 r2=>
 cases r2
 cases r1
 have u2:X.A.in1.in1.units < eD:=by show X.A.units+1+1 < eD;omega
 obtain ⟨its,rv,o,n,ho,hc,hd,hsz⟩:∃ its,Vals vs its/\∃ (o:bX) (n:Nat),s.heap.get? t=YW o/\(o.cls= .type "list"∨o.cls= .type "tuple")/\o.data= .seq its.toArray n/\vs.length<=Zx:=by
  rcases hq with hq | hq
  ·obtain ⟨its,rv,⟨o,ho,hc,n,hd⟩,hz⟩:=I.tuple hq
   exact ⟨its,rv,o,n,ho,.inr hc,hd,hz⟩
  ·obtain ⟨its,rv,pl,hz⟩:=I.list hq
   obtain ⟨o,ho,hc,n,hd⟩:=pl.isList
   exact ⟨its,rv,o,n,ho,.inl hc,hd,hz⟩
 have hl:=rv.length
 have z64:its.length < 64:=by omega
 have fin:∀ (is:List Nat) D h' c,(∀ i∈is,i < vs.length)->is.length=vs.length->UK s.heap h'->s.heap.objs.size<=D->h'.get? D=YW (fP "list" (aN (is.map λi=>its.getD i ZI)) c)->
   (∀ l,H l=YY->Q (.ref l) (upd H l (.lst (is.map λi=>vs.getD i .non))))->EP X lh σ Q (.ref D) {s with heap:=h'}:=λis D h' c h1 lq k hp hD q=>
  ⟨.ref D,_,I.laid (t':=s.toks) k hp (show ObjOk X.prog X.w _ h' D (.lst _) from ⟨by rw [Z9,lq];exact hsz,_,c,G6 rv is h1,hD⟩),rfl,q D (I.hok.fresh hp)⟩
 have inr:∀ {p:Array Nat},p.Perm (aN (ZR its.length))->(∀ i∈p.toList,i < vs.length)/\p.toList.length=vs.length:=λ{p} hp=>by
  have hl':p.toList.Perm (ZR its.length):=by simpa using Array.perm_iff_toList_perm.mp hp
  refine ⟨λi hi=>?_,?_⟩
  ·have:=gF.mp (hl'.mem_iff.mp hi)
   omega
  ·rw [hl'.length_eq,eW];exact hl.symm
 rcases h with ⟨ns,e,q⟩ | ⟨rs,R,q⟩
 ·subst e
  have iI:=EK rv
  have hn:its.length=ns.length:=iI.length
  refine Ez (O:=intOrd) (κ:=λk=>ns.getD k 0) ho hc hd z64 (λh2 h' k=>NS iI h2) λp D h' c hp hr k hD hg=>?_
  obtain ⟨i1,i2⟩:=inr hp
  rw [hn] at hp hr
  exact fin p.toList D h' c i1 i2 k hD hg λl hl'=>q _ l i1 (GL (O:=intOrd) (d:=(0:Int)) hp hr) hl'
 ·have RA:=Mf I rv R
  have hn:its.length=rs.length:=RA.length
  refine Ez (O:=rowOrd) (κ:=λk=>rs.getD k []) ho hc hd z64 (λh2 h' k=>NB (s:={s with heap:=h'}) (RA.ext k) h2 u2) λp D h' c hp hr k hD hg=>?_
  obtain ⟨i1,i2⟩:=inr hp
  rw [hn] at hp hr
  refine fin p.toList D h' c i1 i2 k hD hg λl hl'=>q _ l i1 ?_ hl'
  have e:=GL (O:=rowOrd) (d:=([]:List Int)) hp hr
  rw [show (ao:List Int->List Int->Bool)=HT.lexLt from funext λa=>funext λb=>Aa a b]
  exact e
theorem CL{P:PP}{H:Hp}{α:Type}{f:α->YX}{as:List α}{d:α}{vs:List V}(r:Reps P H (as.map f) vs):∀ (is:List Nat),(∀ i∈is,i < vs.length)->Reps P H ((is.map λi=>as.getD i d).map f) (is.map λi=>vs.getD i .non)
 | [],_=>rfl
 | i::is,h=>by
  have hi:=h i (Zz ..)
  have hl:=r.length
  rw [Z9] at hl
  have ha:i < as.length:=by omega
  obtain ⟨v,e,rv⟩:=Reps.get (i:=i) (d:=f (as.getD i d)) r (by simp [ha])
  refine ⟨v,_,?_,rv,CL r is λj hj=>h j (Z5 _ hj)⟩
  have:vs.getD i .non=v:=by rw [List.getD_eq_getElem?_getD,e];rfl
  rw [ZC,this]
theorem C8:∀ {ds:List YX} {ns:List Int},cg ds=YW ns->ds=ns.map .int
 | [],ns,e=>by cases e;rfl
 | .int i::r,ns,e=>by
  unfold cg at e
  cases hx:cg r with
  | none=>rw [hx] at e;cases e
  | some ms=>rw [hx] at e;cases e;rw [C8 hx];rfl
 | .none::_,_,e=>by cases e
 | .bool _::_,_,e=>by cases e
 | .str _::_,_,e=>by cases e
 | .tuple _::_,_,e=>by cases e
 | .list _::_,_,e=>by cases e
 | .dict _::_,_,e=>by cases e
theorem Gr:∀ {ds:List YX} {rs:List (List Int)},B9 ds=YW rs->ds=rs.map qu
 | [],rs,e=>by cases e;rfl
 | .tuple xs::r,rs,e=>by
  unfold B9 at e
  cases hx:cg xs with
  | none=>rw [hx] at e;cases e
  | some a=>
   cases hy:B9 r with
   | none=>rw [hx,hy] at e;cases e
   | some b=>
    rw [hx,hy] at e
    cases e
    rw [Gr hy,C8 hx];rfl
 | .int _::_,_,e=>by cases e
 | .none::_,_,e=>by cases e
 | .bool _::_,_,e=>by cases e
 | .str _::_,_,e=>by cases e
 | .list _::_,_,e=>by cases e
 | .dict _::_,_,e=>by cases e
theorem E4{K:Zb}{P:PP}{H:Hp}:∀ {rs:List (List Int)} {vs:List V},Reps P H (rs.map qu) vs->M7 K H vs rs
 | [],_,h=>by cases (show _=_ from h);trivial
 | r::rs,_,⟨v,t,e,h,q⟩=>by
  subst e
  obtain ⟨a,us,rfl,hp,hr⟩:=h
  have:us=r.map V.int:=A7 (td r) hr
  subst this
  exact ⟨⟨a,rfl,.inl hp⟩,E4 q⟩
theorem Hz{K:Zb}:MP (Qe K) Ce:=by
 intro H₀ Hs H l x d v Q s0 s1 e rx q
 have main:∀ xs t vs,Dz xs=YW d->v= .ref t->(Di K H t vs∨SqL K H t vs)->Reps (PL H₀ Hs l) H xs vs->Qe K [v] H Q:=λxs t vs e ev hq rs=>by
  subst ev
  unfold Dz at e
  split at e
  rotate_left
  ·cases e
  rename_i h64
  have hl:=rs.length
  refine ⟨t,vs,rfl,hq,by omega,?_⟩
  split at e
  ·rename_i ns hns
   cases e
   have ex:=C8 hns
   subst ex
   left
   refine ⟨ns,A7 hns rs,λis m h1 h2 hm=>q _ _ (qp hm _) ⟨m,_,rfl,.inl ⟨⟨rfl,s1.free hm⟩,qr⟩,?_⟩⟩
   rw [<- h2]
   exact ((CL (d:=(0:Int)) (rs.nl (OU ns)) is h1)).same (qp hm _)
  ·split at e
   ·rename_i rr hrr
    cases e
    have ex:=Gr hrr
    subst ex
    right
    refine ⟨rr,E4 rs,λis m h1 h2 hm=>q _ _ (qp hm _) ⟨m,_,rfl,.inl ⟨⟨rfl,s1.free hm⟩,qr⟩,?_⟩⟩
    rw [<- h2]
    exact ((CL (d:=([]:List Int)) (rs.nl (HS rr)) is h1)).same (qp hm _)
   ·cases e
 unfold Ce at e
 split at e
 ·obtain ⟨t,vs,rfl,hp,rs⟩:=rx
  exact main _ t vs e rfl (.inr (.inl hp.rd)) rs
 ·obtain ⟨t,vs,rfl,hp,rs⟩:=rx
  exact main _ t vs e rfl (.inl (.inl hp)) rs
 ·cases e
variable{XO:XOT}{a:ZY}{fa:FE}{pos p:eE}
theorem A6(C:BC X)(hm:X.mg "sorted" =YY)(ha:PE X a (tF XO fa))(hg:Gl X "sorted":=by rfl)(he:Zf [a] X.env=(false,bB a X.env)::Zf [] X.env:=by exact jf rfl)(hpl:(aF pos (Zf [] X.env)).any (·.1)=false:=by exact ym rfl):
  PE X (.Call (.Name "sorted" p) [a] [] pos) (tF XO (fe fa)):=
 Ml (JU C.hu) Hz hm boot_sorted ha hg (by decide) (by decide) he hpl
end
section
variable{X:Cx}{XO:F7}{cv:Cfg}{pos:eE}{H₀ F H:Hp}{ρ:f9}{σ:L2.St}
theorem SR.changeG{i:Nat}{t:Slot}{p:Zh}{o0 o1:OwV}{O:Fd}(g:SR cv H₀ F ρ σ H)(o:SO cv H₀ F ρ σ H O)(hρ:i < ρ.length)(hO:O p=YW i)(hp:H p=YW o0.ho)(ht:SS cv H₀ O σ[i]? i (upd H p o1.ho) t):
  SR cv H₀ F (ρ.set i (YW t)) σ (upd H p o1.ho):=by
 have hT:∀ a xs,Rd H a (.tup xs)->Rd (upd H p o1.ho) a (.tup xs):=λa xs e=>B5 hp e
 have hL:∀ {P:PP},(∀ z a,P z a->O a=YY)->∀ a ws,Rl P H a ws->Rl P (upd H p o1.ho) a ws:=λ{P} hP a ws rl=>by
  have hne:∀ z,P z a->a≠p:=λz q y=>by have:=hP z a q;rw [y,hO] at this;cases this
  rcases rl with ⟨q,e⟩ | ⟨q,u,e⟩
  ·exact .inl ⟨q,by rw [qb (hne _ q)];exact e⟩
  ·exact .inr ⟨q,u,by rw [qb (hne _ q)];exact e⟩
 refine ⟨g.s0,λb u e=>?_,by simp [g.len],g.ln,O,o.fr,λa j e=>?_,λj t' e=>?_⟩
 ·rw [qb]
  ·exact g.s1 b u e
  ·intro z;subst z;rw [o.fr b i hO] at e;cases e
 ·by_cases z:a=p
  ·subst z;exact ⟨o1,qr⟩
  ·rw [qb z];exact o.ls a j e
 ·by_cases hij:i=j
  ·subst hij
   rw [q9 _ _ _ _ hρ,jn rfl] at e
   cases e
   exact ht
  ·rw [q9 _ _ _ _ hρ,qz hij] at e
   have q:=o.sl j t' e
   cases t' with
   | par d=>obtain ⟨w,e1,rr⟩:=q;exact ⟨w,e1,Rep.mono hT (hL λ_ _ x=>x) d w rr⟩
   | loc d=>obtain ⟨w,e1,rr⟩:=q;exact ⟨w,e1,Rep.mono hT (hL λ_ _ x=>x.2.1) d w rr⟩
   | own ds=>
    obtain ⟨q1,ws,e1,hq,hqp,rs⟩:=q
    have hne:q1≠p:=λz=>by rw [z,hO] at hq;cases hq;exact hij rfl
    exact ⟨q1,ws,e1,hq,by rw [qb hne];exact hqp,Reps.mono hT (hL λ_ _ x=>x.elim) _ _ rs⟩
   | own2 ds=>
    obtain ⟨q1,ws,e1,hq,hqp,rs⟩:=q
    have hne:q1≠p:=λz=>by rw [z,hO] at hq;cases hq;exact hij rfl
    exact ⟨q1,ws,e1,hq,by rw [qb hne];exact hqp,Reps.mono hT (hL λ_ _ x=>x.2.1) _ _ rs⟩
   | lent ds=>
    obtain ⟨ws,e1,hq,hqp,rs⟩:=q
    have hne:cv.lend≠p:=λz=>by rw [z,hO] at hq;cases hq;exact hij rfl
    exact ⟨ws,e1,hq,by rw [qb hne];exact hqp,Reps.mono hT (hL λ_ _ x=>x.elim) _ _ rs⟩
   | dct ks=>
    obtain ⟨q1,e1,hq,hd⟩:=q
    have hne:q1≠p:=λz=>by rw [z,hO] at hq;cases hq;exact hij rfl
    exact ⟨q1,e1,hq,hd.upd hne⟩
   | ex c=>
    obtain ⟨w,e1,φ,hx,hφ⟩:=q
    have hne:w≠p:=λz=>by rw [z,hp] at hx;cases o0<;>cases hx
    exact ⟨w,e1,φ,by rw [qb hne];exact hx,hφ⟩
theorem SR.lentT{i:Nat}{ds:List YX}(g:SR cv H₀ F ρ σ H)(hi:ρ[i]? =YW (YW (.lent ds))):∃ O vs,SO cv H₀ F ρ σ H O/\σ[i]? =YW (YW (.ref cv.lend))/\O cv.lend=YW i/\H cv.lend=YW (.lst vs)/\Reps (λ_ _=>False) H ds vs:=by
 obtain ⟨O,o⟩:=g.ex
 obtain ⟨vs,e,q,h,r⟩:=o.sl i _ hi
 exact ⟨O,vs,o,e,q,h,r⟩
theorem SR.changeT{i:Nat}{ds ds':List YX}{vs vs':List V}{O:Fd}(g:SR cv H₀ F ρ σ H)(o:SO cv H₀ F ρ σ H O)(hi:ρ[i]? =YW (YW (.lent ds)))(hσ:σ[i]? =YW (YW (.ref cv.lend)))(hO:O cv.lend=YW i)(hp:H cv.lend=YW (.lst vs))(r:Reps (λ_ _=>False) H ds' vs'):
  SR cv H₀ F (ρ.set i (YW (.lent ds'))) σ (upd H cv.lend (.lst vs')):=
 g.changeG (o0:=.l vs) (o1:=.l vs') o (Zi.mp hi).1 hO hp ⟨vs',hσ,hO,qr,Reps.mono (λa xs e=>B5 (o0:=.l vs) hp e) (λa ws rl=>by rcases rl with ⟨q,_⟩ | ⟨q,_⟩<;>exact q.elim) _ _ r⟩
theorem vw(i:Nat){e:ZY}{f:FE}{x:Z3}{xp apos cpos:eE}(h:PE X e (tF ⟨cv.cv,XO⟩ f))(hN:X.N[i]? =YW x:=by rfl)(hv:DS X.env.scope x:=by first | exact ZZ rfl | exact ZE (ZZ rfl) | exact ZE (ZE rfl))
  (hd:(x == ("__debug__":Z3))=false:=by decide) (hcd:(x == ("__classdict__":Z3))=false:=by decide)
  (hbase:cI (.Name x xp) "append" X.env (bB (.Name x xp) X.env)=bB (.Name x xp) X.env:=by rfl)
  (hfew:((aF cpos (Zf [e] X.env)).all (λx=>!x.1) && (iX cpos (gB [] X.env)).all (λx=>x.1.isSome)
    && decide ([e].length+([]:List fL).length+(if ([]:List fL).isEmpty then 0 else 1) < 30))=true:=by rfl)
  (hline:(apos.endLine == cpos.line)=true:=by rfl) (hs1:Zf [e] X.env=(false,bB e X.env)::Zf [] X.env:=by rfl) (hplain:(aF cpos (Zf [] X.env)).any (·.1)=false:=by rfl)
  (hs:cB (.Call (.Attribute (.Name x xp) "append" apos) [e] [] cpos) YY pos.line X.env=pure false:=by rfl):
  PS X (.Expr (.Call (.Attribute (.Name x xp) "append" apos) [e] [] cpos) pos) (tS cv XO (jv i f)):=by
 intro lh s σ H D I ⟨H₀,F,ρ,r,g,e',k⟩
 refine Ab (GA aW dY dZ Be (vo (i:=i) hN hv hd hcd) (wy h xo hs1) hbase hfew hline hs1 hplain) hs lh s σ H D I ?_
 unfold jv at e'
 split at e'
 ·rename_i xs hρ
  obtain ⟨O,vs,o,hσ,hO,hp,rs⟩:=g.lentT hρ
  refine ⟨.ref cv.lend,hσ,.inl ⟨rfl,vs,SqL.of hp⟩,?_⟩
  refine bp g e' k λl d v H1 s1 r1 e1=>?_
  split at e1
  ·rename_i hc
   cases e1
   rw [Zn] at hc
   have lq:xs.length < big:=of_decide_eq_true hc.2
   refine ⟨cv.lend,vs,v,rfl,rfl,s1 _ _ hp,by rw [rs.length];exact Zt lq B1,?_⟩
   have o1:SO cv H₀ F ρ σ H1 O:=⟨o.fr,λa i e=>let ⟨vs,q⟩:=o.ls a i e;⟨vs,s1 _ _ q⟩,λi t e=>(o.sl i t e).same s1⟩
   exact k _ _ ((g.same s1).changeT o1 hρ hσ hO (s1 _ _ hp) ((rs.same s1).append (Reps.one (r1.nl hc.1))))
  ·cases e1
 ·cases e'
end
noncomputable def QC(H:Hp)(p:Zh):Hp:=λa=>if a=p then YY else H a
theorem O4(H:Hp)(p:Zh):Same (QC H p) H:=λb u e=>by
 unfold QC at e
 split at e
 ·cases e
 ·exact e
section
open PySem.SeqAt
open PySem.AutoSeq1 (wpAny_loadPart')
open PySem.MeetsSeq PySem.MeetsSeq2 PySem.MeetsSeq3
noncomputable def VO(A:aC)(s:Zd)(u v:YZ)(c:Bool):Prop:=∀ (prog:Z8) (w:ZN) (E:YZ->Zd->Prop) (Q:YZ->Zd->Prop),Q (.bool c) s->Z0 (ZD prog w) A (richCompare .Lt u v) Q E s
inductive LtRow (A:aC) (s:Zd):List YZ->List YZ->Bool->Prop
 | nn:LtRow A s [] [] false
 | nc {w:YZ} {ws:List YZ}:LtRow A s [] (w::ws) true
 | cn {v:YZ} {vs:List YZ}:LtRow A s (v::vs) [] false
 | eq {v w:YZ} {vs ws:List YZ} {c:Bool}:EqAt A s v w true->LtRow A s vs ws c->LtRow A s (v::vs) (w::ws) c
 | ne {v w:YZ} {vs ws:List YZ} {c:Bool}:EqAt A s v w false->VO A s v w c->LtRow A s (v::vs) (w::ws) c
theorem Hj(l b:Zh)(items items2:Array YZ)(n n2:Nat)(dd dd2:Option Zh)(sl sl2:Array (Option YZ))(c:Bool):
  Meets (aT.«tuple.__lt__» ⟨[.ref l,.ref b],[]⟩)
   (λA R s=>s.heap.get? l=YW {cls:=.type "tuple",dict:=dd,data:=.seq items n,slots:=sl}/\s.heap.get? b=YW {cls:=.type "tuple",dict:=dd2,data:=.seq items2 n2,slots:=sl2}/\
     LtRow A.in1 s items.toList items2.toList c/\R (.ok (.ret (.bool c))) s):=
 .of_wp λprog w A R s h=>by
  obtain ⟨hp,g,d,tk,os⟩:=s;obtain ⟨hl,hb,hr,h⟩:=h
  have f2:=fS
  wp_walk using ZT hl,ZT hb,wpAny_forIn_list _ (λrest b s'=>b.1=YY/\s'=⟨hp,g,d,tk,os⟩/\∃ (vs ws:List YZ),rest=vs.zip ws/\
   LtRow A.in1 ⟨hp,g,d,tk,os⟩ vs ws c/\vs.length+items2.size=ws.length+items.size) _
  case turn=>
   rintro ⟨y,x⟩ rest b s' ⟨hb',rfl,vs,ws,hz,hr',lq⟩
   cases hr' with
   | nn=>cases hz
   | nc=>rw [List.zip_nil_left] at hz;cases hz
   | cn=>rw [List.zip_nil_right] at hz;cases hz
   | eq he hr''=>
    rw [bT] at hz
    injection hz with hyx hrest
    injection hyx with hy hx
    subst hy hx
    simp only [Zj] at lq
    refine Zc (he prog w _ _ ?_)
    wp_walk
    exact ⟨rfl,rfl,_,_,hrest,hr'',by omega⟩
   | ne he hlt=>
    rw [bT] at hz
    injection hz with hyx hrest
    injection hyx with hy hx
    subst hy hx
    refine Zc (he prog w _ _ ?_)
    have hri:=hlt prog w
    wp_walk using hri
    exact ⟨_,rfl,by simpa using h⟩
  case fin=>
   rintro ⟨b1,b2⟩ s' ⟨hb',rfl,vs,ws,hz,hr',lq⟩
   simp only at hb'
   subst hb'
   have hv:c=decide (items.size < items2.size):=by
    cases hr' with
    | nn=>simp only [ZJ] at lq;exact (decide_eq_false (by omega)).symm
    | nc=>simp only [ZJ,Zj] at lq;exact (decide_eq_true (by omega)).symm
    | cn=>simp only [ZJ,Zj] at lq;exact (decide_eq_false (by omega)).symm
    | eq _ _=>rw [bT] at hz;cases hz
    | ne _ _=>rw [bT] at hz;cases hz
   rw [hv] at h
   wp_walk
   exact ⟨_,rfl,by simpa [aT.Tuple.tupleCompareSizes] using h⟩
  case h=>
   exact ⟨rfl,rfl,items.toList,items2.toList,rfl,hr,by simp;exact Nat.add_comm _ _⟩
mutual
theorem GH:∀ (d e:YX) (A:aC) (s:Zd) (u v:YZ) (as bs:List Zh) (c:Bool),Reads s.heap u d as->Reads s.heap v e bs->d.canLay0=true->e.canLay0=true->A.units+d.depth < eD->ltD d e=YW c->VO A s u v c
 | .int i,.int j,A,s,u,v,as,bs,c,ra,rb,_,_,_,h=>by
  cases ra;cases rb
  simp only [ltD,ZO] at h
  subst h
  exact λprog w E Q hq=>(PyProof.Rows.lt_int hq:Z0 (ZD prog w) A (aL .Lt _ _) Q E s)
 | .str x,.str y,A,s,u,v,as,bs,c,ra,rb,_,_,_,h=>by
  cases ra;cases rb
  simp only [ltD,ZO] at h
  subst h
  exact λprog w E Q hq=>(PySem.P.lt_str hq:Z0 (ZD prog w) A (aL .Lt _ _) Q E s)
 | .tuple xs,.tuple ys,A,s,u,v,as,bs,c,ra,rb,ca,cb,hu,h=>by
  simp only [ltD] at h
  cases ra with
  | @tuple a o1 its1 n1 ds1 as1 ho hc hd ha=>
   cases rb with
   | @tuple b o2 its2 n2 ds2 as2 ho2 hc2 hd2 hb=>
    simp only [ZA] at hu
    have row:=lt_rowsG xs ys A.in1 s _ _ _ _ c ha hb (by simpa [Zw] using ca) (by simpa [Zw] using cb) (by show A.units+1+_ < eD;omega) h
    intro prog w E Q hq
    obtain ⟨cls,dd,data,sl⟩:=o1
    obtain ⟨cls2,dd2,data2,sl2⟩:=o2
    simp only at hc hd hc2 hd2
    subst hc hd hc2 hd2
    exact richCompare_meets_room (op:=.Lt) ⟨_,ho,rfl⟩ ⟨_,ho2,rfl⟩ eQ gH (fY _ _) (Hj _ _ _ _ _ _ dd dd2 sl sl2 c)
     ⟨ho,ho2,row,show YZ.bool c≠iA/\Q (.bool c) s from ⟨(λx=>nomatch x),hq⟩⟩ (by omega)
 | .none,_,_,_,_,_,_,_,_,_,_,_,_,_,h=>by simp [ltD] at h
 | .bool _,_,_,_,_,_,_,_,_,_,_,_,_,_,h=>by simp [ltD] at h
 | .list _,_,_,_,_,_,_,_,_,_,_,_,_,_,h=>by simp [ltD] at h
 | .dict _,_,_,_,_,_,_,_,_,_,_,_,_,_,h=>by simp [ltD] at h
 | .int _,.none,_,_,_,_,_,_,_,_,_,_,_,_,h=>by simp [ltD] at h
 | .int _,.bool _,_,_,_,_,_,_,_,_,_,_,_,_,h=>by simp [ltD] at h
 | .int _,.str _,_,_,_,_,_,_,_,_,_,_,_,_,h=>by simp [ltD] at h
 | .int _,.tuple _,_,_,_,_,_,_,_,_,_,_,_,_,h=>by simp [ltD] at h
 | .int _,.list _,_,_,_,_,_,_,_,_,_,_,_,_,h=>by simp [ltD] at h
 | .int _,.dict _,_,_,_,_,_,_,_,_,_,_,_,_,h=>by simp [ltD] at h
 | .str _,.none,_,_,_,_,_,_,_,_,_,_,_,_,h=>by simp [ltD] at h
 | .str _,.bool _,_,_,_,_,_,_,_,_,_,_,_,_,h=>by simp [ltD] at h
 | .str _,.int _,_,_,_,_,_,_,_,_,_,_,_,_,h=>by simp [ltD] at h
 | .str _,.tuple _,_,_,_,_,_,_,_,_,_,_,_,_,h=>by simp [ltD] at h
 | .str _,.list _,_,_,_,_,_,_,_,_,_,_,_,_,h=>by simp [ltD] at h
 | .str _,.dict _,_,_,_,_,_,_,_,_,_,_,_,_,h=>by simp [ltD] at h
 | .tuple _,.none,_,_,_,_,_,_,_,_,_,_,_,_,h=>by simp [ltD] at h
 | .tuple _,.bool _,_,_,_,_,_,_,_,_,_,_,_,_,h=>by simp [ltD] at h
 | .tuple _,.int _,_,_,_,_,_,_,_,_,_,_,_,_,h=>by simp [ltD] at h
 | .tuple _,.str _,_,_,_,_,_,_,_,_,_,_,_,_,h=>by simp [ltD] at h
 | .tuple _,.list _,_,_,_,_,_,_,_,_,_,_,_,_,h=>by simp [ltD] at h
 | .tuple _,.dict _,_,_,_,_,_,_,_,_,_,_,_,_,h=>by simp [ltD] at h
theorem lt_rowsG:∀ (ds es:List YX) (A:aC) (s:Zd) (us vs:List YZ) (as bs:List Zh) (c:Bool),ReadsAll s.heap us ds as->ReadsAll s.heap vs es bs->Zg ds=true->Zg es=true->A.units+Zs ds < eD->ltDs ds es=YW c->LtRow A s us vs c
 | [],[],A,s,_,_,_,_,c,ra,rb,_,_,_,h=>by cases ra;cases rb;cases h;exact .nn
 | [],_::_,A,s,_,_,_,_,c,ra,rb,_,_,_,h=>by cases ra;cases rb;cases h;exact .nc
 | _::_,[],A,s,_,_,_,_,c,ra,rb,_,_,_,h=>by cases ra;cases rb;cases h;exact .cn
 | x::xs,y::ys,A,s,_,_,_,_,c,ra,rb,ca,cb,hu,h=>by
  have ca':x.canLay0=true/\Zg xs=true:=by simpa [Zg] using ca
  have cb':y.canLay0=true/\Zg ys=true:=by simpa [Zg] using cb
  have hm:Zs (x::xs)=max x.depth (Zs xs):=rfl
  rw [hm] at hu
  cases ra with
  | cons r1 r2=>
   cases rb with
   | cons q1 q2=>
    have he:=SeqAt.eqAt_reads x y A s _ _ _ _ r1 q1 ca'.1 cb'.1 (by omega)
    unfold ltDs at h
    by_cases hq:Zm x y=true
    ·rw [jn hq] at h
     rw [hq] at he
     exact .eq he (lt_rowsG xs ys A s _ _ _ _ c r2 q2 ca'.2 cb'.2 (by omega) h)
    ·rw [qz hq] at h
     rw [Bool.eq_false_iff.mpr hq] at he
     exact .ne he (GH x y A s _ _ _ _ c r1 q1 ca'.1 cb'.1 (by omega) h)
end
end
section
variable{X:Cx}{XO:XOT}{a b:ZY}{fa fb:FE}{pos:eE}
noncomputable def Xm:R2:=λx y H Q=>∃ (d e:YX) (P P':PP) (c:Bool),Rep P H d x/\Rep P' H e y/\d.canLay0=true/\e.canLay0=true/\d.depth<=60/\ltD d e=YW c/\Q (.bl c) H
theorem Uu(hu:X.A.units+64 < eD):OpR X (aL .Lt) Xm:=by
 intro lh s σ H x y v u Q I rx ry h
 obtain ⟨d,e,P,P',c,r1,r2,c1,c2,hd,hl,q⟩:=h
 obtain ⟨as,ra⟩:=xq I d x v c1 r1 rx
 obtain ⟨bs,rb⟩:=xq I e y u c2 r2 ry
 exact GH d e X.A s v u as bs c ra rb c1 c2 (by omega) hl X.prog X.w X.xe _ ⟨.bl c,H,I,rfl,q⟩
theorem UJ:Gc Xm Jx true:=by
 intro H₀ Hs H l m x y d v u Q s0 s1 e rx ry q
 unfold Jx at e
 split at e
 ·rename_i hc
  rw [Zn,Zn,decide_eq_true_eq] at hc
  cases hl:ltD x y with
  | none=>rw [hl] at e;cases e
  | some c=>
   rw [hl] at e
   cases e
   exact ⟨x,y,_,_,c,rx,ry,hc.1.1,hc.1.2,hc.2,hl,q _ H (Same.refl H) rfl⟩
 ·cases e
theorem T3(C:BC X)(ha:PE X a (tF XO fa))(hb:PE X b (tF XO fb)):PT X (.Compare a [.Lt] [b] pos) (ku (tF XO (P8 fa fb))):=Co (Uu C.hu) UJ ha hb (A3 _)
end
noncomputable def NZ(cv:Nat->YZ)(ar:Nat)(g:FR):Sp:=λvs H Q E=>∃ p xs avs ds args d ds',vs=avs++[.ref p]/\avs.length+1=ar/\H p=YW (.lst xs)/\Reps (λ_ _=>False) H ds xs/\Reps (λ_ a=>a≠p) H args avs/\g args ds=YW (d,ds')/\
 ∀ v H' xs',Same (QC H p) H'->H' p=YW (.lst xs')->Reps (λ_ _=>False) H' ds' xs'->Rep (λ_ a=>a≠p) H' d v->Q v H'
theorem Uc{cv:Nat->YZ}{N:List Z3}{p:Zh}{xs avs:List V}{ds args:List YX}{H:Hp}(hn:avs.length+1<=N.length)(hp:H p=YW (.lst xs))(r:Reps (λ_ _=>False) H ds xs)(ra:Reps (λ_ a=>a≠p) H args avs):
  SR ⟨cv,N.length,p⟩ (QC H p) (QC H p) (args.map (λd=>YW (.par d))++YW (.lent ds)::Z1 (N.length - args.length - 1) YY) (L2.i3 N (avs++[.ref p])) H:=by
 have hl:=ra.length
 refine ⟨Same.refl _,O4 H p,?_,?_,λa=>if a=p then YW args.length else YY,λa i e=>?_,λa i e=>?_,λi t e=>?_⟩
 ·simp;omega
 ·unfold L2.i3;simp;omega
 ·by_cases z:a=p
  ·unfold QC;rw [jn z]
  ·rw [qz z] at e;cases e
 ·by_cases z:a=p
  ·subst z;exact ⟨.l xs,hp⟩
  ·rw [qz z] at e;cases e
 ·rcases Nat.lt_trichotomy i args.length with hi | hi | hi
  ·rw [aM (by simpa using hi),ZG] at e
   cases hx:args[i]? with
   | none=>rw [hx] at e;cases e
   | some d=>
    rw [hx] at e
    cases e
    obtain ⟨v,hv,rv⟩:=ra.get hx
    refine ⟨v,?_,rv.imp λ_ a q=>qz q⟩
    unfold L2.i3
    rw [aM (by simp;omega),ZG,aM (by omega),hv]
    rfl
  ·subst hi
   rw [aK (by simp)] at e
   simp only [Z9,Nat.sub_self,ZU,ZO] at e
   cases e
   refine ⟨xs,?_,jn rfl,hp,r⟩
   unfold L2.i3
   rw [aM (by simp;omega),ZG,<- hl,aK (Ze _)]
   simp
  ·rw [aK (by simp;exact ZX ‹_›)] at e
   obtain ⟨j,hj⟩:∃ j,i - (args.map (λd=>YW (Slot.par d))).length=j+1:=⟨i - args.length - 1,by simp;omega⟩
   rw [hj,ZQ,fX] at e
   split at e<;>cases e
theorem n6{P:Z8}{w:ZN}{K:Zb}{mg:Z3->Option YZ}{base:ZM}{cv:Nat->YZ}{x qual:Z3}{st:aG}{f:Zh}{fd:fR}{N ps:List Z3}{k:Nat}{b:FS}(M:MF mg)(F:Fun K x qual st f fd)(S:FnScope N ps (zx st))
  (hbody:∀ (lend:Zh) (cdv:YZ) (A:aC) (lj:List Env) (s:Zd) (H:Hp) (E:XK),Body P w cv k (CH (ji P w) P w K mg base N qual (zx st) f cdv A lj s H E) (λc _ H'=>E (cv c) YY H')->
    PSs (CH (ji P w) P w K mg base N qual (zx st) f cdv A lj s H E) (g8 st) (tS ⟨cv,N.length,lend⟩ (λc _ H'=>E (cv c) YY H') b)):
  FnOk P w K mg base (ji P w) (k+1) f fd ps (NZ cv ps.length (jk N.length b)):=by
 obtain ⟨oc,od,kV,doc,pm,an,cdv,ct,osl,rfl,lk,hcd⟩:=F.ex
 refine SV lk hcd S (λvs H Q E h=>?_) λA lj s H vs Q E hr hsp=>?_
 ·obtain ⟨p,xs,avs,ds,args,d,ds',rfl,hl,_⟩:=h
  simpa using hl
 obtain ⟨p,xs,avs,ds,args,d,ds',rfl,hl,hp,rp,ra,hg,hok⟩:=hsp
 refine ⟨tS ⟨cv,N.length,p⟩ (λc _ H'=>E (cv c) YY H') b,hbody p cdv A lj s H E ⟨⟨hr.units,M.mlen,M.mint,M.mbool,M.mstr,M.mtuple,M.mlist,M.misi,M.mrange,M.menum,M.mzip,M.mrev⟩,hr,Jw,Iq,eP.leaving,rfl,S.nd⟩,?_⟩
 have hn:avs.length+1<=N.length:=by
  have:=congrArg eJ S.pre
  rw [cM] at this
  omega
 have g:=Uc (cv:=cv) hn hp rp ra
 unfold jk at hg
 cases hb:b (args.map (λd=>YW (.par d))++YW (.lent ds)::Z1 (N.length - args.length - 1) YY) with
 | none=>rw [hb] at hg;cases hg
 | some y=>
  rw [hb] at hg
  refine ⟨QC H p,QC H p,_,y,g,hb,?_⟩
  cases y with
  | retL d' ds2=>
   cases hg
   intro v H' s1 rv ⟨vs,h1,h2⟩
   exact hok v H' vs s1 h1 h2 rv
  | ret d=>cases hg
  | next ρ'=>cases hg
  | exc c ρ'=>cases hg
  | brk ρ'=>cases hg
  | cont ρ'=>cases hg
structure FnR(CX:GY)(P:Z8)(w:ZN)(K:Zb)(mg:Z3->Option YZ)(base:ZM)(cv:Nat->YZ)(n:Nat)(x:Z3)(ar:Nat)(g:FR):Prop where
 ex:∃ f fd ps,FnOk P w K mg base CX n f fd ps (NZ cv ar g)/\mg x=YW (.ref f)/\eF K (.ref f)=true/\Binds K fd ps []
section
variable{P:Z8}{w:ZN}{K:Zb}{mg:Z3->Option YZ}{base:ZM}{cv:Nat->YZ}{CX:GY}{n ar:Nat}{x:Z3}{st:aG}{ps:List Z3}{g:FR}
theorem Jo(F:FunT K mg x st ps):FnR CX P w K mg base cv 0 x ar (λ_ _=>YY):=by
 obtain ⟨f,fd,F,hm,hb,_⟩:=F.ex
 have no:∀ vs H Q E,¬ NZ cv ar (λ_ _=>YY) vs H Q E:=λvs H Q E h=>by
  obtain ⟨p,xs,avs,ds,args,d,ds',_,_,_,_,_,z,_⟩:=h
  cases z
 exact ⟨f,fd,ps,⟨λvs H Q E h=>absurd h (no vs H Q E),λA lj s H args us vs Q E _ _ _ _ h=>absurd h (no vs H Q E)⟩,hm,F.kp,hb⟩
theorem IC(F:FunT K mg x st ps)(ok:∀ f fd,Fun K x x st f fd->FnOk P w K mg base CX n f fd ps (NZ cv ar g)):FnR CX P w K mg base cv n x ar g:=by
 obtain ⟨f,fd,F,hm,hb,_⟩:=F.ex
 exact ⟨f,fd,ps,ok f fd F,hm,F.kp,hb⟩
end
noncomputable def YN(XO:XOT)(K:Zb):Arg->TE
 | .f e=>tF XO e
 | .n j=>Qr j
 | .x j k=>UU (Yh K) (Qr j) (tC (.int (k:Int)))
noncomputable def Ob(XO:XOT)(K:Zb):List Arg->Nat->TA
 | [],i=>Jc (Qr i) Rr
 | a::as,i=>Jc (YN XO K a) (Ob XO K as i)
section
variable{X:Cx}{XO:F7}{cv:Cfg}{pos p:eE}{H₀ F H:Hp}{ρ:f9}{σ:L2.St}{e:ZY}{es:List ZY}{f:FE}{as:List Arg}{i:Nat}
theorem ke(i:Nat){x:Z3}{xp:eE}(hN:X.N[i]? =YW x:=by rfl)(hv:DS X.env.scope x:=by first | exact ZZ rfl | exact ZE (ZZ rfl) | exact ZE (ZE rfl))(hd:(x == ("__debug__":Z3))=false:=by decide)(hcd:(x == ("__classdict__":Z3))=false:=by decide)
 (hs:Zf [.Name x xp] X.env=(false,bB (.Name x xp) X.env)::Zf [] X.env:=by exact jf rfl):PA X [.Name x xp] (Ob ⟨cv.cv,XO⟩ X.K [] i):=wy (vo (i:=i) hN hv hd hcd) xo hs
theorem nj(h:PE X e (tF ⟨cv.cv,XO⟩ f))(t:PA X es (Ob ⟨cv.cv,XO⟩ X.K as i))(hs:Zf (e::es) X.env=(false,bB e X.env)::Zf es X.env:=by exact jf rfl):PA X (e::es) (Ob ⟨cv.cv,XO⟩ X.K (.f f::as) i):=wy h t hs
theorem cz(j:Nat){x:Z3}{xp:eE}(t:PA X es (Ob ⟨cv.cv,XO⟩ X.K as i))(hN:X.N[j]? =YW x:=by rfl)(hv:DS X.env.scope x:=by first | exact ZZ rfl | exact ZE (ZZ rfl) | exact ZE (ZE rfl))(hd:(x == ("__debug__":Z3))=false:=by decide)(hcd:(x == ("__classdict__":Z3))=false:=by decide)
 (hs:Zf (.Name x xp::es) X.env=(false,bB (.Name x xp) X.env)::Zf es X.env:=by exact jf rfl):PA X (.Name x xp::es) (Ob ⟨cv.cv,XO⟩ X.K (.n j::as) i):=wy (vo (i:=j) hN hv hd hcd) t hs
theorem Se(j k:Nat){x:Z3}{xp kp sp:eE}{c:Nat}(t:PA X es (Ob ⟨cv.cv,XO⟩ X.K as i))(hN:X.N[j]? =YW x:=by rfl)(hv:DS X.env.scope x:=by first | exact ZZ rfl | exact ZE (ZZ rfl) | exact ZE (ZE rfl))(hd:(x == ("__debug__":Z3))=false:=by decide)(hcd:(x == ("__classdict__":Z3))=false:=by decide)
  (hs:Zf (.Subscript (.Name x xp) (.Constant (.int (k:Int)) c kp) sp::es) X.env=(false,bB (.Subscript (.Name x xp) (.Constant (.int (k:Int)) c kp) sp) X.env)::Zf es X.env:=by exact jf rfl):PA X (.Subscript (.Name x xp) (.Constant (.int (k:Int)) c kp) sp::es) (Ob ⟨cv.cv,XO⟩ X.K (.x j k::as) i):=
 wy (Py Li (vo (i:=j) hN hv hd hcd) KQ (λ_ _=>rfl)) t hs
theorem TJ{rs:List YX}{O:Fd}(o:SO cv H₀ F ρ σ H O)(h:nk ρ i=YW rs):∃ q xs,σ[i]? =YW (YW (.ref q))/\O q=YW i/\H q=YW (.lst xs)/\Reps (λ_ _=>False) H rs xs/\(∀ t,ρ[i]? =YW (YW (.lent t))->q=cv.lend):=by
 unfold nk at h
 split at h
 ·rename_i ds hρ
  cases h
  obtain ⟨q,vs,e,hq,hp,r⟩:=o.sl i _ hρ
  exact ⟨q,vs,e,hq,hp,r,λt z=>by rw [hρ] at z;cases z⟩
 ·rename_i ds hρ
  cases h
  obtain ⟨vs,e,hq,hp,r⟩:=o.sl i _ hρ
  exact ⟨cv.lend,vs,e,hq,hp,r,λt z=>rfl⟩
 ·cases h
theorem AO{O:Fd}{j:Nat}{d:YX}{q:Zh}(o:SO cv H₀ F ρ σ H O)(hq:O q=YW i)(hj:j≠i)(h:uc ρ[j]? =YW d):∃ v,σ[j]? =YW (YW v)/\Rep (λ_ a=>a≠q) H d v:=by
 have ne:∀ a,O a=YY->a≠q:=λa z y=>by rw [y,hq] at z;cases z
 unfold uc at h
 split at h
 ·rename_i hρ
  cases h
  obtain ⟨v,e,r⟩:=o.sl j _ hρ
  exact ⟨v,e,r.imp λ_ a z=>ne a z⟩
 ·rename_i hρ
  cases h
  obtain ⟨v,e,r⟩:=o.sl j _ hρ
  exact ⟨v,e,r.imp λ_ a z=>ne a z.2.1⟩
 ·rename_i ds hρ
  cases h
  obtain ⟨p,vs,e,hp,hv,r⟩:=o.sl j _ hρ
  refine ⟨.ref p,e,p,vs,rfl,.inl ⟨λy=>?_,hv⟩,r.imp λ_ _ z=>z.elim⟩
  rw [y,hq] at hp
  cases hp
  exact hj rfl
 ·cases h
theorem SO.same{O:Fd}{H1:Hp}(o:SO cv H₀ F ρ σ H O)(s1:Same H H1):SO cv H₀ F ρ σ H1 O:=⟨o.fr,λa i e=>let ⟨vs,q⟩:=o.ls a i e;⟨vs,s1 _ _ q⟩,λi t e=>(o.sl i t e).same s1⟩
theorem Ma{O:Fd}{q:Zh}:∀ (as:List Arg) (ds:List YX) (H:Hp) (Q:List V->Hp->Prop),SR cv H₀ F ρ σ H->SO cv H₀ F ρ σ H O->σ[i]? =YW (YW (.ref q))->O q=YW i->uo i ρ as=YW ds->
  (∀ avs H1,Same H H1->Reps (λ_ a=>a≠q) H1 ds avs->Q (avs++[.ref q]) H1)->Ob ⟨cv.cv,XO⟩ X.K as i σ H Q
 | [],ds,H,Q,g,o,hσ,hO,ha,k=>by
  cases ha
  exact ⟨.ref q,hσ,k [] H (Same.refl H) rfl⟩
 | a::as,ds,H,Q,g,o,hσ,hO,ha,k=>by
  unfold uo at ha
  split at ha
  case h_2=>cases ha
  rename_i d ds' h1 h2
  cases ha
  have rest:∀ v H1,Same H H1->Rep (λ_ a=>a≠q) H1 d v->Ob ⟨cv.cv,XO⟩ X.K as i σ H1 λvs H2=>Q (v::vs) H2:=λv H1 s1 r1=>
   Ma as ds' H1 _ (g.same s1) (o.same s1) hσ hO h2 λavs H2 s2 r2=>k (v::avs) H2 (s1.trans s2) ⟨v,avs,rfl,r1.same s2,r2⟩
  cases a with
  | f e=>
   simp only [o3] at h1
   split at h1
   ·rename_i l d' he
    split at h1
    ·rename_i hl
     cases h1
     refine ⟨H₀,H,ρ,.ok l d,g.g,he,⟨λl' d' v H' e' s rp=>?_,λc H' e=>(nomatch e)⟩⟩
     cases e'
     exact rest v H' s (rp.nl hl)
    ·cases h1
   ·cases h1
  | n j=>
   simp only [o3] at h1
   split at h1
   ·cases h1
   ·rename_i hj
    obtain ⟨v,e,r⟩:=AO o hO hj h1
    exact ⟨v,e,rest v H (Same.refl H) r⟩
  | x j k'=>
   simp only [o3] at h1
   split at h1
   ·cases h1
   ·rename_i hj
    split at h1
    ·rename_i es hs
     obtain ⟨v,e,pa,vs,rfl,rl,rs⟩:=AO o hO hj hs
     obtain ⟨w,hw,rw'⟩:=rs.get h1
     have hlt:=(Zi.mp hw).1
     have hat:L2.atI vs (k':Int)=YW w:=by
      unfold L2.atI L2.Vx
      rw [jn (by omega),jn (by omega)]
      simpa using hw
     exact ⟨.ref pa,e,.inl ⟨pa,vs,(k':Int),w,rfl,rfl,.inl rl.rd,hat,rest w H (Same.refl H) rw'⟩⟩
    ·cases h1
theorem Nh{O:Fd}{q:Zh}{H1 H':Hp}{xs':List V}{rs rs':List YX}(g:SR cv H₀ F ρ σ H1)(o:SO cv H₀ F ρ σ H1 O)(hr:nk ρ i=YW rs)(hσ:σ[i]? =YW (YW (.ref q)))(hO:O q=YW i){xs:List V}(hp:H1 q=YW (.lst xs))(hlend:∀ t,ρ[i]? =YW (YW (.lent t))->q=cv.lend)
  (sm:Same (QC H1 q) H') (hq:H' q=YW (.lst xs')) (r':Reps (λ_ _=>False) H' rs' xs'):SR cv H₀ F (oz ρ i rs') σ H'/\SO cv H₀ F (oz ρ i rs') σ H' (λa=>if a=q then YW i else YY):=by
 have sm':∀ b u,b≠q->H1 b=YW u->H' b=YW u:=λb u n z=>sm b u (by unfold QC;rw [qz n];exact z)
 have hil:i < ρ.length:=by
  unfold nk at hr
  split at hr
  ·rename_i h;exact (Zi.mp h).1
  ·rename_i h;exact (Zi.mp h).1
  ·cases hr
 have hT:∀ a xs,Rd H1 a (.tup xs)->Rd H' a (.tup xs):=λa xs h=>by
  have hne:a≠q:=by
   intro z;subst z
   rcases h with h | ⟨_,h⟩<;>(rw [hp] at h;cases h)
  rcases h with h | ⟨u,h⟩
  ·exact .inl (sm' _ _ hne h)
  ·exact .inr ⟨u,sm' _ _ hne h⟩
 have ne:∀ a,O a=YY->a≠q:=λa z y=>by rw [y,hO] at z;cases z
 have hL:∀ {P P':PP},(∀ z a,P z a->O a=YY/\P' z a)->∀ a ws,Rl P H1 a ws->Rl P' H' a ws:=λ{P P'} hP a ws rl=>by
  rcases rl with ⟨w,e⟩ | ⟨w,u,e⟩
  ·exact .inl ⟨(hP _ _ w).2,sm' _ _ (ne _ (hP _ _ w).1) e⟩
  ·exact .inr ⟨(hP _ _ w).2,u,sm' _ _ (ne _ (hP _ _ w).1) e⟩
 have so:SO cv H₀ F (oz ρ i rs') σ H' (λa=>if a=q then YW i else YY):=by
  refine ⟨λa j e=>?_,λa j e=>?_,λj t e=>?_⟩
  ·by_cases z:a=q
   ·subst z;exact o.fr a i hO
   ·rw [qz z] at e;cases e
  ·by_cases z:a=q
   ·subst z;exact ⟨.l xs',hq⟩
   ·rw [qz z] at e;cases e
  ·unfold oz at e
   by_cases hij:i=j
   ·subst hij
    rw [q9 _ _ _ _ (by simpa using hil),jn rfl] at e
    unfold BI at e
    split at e
    ·cases e;exact ⟨q,xs',hσ,jn rfl,hq,r'⟩
    ·rename_i t' hρ
     cases e
     have hl:=hlend _ hρ
     subst hl
     exact ⟨xs',hσ,jn rfl,hq,r'⟩
    ·cases e
   ·rw [q9 _ _ _ _ (by simpa using hil),qz hij,ZG] at e
    cases hx:ρ[j]? with
    | none=>rw [hx] at e;cases e
    | some os=>
     rw [hx] at e
     simp only [aH,ZO] at e
     cases os with
     | none=>cases e
     | some t0=>
      have sl:=o.sl j t0 hx
      cases t0 with
      | par d=>cases e;obtain ⟨w,e1,rr⟩:=sl;exact ⟨w,e1,Rep.mono hT (hL λ_ a x=>⟨x,qz (ne a x)⟩) d w rr⟩
      | loc d=>cases e;obtain ⟨w,e1,rr⟩:=sl;exact ⟨w,e1,Rep.mono hT (hL λ_ a x=>⟨x.2.1,x.1,qz (ne a x.2.1),x.2.2⟩) d w rr⟩
      | own ds=>
       cases e
       obtain ⟨p,vs,e1,hp',hv,rr⟩:=sl
       have hne:p≠q:=λz=>by rw [z,hO] at hp';cases hp';exact hij rfl
       exact ⟨.ref p,e1,p,vs,rfl,.inl ⟨⟨rfl,qz hne,g.s0.free (o.fr p j hp')⟩,sm' _ _ hne hv⟩,Reps.mono hT (λa ws rl=>by rcases rl with ⟨z,_⟩ | ⟨z,_⟩<;>exact z.elim) _ _ rr⟩
      | own2 ds=>
       cases e
       obtain ⟨p,vs,e1,hp',hv,rr⟩:=sl
       have hne:p≠q:=λz=>by rw [z,hO] at hp';cases hp';exact hij rfl
       exact ⟨.ref p,e1,p,vs,rfl,.inl ⟨⟨rfl,qz hne,g.s0.free (o.fr p j hp')⟩,sm' _ _ hne hv⟩,Reps.mono hT (hL λ_ a x=>⟨x.2.1,x.1,qz (ne a x.2.1),x.2.2⟩) _ _ rr⟩
      | dct ks=>cases e
      | lent ds=>cases e
      | ex c=>
       cases e
       obtain ⟨w,e1,φ,hx',hφ⟩:=sl
       have hne:w≠q:=λz=>by rw [z,hp] at hx';cases hx'
       exact ⟨w,e1,φ,sm' _ _ hne hx',hφ⟩
 refine ⟨⟨g.s0,λb u e=>?_,by unfold oz;simp [g.len],g.ln,_,so⟩,so⟩
 refine sm' b u (λz=>?_) (g.s1 b u e)
 subst z;rw [o.fr b i hO] at e;cases e
end
section
variable{X:Cx}{XO:F7}{cv:Cfg}{CX:GY}{pos p:eE}{H₀ F H:Hp}{ρ:f9}{σ:L2.St}{e:ZY}{es:List ZY}{as:List Arg}{i n ar:Nat}{x:Z3}{g:FR}
noncomputable def Sr(cv:Cfg)(XO:F7)(K:Zb)(as:List Arg)(i ar:Nat)(g:FR):TE:=λσ H Q=>Ob ⟨cv.cv,XO⟩ K as i σ H λvs H1=>NZ cv.cv ar g vs H1 Q (λcls _ H'=>∃ c,cls=cv.cv c/\XO c σ H')
theorem jj(F:FnR CX X.prog X.w X.K X.mg X.base cv.cv n x ar g)(hr:Room n X.A)(L:D4 CX X ⟨cv.cv,XO⟩)(ha:PA X (e::es) (Ob ⟨cv.cv,XO⟩ X.K as i))(hg:Gl X x:=by rfl)(hdb:(x == ("__debug__":Z3))=false:=by decide)
  (he:Zf (e::es) X.env=(false,bB e X.env)::Zf es X.env:=by exact jf rfl) (hpl:(aF pos (Zf es X.env)).any (·.1)=false:=by exact ym rfl):PE X (.Call (.Name x p) (e::es) [] pos) (Sr cv XO X.K as i ar g):=by
 obtain ⟨f,fd,ps,F,hm,hk,hb⟩:=F.ex
 intro lh s σ H Q I hA
 refine cP (C3 I hg hm ?_ hdb)
 refine PySem.W.callWith_K (h₀:=X.base) I.ok.mod.kin hk (bj (ha pos lh s σ H _ I hA) λus s1 ⟨vs,H1,I1,r,q⟩=>⟨I1.kIn,?_⟩) he hpl
 have hl:(us++[]).length=ps.length:=by rw [ZL,<- r.length];exact F.len _ _ _ _ q
 have hB:=hb s1 us I1.kIn hl
 rw [ZL] at hB
 refine wpAny_call (iK (F.run X.A X.stack s1 H1 ⟨us,[]⟩ us vs Q _ hr I1.env0 hB r q) λr s' hq=>?_)
 cases r with
 | error e=>exact L lh σ H1 s1 e s' I1 hq
 | ok fl=>
  cases fl with
  | ret u=>exact I1.after hq
  | next=>exact bL hq
  | brk=>exact bL hq
  | cont=>exact bL hq
theorem BM{d:YX}{rs':List YX}{Q:VK}{K:Zb}(hK:K=X.K)(gg:SR cv H₀ F ρ σ H)(hn:iM ar (as.length+1)=true)(hc:um g as i ρ=YW (d,rs'))
  (k:∀ q v H' xs',SR cv H₀ F (oz ρ i rs') σ H'->SO cv H₀ F (oz ρ i rs') σ H' (λa=>if a=q then YW i else YY)->H' q=YW (.lst xs')->Reps (λ_ _=>False) H' rs' xs'->(∀ t,ρ[i]? =YW (YW (.lent t))->q=cv.lend)->Rep (λ_ a=>a≠q) H' d v->Q v H'):
  Sr cv XO K as i ar g σ H Q:=by
 subst hK
 unfold um at hc
 split at hc
 case h_2=>cases hc
 rename_i ds rs ha hr
 obtain ⟨O,o⟩:=gg.ex
 obtain ⟨q,xs,hσ,hO,hp,rrs,hlend⟩:=TJ o hr
 refine Ma as ds H _ gg o hσ hO ha λavs H1 s1 ra=>⟨q,xs,avs,rs,ds,d,rs',rfl,?_,s1 _ _ hp,rrs.same s1,ra,hc,λv H' xs' sm hq r' rv=>?_⟩
 ·rw [ra.length,gO hn]
  clear hσ hO hp rrs hlend hr k s1 ra hn hc
  have:∀ (as:List Arg) (ds:List YX),uo i ρ as=YW ds->ds.length=as.length:=by
   intro as
   induction as with
   | nil=>intro ds h;cases h;rfl
   | cons a as ih=>
    intro ds h
    unfold uo at h
    split at h
    ·rename_i d ds' h1 h2
     cases h
     simp [ih _ h2]
    ·cases h
  rw [this as ds ha]
 ·obtain ⟨g2,o2⟩:=Nh (gg.same s1) (o.same s1) hr hσ hO (s1 _ _ hp) hlend sm hq r'
  exact k q v H' xs' g2 o2 hq r' hlend rv
theorem SR.putO{O:Fd}{j:Nat}{v:V}{t:Slot}(g:SR cv H₀ F ρ σ H)(o:SO cv H₀ F ρ σ H O)(hi':eV j cv.n=true)(ht:SS cv H₀ O (YW (YW v)) j H t):SR cv H₀ F (ρ.set j (YW t)) (σ.set j (YW v)) H:=by
 have hi:j < σ.length:=by rw [g.ln];exact dX.mp hi'
 have hρ:j < ρ.length:=by rw [g.len];exact dX.mp hi'
 refine ⟨g.s0,g.s1,by simp [g.len],by simp [g.ln],O,o.fr,o.ls,λk t' e=>?_⟩
 by_cases hij:j=k
 ·subst hij
  rw [q9 _ _ _ _ hρ,jn rfl] at e
  cases e
  rw [q9 _ _ _ _ hi,jn rfl]
  exact ht
 ·rw [q9 _ _ _ _ hρ,qz hij] at e
  rw [q9 _ _ _ _ hi,qz hij]
  exact o.sl k t' e
theorem dy(j:Nat){y:Z3}{pos':eE}(hnd:X.N.Nodup)(hp:PE X e (Sr cv XO X.K as i ar g))(hn:iM ar (as.length+1)=true:=by rfl)(hj:X.N[j]? =YW y:=by rfl)(hy:Oi X.env.scope y:=by first | exact ZZ rfl | exact ZE rfl)
  (hs:cB e (YW (.Name y pos')) pos.line X.env=pure false:=by rfl) (hf:X.fn y=true∨X.env.scope.names.lookup y=YW .local:=by first | exact .inl rfl | exact .inr rfl | assumption)
  (hjn:eV j cv.n=true:=by rfl):PS X (.Assign [.Name y pos'] e pos) (tS cv XO (kg j g as i)):=by
 intro lh s σ H D I ⟨H₀,F,ρ,r,gg,e',k⟩
 refine Fl hnd hj hy hp hs hf lh s σ H D I ?_
 unfold kg at e'
 split at e'
 ·rename_i d rs hc
  split at e'
  ·cases e'
  ·cases e'
   exact BM (X:=X) rfl gg hn hc λq v H' xs' g2 o2 hq r' hl rv=>k _ _ (g2.putO o2 hjn ⟨v,rfl,rv.imp λ_ a z=>qz z⟩)
 ·cases e'
theorem HL(hp:PE X e (Sr cv XO X.K as i ar g))(hn:iM ar (as.length+1)=true:=by rfl)(hs:cB e YY pos.line X.env=pure false:=by rfl):PS X (.Expr e pos) (tS cv XO (AG g as i)):=by
 intro lh s σ H D I ⟨H₀,F,ρ,r,gg,e',k⟩
 refine Ab hp hs lh s σ H D I ?_
 unfold AG at e'
 split at e'
 ·rename_i d rs hc
  cases e'
  exact BM (X:=X) rfl gg hn hc λq v H' xs' g2 o2 hq r' hl rv=>k _ _ g2
 ·cases e'
theorem Md(h:ng ρ i=true):∃ t,ρ[i]? =YW (YW (.lent t)):=by
 unfold ng at h
 split at h
 ·rename_i t ht;exact ⟨t,ht⟩
 ·cases h
theorem CB{K:Zb}{D:Ends}{r:RS}(hK:K=X.K)(gg:SR cv H₀ F ρ σ H)(hn:iM ar (as.length+1)=true)(e':ir g as i ρ=YW r)(k:KS cv XO H₀ F D r):Sr cv XO K as i ar g σ H D.rt:=by
 unfold ir at e'
 split at e'
 ·rename_i d rs hc
  split at e'
  ·rename_i hl
   cases e'
   obtain ⟨t,ht⟩:=Md hl
   exact BM (X:=X) hK gg hn hc λq v H' xs' g2 o2 hq r' hl rv=>by
    have:=hl t ht
    subst this
    exact k v H' g2.s1 rv ⟨xs',hq,r'⟩
  ·cases e'
 ·cases e'
theorem Hr(hp:PE X e (Sr cv XO X.K as i ar g))(hn:iM ar (as.length+1)=true:=by rfl):PS X (.Return (YW e) pos) (tS cv XO (ir g as i)):=by
 intro lh s σ H D I ⟨H₀,F,ρ,r,gg,e',k⟩
 exact Bz hp lh s σ H D I (CB (X:=X) rfl gg hn e' k)
theorem Oy{c a b:ZY}{fc:FE}{as2:List Arg}{i2 ar2:Nat}{g2:FR}{ip:eE}(hc:PT X c (ku (tF ⟨cv.cv,XO⟩ fc)))(ha:PE X a (Sr cv XO X.K as i ar g))(hb:PE X b (Sr cv XO X.K as2 i2 ar2 g2))(hn:iM ar (as.length+1)=true:=by rfl)(hn2:iM ar2 (as2.length+1)=true:=by rfl):
  PS X (.Return (YW (.IfExp c a b ip)) pos) (tS cv XO (qm fc (ir g as i) (ir g2 as2 i2))):=by
 intro lh s σ H D I ⟨H₀,F,ρ,r,gg,e',k⟩
 refine Bz (JQ hc ha hb) lh s σ H D I ?_
 unfold qm at e'
 refine bp gg e' k λl d v H1 s1 r1 e1=>?_
 split at e1
 ·exact ⟨true,r1,L2.Jf (CB (X:=X) rfl (gg.same s1) hn e1 k)⟩
 ·exact ⟨false,r1,L2.Jk (CB (X:=X) rfl (gg.same s1) hn2 e1 k)⟩
 ·cases e1
theorem S4{tp:eE}{tpos:eE}(C:BC X)(hp:PE X e (Sr cv XO X.K as i ar g))(hn:iM ar (as.length+1)=true:=by rfl)(hg:Gl X "tuple":=by rfl)(he:Zf [e] X.env=(false,bB e X.env)::Zf [] X.env:=by exact jf rfl)(hpl:(aF tpos (Zf [] X.env)).any (·.1)=false:=by exact ym rfl):
  PS X (.Return (YW (.Call (.Name "tuple" tp) [e] [] tpos)) pos) (tS cv XO (H9 g as i)):=by
 intro lh s σ H D I ⟨H₀,F,ρ,r,gg,e',k⟩
 refine Bz (Bj Bo hg C.mtuple gC (wy hp xo he) (by decide) (by decide) he hpl) lh s σ H D I ?_
 unfold H9 at e'
 split at e'
 ·rename_i xs rs hc
  split at e'
  ·rename_i hl
   rw [Zn] at hl
   cases e'
   obtain ⟨t,ht⟩:=Md hl.1
   refine BM (X:=X) rfl gg hn hc λq v H' xs' g2 o2 hq r' hl' rv=>?_
   have:=hl' t ht
   subst this
   obtain ⟨pa,vs,rfl,rl,rr⟩:=rv
   refine ⟨pa,vs,rfl,.inl ⟨.inl rl.rd,λl hln=>?_⟩⟩
   have sn:Same H' (upd H' l (.tup vs)):=qp hln _
   exact k _ _ (g2.s1.trans sn) ⟨l,vs,rfl,.inl qr,(rr.nl hl.2).same sn⟩ ⟨xs',sn _ _ hq,r'.same sn⟩
  ·cases e'
 ·cases e'
theorem o6(i:Nat){f:FE}(h:PE X e (tF ⟨cv.cv,XO⟩ f)):PS X (.Return (YW e) pos) (tS cv XO (ua i f)):=by
 intro lh s σ H D I ⟨H₀,F,ρ,r,gg,e',k⟩
 refine Bz h lh s σ H D I ?_
 unfold ua at e'
 split at e'
 ·rename_i rs hρ
  obtain ⟨O,vs,o,hσ,hO,hp,rrs⟩:=gg.lentT hρ
  refine bp gg e' k λl d v H1 s1 r1 e1=>?_
  split at e1
  ·rename_i hc
   cases e1
   refine k v H1 (gg.s1.trans s1) ?_ ⟨vs,s1 _ _ hp,rrs.same s1⟩
   by_cases hl:lf d=true
   ·exact r1.nl hl
   ·have h2:2<=l:=by
      rw [dH] at hc
      exact of_decide_eq_true (hc.resolve_left hl)
    refine r1.imp λz a pz y=>?_
    subst y
    match l,h2,pz with
    | l+2,_,pz=>rw [pz.2] at hp;cases hp
  ·cases e1
 ·cases e'
theorem HP(i j:Nat){y:Z3}{yp:eE}(hN:X.N[j]? =YW y:=by rfl)(hv:DS X.env.scope y:=by first | exact ZZ rfl | exact ZE (ZZ rfl) | exact ZE (ZE rfl))(hd:(y == ("__debug__":Z3))=false:=by decide)(hcd:(y == ("__classdict__":Z3))=false:=by decide):
  PS X (.Return (YW (.Name y yp)) pos) (tS cv XO (Ao i j)):=by
 intro lh s σ H D I ⟨H₀,F,ρ,r,gg,e',k⟩
 refine Bz (vo (i:=j) hN hv hd hcd) lh s σ H D I ?_
 unfold Ao at e'
 split at e'
 ·rename_i rs hρ
  obtain ⟨O,vs,o,hσ,hO,hp,rrs⟩:=gg.lentT hρ
  split at e'
  ·rename_i d hd'
   cases e'
   split at hd'
   ·cases hd'
   ·rename_i hj
    obtain ⟨v,ev,rv⟩:=AO o hO hj hd'
    exact ⟨v,ev,k v H gg.s1 rv ⟨vs,hp,rrs⟩⟩
  ·cases e'
 ·cases e'
theorem OA(i j k':Nat){y z:Z3}{yp zp lp:eE}(hN:X.N[j]? =YW y:=by rfl)(hv:DS X.env.scope y:=by first | exact ZZ rfl | exact ZE (ZZ rfl) | exact ZE (ZE rfl))(hd:(y == ("__debug__":Z3))=false:=by decide)(hcd:(y == ("__classdict__":Z3))=false:=by decide)
  (hN2:X.N[k']? =YW z:=by rfl) (hv2:DS X.env.scope z:=by first | exact ZZ rfl | exact ZE (ZZ rfl) | exact ZE (ZE rfl)) (hd2:(z == ("__debug__":Z3))=false:=by decide) (hcd2:(z == ("__classdict__":Z3))=false:=by decide)
  (hs1:Zf [.Name y yp,.Name z zp] X.env=(false,bB (.Name y yp) X.env)::Zf [.Name z zp] X.env:=by exact jf rfl) (hs2:Zf [.Name z zp] X.env=(false,bB (.Name z zp) X.env)::Zf [] X.env:=by exact jf rfl):
  PS X (.Return (YW (.List [.Name y yp,.Name z zp] lp)) pos) (tS cv XO (Gf i j k')):=by
 intro lh s σ H D I ⟨H₀,F,ρ,r,gg,e',k⟩
 refine Bz (Qu (wy (vo (i:=j) hN hv hd hcd) (wy (vo (i:=k') hN2 hv2 hd2 hcd2) xo hs2) hs1)) lh s σ H D I ?_
 unfold Gf at e'
 split at e'
 ·rename_i rs hρ
  obtain ⟨O,vs,o,hσ,hO,hp,rrs⟩:=gg.lentT hρ
  split at e'
  ·rename_i d1 d2 h1 h2
   cases e'
   split at h1
   ·cases h1
   ·rename_i hj
    split at h2
    ·cases h2
    ·rename_i hk
     obtain ⟨v1,ev1,rv1⟩:=AO o hO hj h1
     obtain ⟨v2,ev2,rv2⟩:=AO o hO hk h2
     refine ⟨v1,ev1,v2,ev2,(by decide:2<=Zx),λl hln=>?_⟩
     have sn:Same H (upd H l (.lst [v1,v2])):=qp hln _
     refine k _ _ (gg.s1.trans sn) ⟨l,[v1,v2],rfl,.inl ⟨λy=>?_,qr⟩,v1,[v2],rfl,rv1.same sn,v2,[],rfl,rv2.same sn,rfl⟩ ⟨vs,sn _ _ hp,rrs.same sn⟩
     rw [y,hp] at hln
     cases hln
  ·cases e'
 ·cases e'
theorem Lc(j i:Nat){x y:Z3}{xp yp:eE}(hnd:X.N.Nodup)(hN:X.N[i]? =YW x:=by rfl)(hv:DS X.env.scope x:=by first | exact ZZ rfl | exact ZE (ZZ rfl) | exact ZE (ZE rfl))(hd:(x == ("__debug__":Z3))=false:=by decide)(hcd:(x == ("__classdict__":Z3))=false:=by decide)
  (hj:X.N[j]? =YW y:=by rfl) (hy:Oi X.env.scope y:=by first | exact ZZ rfl | exact ZE rfl) (hs:cB (.Name x xp) (YW (.Name y yp)) pos.line X.env=pure false:=by rfl) (hf:X.fn y=true∨X.env.scope.names.lookup y=YW .local:=by first | exact .inl rfl | exact .inr rfl | assumption)
  (hjn:eV j cv.n=true:=by rfl):PS X (.Assign [.Name y yp] (.Name x xp) pos) (tS cv XO (BN j i)):=by
 intro lh s σ H D I ⟨H₀,F,ρ,r,gg,e',k⟩
 refine Fl hnd hj hy (vo (i:=i) hN hv hd hcd) hs hf lh s σ H D I ?_
 unfold BN at e'
 split at e'
 ·rename_i ds hρ
  split at e'
  ·cases e'
  ·rename_i hij
   cases e'
   obtain ⟨O,q,vs,o,hσ,hO,hp,rs⟩:=gg.own hρ
   refine ⟨.ref q,hσ,k _ _ ?_⟩
   have hjσ:j < σ.length:=by rw [gg.ln];exact dX.mp hjn
   have hjρ:j < (ρ.set i YY).length:=by rw [List.length_set,gg.len];exact dX.mp hjn
   have hiρ:i < ρ.length:=(Zi.mp hρ).1
   have hn:∀ a,O a=YY->(if a=q then YW j else O a)=YY:=λa z=>by
    rw [qz (λy=>by rw [y,hO] at z;cases z)]
    exact z
   refine ⟨gg.s0,gg.s1,by simp [gg.len],by simp [gg.ln],λa=>if a=q then YW j else O a,λa m z=>?_,λa m z=>?_,λm t z=>?_⟩
   ·by_cases y:a=q
    ·subst y;exact o.fr a i hO
    ·rw [qz y] at z;exact o.fr a m z
   ·by_cases y:a=q
    ·subst y;exact ⟨.l vs,hp⟩
    ·rw [qz y] at z;exact o.ls a m z
   ·by_cases hjm:j=m
    ·subst hjm
     rw [q9 _ _ _ _ hjρ,jn rfl] at z
     cases z
     rw [q9 _ _ _ _ hjσ,jn rfl]
     exact ⟨q,vs,rfl,jn rfl,hp,rs⟩
    ·rw [q9 _ _ _ _ hjρ,qz hjm] at z
     rw [q9 _ _ _ _ hjσ,qz hjm]
     by_cases him:i=m
     ·subst him
      rw [q9 _ _ _ _ hiρ,jn rfl] at z
      cases z
     ·rw [q9 _ _ _ _ hiρ,qz him] at z
      have sl:=o.sl m t z
      have nq:∀ a,O a=YW m->a≠q:=λa w y=>by rw [y,hO] at w;cases w;exact him rfl
      cases t with
      | par d=>obtain ⟨w,e1,rr⟩:=sl;exact ⟨w,e1,rr.imp λ_ a z=>hn a z⟩
      | loc d=>obtain ⟨w,e1,rr⟩:=sl;exact ⟨w,e1,rr.imp λ_ a z=>⟨z.1,hn a z.2.1,z.2.2⟩⟩
      | own ds=>obtain ⟨q1,ws,e1,hq,hqp,rs'⟩:=sl;exact ⟨q1,ws,e1,(qz (nq _ hq)).trans hq,hqp,rs'⟩
      | own2 ds=>obtain ⟨q1,ws,e1,hq,hqp,rs'⟩:=sl;exact ⟨q1,ws,e1,(qz (nq _ hq)).trans hq,hqp,rs'.imp λ_ a z=>⟨z.1,hn a z.2.1,z.2.2⟩⟩
      | lent ds=>obtain ⟨ws,e1,hq,hqp,rs'⟩:=sl;exact ⟨ws,e1,(qz (nq _ hq)).trans hq,hqp,rs'⟩
      | dct ks=>obtain ⟨q1,e1,hq,hd⟩:=sl;exact ⟨q1,e1,(qz (nq _ hq)).trans hq,hd⟩
      | ex c=>exact sl
 ·cases e'
theorem SO.changeG{i:Nat}{t:Slot}{p:Zh}{o0 o1:OwV}{O:Fd}(o:SO cv H₀ F ρ σ H O)(hρ:i < ρ.length)(hO:O p=YW i)(hp:H p=YW o0.ho)(ht:SS cv H₀ O σ[i]? i (upd H p o1.ho) t):
  SO cv H₀ F (ρ.set i (YW t)) σ (upd H p o1.ho) O:=by
 have hT:∀ a xs,Rd H a (.tup xs)->Rd (upd H p o1.ho) a (.tup xs):=λa xs e=>B5 hp e
 have hL:∀ {P:PP},(∀ z a,P z a->O a=YY)->∀ a ws,Rl P H a ws->Rl P (upd H p o1.ho) a ws:=λ{P} hP a ws rl=>by
  have hne:∀ z,P z a->a≠p:=λz q y=>by have:=hP z a q;rw [y,hO] at this;cases this
  rcases rl with ⟨q,e⟩ | ⟨q,u,e⟩
  ·exact .inl ⟨q,by rw [qb (hne _ q)];exact e⟩
  ·exact .inr ⟨q,u,by rw [qb (hne _ q)];exact e⟩
 refine ⟨o.fr,λa j e=>?_,λj t' e=>?_⟩
 ·by_cases z:a=p
  ·subst z;exact ⟨o1,qr⟩
  ·rw [qb z];exact o.ls a j e
 ·by_cases hij:i=j
  ·subst hij
   rw [q9 _ _ _ _ hρ,jn rfl] at e
   cases e
   exact ht
  ·rw [q9 _ _ _ _ hρ,qz hij] at e
   have q:=o.sl j t' e
   cases t' with
   | par d=>obtain ⟨w,e1,rr⟩:=q;exact ⟨w,e1,Rep.mono hT (hL λ_ _ x=>x) d w rr⟩
   | loc d=>obtain ⟨w,e1,rr⟩:=q;exact ⟨w,e1,Rep.mono hT (hL λ_ _ x=>x.2.1) d w rr⟩
   | own ds=>
    obtain ⟨q1,ws,e1,hq,hqp,rs⟩:=q
    have hne:q1≠p:=λz=>by rw [z,hO] at hq;cases hq;exact hij rfl
    exact ⟨q1,ws,e1,hq,by rw [qb hne];exact hqp,Reps.mono hT (hL λ_ _ x=>x.elim) _ _ rs⟩
   | own2 ds=>
    obtain ⟨q1,ws,e1,hq,hqp,rs⟩:=q
    have hne:q1≠p:=λz=>by rw [z,hO] at hq;cases hq;exact hij rfl
    exact ⟨q1,ws,e1,hq,by rw [qb hne];exact hqp,Reps.mono hT (hL λ_ _ x=>x.2.1) _ _ rs⟩
   | lent ds=>
    obtain ⟨ws,e1,hq,hqp,rs⟩:=q
    have hne:cv.lend≠p:=λz=>by rw [z,hO] at hq;cases hq;exact hij rfl
    exact ⟨ws,e1,hq,by rw [qb hne];exact hqp,Reps.mono hT (hL λ_ _ x=>x.elim) _ _ rs⟩
   | dct ks=>
    obtain ⟨q1,e1,hq,hd⟩:=q
    have hne:q1≠p:=λz=>by rw [z,hO] at hq;cases hq;exact hij rfl
    exact ⟨q1,e1,hq,hd.upd hne⟩
   | ex c=>
    obtain ⟨w,e1,φ,hx,hφ⟩:=q
    have hne:w≠p:=λz=>by rw [z,hp] at hx;cases o0<;>cases hx
    exact ⟨w,e1,φ,by rw [qb hne];exact hx,hφ⟩
theorem OJ(i j:Nat){x y:Z3}{xp yp apos cpos ap2 cp2 kp:eE}{c:Nat}(hN:X.N[i]? =YW x:=by rfl)(hv:DS X.env.scope x:=by first | exact ZZ rfl | exact ZE (ZZ rfl) | exact ZE (ZE rfl))(hd:(x == ("__debug__":Z3))=false:=by decide)(hcd:(x == ("__classdict__":Z3))=false:=by decide)
  (hN2:X.N[j]? =YW y:=by rfl) (hv2:DS X.env.scope y:=by first | exact ZZ rfl | exact ZE (ZZ rfl) | exact ZE (ZE rfl)) (hd2:(y == ("__debug__":Z3))=false:=by decide) (hcd2:(y == ("__classdict__":Z3))=false:=by decide)
  (hbase:cI (.Name x xp) "append" X.env (bB (.Name x xp) X.env)=bB (.Name x xp) X.env:=by rfl) (hbase2:cI (.Name y yp) "pop" X.env (bB (.Name y yp) X.env)=bB (.Name y yp) X.env:=by rfl)
  (hfew:((aF cpos (Zf [.Call (.Attribute (.Name y yp) "pop" ap2) [.Constant (.int 0) c kp] [] cp2] X.env)).all (λx=>!x.1) && (iX cpos (gB [] X.env)).all (λx=>x.1.isSome)
    && decide ([ZY.Call (.Attribute (.Name y yp) "pop" ap2) [.Constant (.int 0) c kp] [] cp2].length+([]:List fL).length+(if ([]:List fL).isEmpty then 0 else 1) < 30))=true:=by rfl)
  (hfew2:((aF cp2 (Zf [.Constant (.int 0) c kp] X.env)).all (λx=>!x.1) && (iX cp2 (gB [] X.env)).all (λx=>x.1.isSome)
    && decide ([ZY.Constant (.int 0) c kp].length+([]:List fL).length+(if ([]:List fL).isEmpty then 0 else 1) < 30))=true:=by rfl)
  (hline:(apos.endLine == cpos.line)=true:=by rfl) (hline2:(ap2.endLine == cp2.line)=true:=by rfl)
  (hs1:Zf [.Call (.Attribute (.Name y yp) "pop" ap2) [.Constant (.int 0) c kp] [] cp2] X.env=(false,bB (.Call (.Attribute (.Name y yp) "pop" ap2) [.Constant (.int 0) c kp] [] cp2) X.env)::Zf [] X.env:=by rfl) (hplain:(aF cpos (Zf [] X.env)).any (·.1)=false:=by rfl)
  (hs2:Zf [.Constant (.int 0) c kp] X.env=(false,bB (.Constant (.int 0) c kp) X.env)::Zf [] X.env:=by rfl) (hplain2:(aF cp2 (Zf [] X.env)).any (·.1)=false:=by rfl)
  (hs:cB (.Call (.Attribute (.Name x xp) "append" apos) [.Call (.Attribute (.Name y yp) "pop" ap2) [.Constant (.int 0) c kp] [] cp2] [] cpos) YY pos.line X.env=pure false:=by rfl):
  PS X (.Expr (.Call (.Attribute (.Name x xp) "append" apos) [.Call (.Attribute (.Name y yp) "pop" ap2) [.Constant (.int 0) c kp] [] cp2] [] cpos) pos) (tS cv XO (BW i j)):=by
 intro lh s σ H D I ⟨H₀,F,ρ,r,gg,e',k⟩
 refine Ab (GA aW dY dZ Be (vo (i:=i) hN hv hd hcd)
  (wy (GA aW PySem.F.slot_list_pop PySem.F.type_list_pop Pc (vo (i:=j) hN2 hv2 hd2 hcd2) (wy KQ xo hs2) hbase2 hfew2 hline2 hs2 hplain2) xo hs1) hbase hfew hline hs1 hplain) hs lh s σ H D I ?_
 unfold BW at e'
 split at e'
 case h_2=>cases e'
 rename_i xs hi
 split at e'
 case h_2=>cases e'
 rename_i y' ys hj
 split at e'
 case isFalse=>cases e'
 rename_i hc
 obtain ⟨hij,lq,hlf⟩:=hc
 cases e'
 obtain ⟨O,o⟩:=gg.ex
 obtain ⟨p,vs,hσ,hO,hp,rs⟩:=o.sl i _ hi
 obtain ⟨q,ws,hσ2,hO2,hq,rs2⟩:=o.sl j _ hj
 have hpq:p≠q:=λz=>by rw [z,hO2] at hO;cases hO;exact hij rfl
 obtain ⟨v,wr,rfl,rv,rr⟩:=rs2
 have hT:∀ a xs,Rd H a (.tup xs)->Rd (upd H q (.lst wr)) a (.tup xs):=λa xs h=>B5 (o0:=.l (v::wr)) hq h
 have fF:∀ {ds:List YX} {us:List V},Reps (λ_ _=>False) H ds us->Reps (λ_ _=>False) (upd H q (.lst wr)) ds us:=λ{ds us} r=>Reps.mono hT (λa ws rl=>by rcases rl with ⟨z,_⟩ | ⟨z,_⟩<;>exact z.elim) ds us r
 have g2:=gg.change o hj hσ2 hO2 hq rr
 have o2:SO cv H₀ F (ρ.set j (YW (.own ys))) σ (upd H q (.lst wr)) O:=
  o.changeG (o0:=.l (v::wr)) (o1:=.l wr) (Zi.mp hj).1 hO2 hq ⟨q,wr,hσ2,hO2,qr,fF rr⟩
 refine ⟨.ref p,hσ,.inl ⟨rfl,vs,SqL.of hp⟩,.ref q,hσ2,.inl ⟨rfl,v::wr,SqL.of hq⟩,q,v::wr,0,0,v,rfl,rfl,hq,by decide,by decide,by simp [seqIndex?],rfl,p,vs,v,rfl,rfl,by rw [qb hpq];exact hp,by rw [rs.length];exact Zt lq B1,?_⟩
 have hi2:(ρ.set j (YW (.own ys)))[i]? =YW (YW (.own xs)):=by
  rw [q9 _ _ _ _ (Zi.mp hj).1,qz (eT hij)];exact hi
 exact k _ _ (g2.change o2 hi2 hσ hO (by rw [qb hpq];exact hp) ((fF rs).append (Reps.one (Rep.mono hT (λa ws rl=>by rcases rl with ⟨z,_⟩ | ⟨z,_⟩<;>exact z.elim) _ _ rv))))
end
theorem CZ:fillsNumberSlot (.type "tuple") "mul" =pure false:=
 PySem.fillsNumberSlot_seq (id:="tuple.__mul__") (r:=YW (.builtin "tuple.__rmul__")) PySem.F.slot_tuple_mul.lookup (by decide +kernel) PySem.F.slot_tuple_rmul.lookup (by decide +kernel)
theorem H8:seqRepeat? (.type "tuple")=pure (YW (.builtin "tuple.__mul__")):=by
 unfold seqRepeat?
 rw [PySem.seqSlot_of (T:="tuple") (name:="__mul__") (id:="tuple.__mul__") PySem.F.slot_tuple_mul.lookup (by decide +kernel),PySem.seqSlot_of (T:="tuple") (name:="__rmul__") (id:="tuple.__rmul__") PySem.F.slot_tuple_rmul.lookup (by decide +kernel)]
 rfl
theorem Lp(a:Int)(t:Tok)(l:Zh)(items:Array YZ)(n:Nat)(dd:Option Zh)(sl:Array (Option YZ)):
  Meets (aT.«int.__rmul__» ⟨[.int a t,.ref l],[]⟩) (λ_ R s=>s.heap.get? l=YW {cls:=.type "tuple",dict:=dd,data:=.seq items n,slots:=sl}/\R (.ok (.ret iA)) s):=
 .of_wp λprog w A R s h=>by obtain ⟨hp,g,d,tk,os⟩:=s;obtain ⟨hl,h⟩:=h;wp_walk using ZT hl;exact ⟨_,rfl,h⟩
theorem Km(t:Tok)(l:Zh)(items:Array YZ)(n:Nat)(dd:Option Zh)(sl:Array (Option YZ)):
  Meets (aT.«tuple.__mul__» ⟨[.ref l,.int 1 t],[]⟩) (λ_ R s=>s.heap.get? l=YW {cls:=.type "tuple",dict:=dd,data:=.seq items n,slots:=sl}/\R (.ok (.ret (.ref l))) s):=
 .of_wp λprog w A R s h=>by obtain ⟨hp,g,d,tk,os⟩:=s;obtain ⟨hl,h⟩:=h;have f1:=gS;wp_walk using ZT hl;exact ⟨_,rfl,h⟩
theorem Lr(k:Int)(t:Tok)(l:Zh)(items:Array YZ)(n:Nat)(dd:Option Zh)(sl:Array (Option YZ))(h1:-(2 ^ 63)<=k)(h0:k<=0)(hne:items.isEmpty=false):
  Meets (aT.«tuple.__mul__» ⟨[.ref l,.int k t],[]⟩) (λ_ R s=>s.heap.get? l=YW {cls:=.type "tuple",dict:=dd,data:=.seq items n,slots:=sl}/\R (.ok (.ret (aA s.heap.objs.size))) {s with heap:=s.heap.push {cls:=bK "tuple",data:=Data.seq #[]},toks:=s.toks}):=
 .of_wp λprog w A R s h=>by
  obtain ⟨hp,g,d,tk,os⟩:=s;obtain ⟨hl,h⟩:=h;have f1:=gS
  have e1:(decide (k < -(2 ^ 63)) || decide (k≥2 ^ 63))=false:=by rw [iB];exact ⟨decide_eq_false (by omega),decide_eq_false (by omega)⟩
  have e2:(items.isEmpty || k == 1)=false:=by rw [hne,gY];exact beq_eq_false_iff_ne.mpr (by omega)
  have e3:(decide (k<=0) || items.isEmpty)=true:=by rw [decide_eq_true h0,Bool.true_or]
  wp_walk using ZT hl
  refine dI (decide_eq_false (by rw [e1];exact Zv)) ?_
  wp_walk using ZT hl
  refine dI (decide_eq_false (by rw [e2];exact Zv)) ?_
  wp_walk using ZT hl
  exact ⟨_,rfl,h⟩
theorem Kv(k:Int)(t:Tok)(l:Zh)(items:Array YZ)(n:Nat)(dd:Option Zh)(sl:Array (Option YZ))(h1:k < 2 ^ 63)(h0:1 < k)(hne:items.isEmpty=false)(hz:items.size * k.toNat<=Zx)(hz2:(iP (λx1 x2=>x1++x2) #[] (Z1 k.toNat items)).size<=Zx):
  Meets (aT.«tuple.__mul__» ⟨[.ref l,.int k t],[]⟩) (λ_ R s=>s.heap.get? l=YW {cls:=.type "tuple",dict:=dd,data:=.seq items n,slots:=sl}/\R (.ok (.ret (aA s.heap.objs.size))) {s with heap:=s.heap.push {cls:=bK "tuple",data:=Data.seq (iP (λx1 x2=>x1++x2) #[] (Z1 k.toNat items))},toks:=s.toks}):=
 .of_wp λprog w A R s h=>by
  obtain ⟨hp,g,d,tk,os⟩:=s;obtain ⟨hl,h⟩:=h;have f1:=gS
  have e1:(decide (k < -(2 ^ 63)) || decide (k≥2 ^ 63))=false:=by rw [iB];exact ⟨decide_eq_false (by omega),decide_eq_false (by omega)⟩
  have e2:(items.isEmpty || k == 1)=false:=by rw [hne,gY];exact beq_eq_false_iff_ne.mpr (by omega)
  have e3:(decide (k<=0) || items.isEmpty)=false:=by rw [hne,Bool.or_false];exact decide_eq_false (by omega)
  have hk:((items.size:Int) * k)=((items.size * k.toNat:Nat):Int):=by rw [Int.natCast_mul,Int.toNat_of_nonneg (by omega)]
  have hs:(Zx:Nat)<=(2 ^ 63 - 1) / 8:=by decide
  wp_walk using ZT hl
  refine dI (decide_eq_false (by rw [e1];exact Zv)) ?_
  wp_walk using ZT hl
  refine dI (decide_eq_false (by rw [e2];exact Zv)) ?_
  wp_walk using ZT hl
  refine dI (decide_eq_false (by rw [e3];exact Zv)) ?_
  wp_walk using ZT hl
  refine dI (decide_eq_false (by rw [hk];omega)) ?_
  wp_walk using ZT hl
  refine dI (decide_eq_false (by unfold aT.Tuple.tupleTooMany;rw [hk];simp only [decide_eq_true_eq];omega)) ?_
  wp_walk using ZT hl
  exact ⟨_,rfl,h⟩
section
variable{X:Cx}{XO:XOT}{a b:ZY}{fa fb:FE}{pos:eE}
noncomputable def SU:R2:=λx y H Q=>∃ l k xs,x= .ref l/\y= .int k/\Rd H l (.tup xs)/\xs≠[]/\-(2 ^ 63)<=k/\k < 2 ^ 63/\xs.length * k.toNat<=Zx/\
 (k=1->Q (.ref l) H)/\(k≠1->∀ p,H p=YY->Q (.ref p) (upd H p (.tup (Z1 k.toNat xs).flatten)))
theorem Sy:OpR X (cN .Mult) SU:=by
 intro lh s σ H x y v u Q I rx ry h
 obtain ⟨l,k,xs,rfl,rfl,hH,hne,h1,h2,hz,q1,q2⟩:=h
 cases rx
 obtain ⟨t,rfl⟩:=ry
 obtain ⟨its,r,p1,_⟩:=I.tuple (.inl hH)
 obtain ⟨⟨cls,dd,data,sl⟩,e,hc,n,hd⟩:=id p1
 simp only at hc hd
 subst hc hd
 have hl:=r.length
 have hi:its≠[]:=λz=>hne (r.nil_iff.mp z)
 have hie:its.toArray.isEmpty=false:=by cases its with | nil=>exact absurd rfl hi | cons a b=>rfl
 have f0:iP (λx1 x2=>x1++x2) #[] (Z1 k.toNat its.toArray)=(Z1 k.toNat its).flatten.toArray:=by
  have:=Df its k.toNat []
  rw [dG] at this
  exact this
 refine wpAny_binaryOp_repeat_ref (T:="tuple") (U:="int") (by decide) ⟨_,e,rfl⟩ (λs'=>typeIs_int s' k t) CZ F.fills_int_mul iF H8 F.slot_int_index.lookup
  (cQ iF (typeIs_int s k t) F.entry_int_rmul (F.args_int_rmul_2 _ _) (Lp k t l its.toArray n dd sl)
    ⟨e,rfl,⟨_,e,rfl⟩,?_⟩)
 have lay:∀ ys us,Vals ys us->ys.length<=Zx->(∀ p,H p=YY->Q (.ref p) (upd H p (.tup ys)))->∃ v H',Inv X lh σ H' {s with heap:=s.heap.push {cls:=bK "tuple",data:=Data.seq us.toArray},toks:=s.toks}/\RelV v (aA s.heap.objs.size)/\Q v H':=by
  intro ys us ru hy qq
  refine ⟨.ref s.heap.objs.size,_,I.laid (t':=s.toks) (o:=.tup ys) (λb ob q=>Zk _ q) (Ze _) ?_,rfl,qq _ (I.hok.fresh (Ze _))⟩
  exact ⟨hy,_,ru,IsTup.new _ _⟩
 by_cases k1:k=1
 ·subst k1
  exact cQ F.slot_tuple_mul ⟨_,e,rfl⟩ F.entry_tuple_mul (F.args_tuple_mul_2 _ _) (Km t l its.toArray n dd sl) ⟨e,.ref l,H,I,rfl,q1 rfl⟩
 ·have q2:=q2 k1
  by_cases k0:k<=0
  ·have e0:k.toNat=0:=by omega
   rw [e0] at q2
   exact cQ F.slot_tuple_mul ⟨_,e,rfl⟩ F.entry_tuple_mul (F.args_tuple_mul_2 _ _) (Lr k t l its.toArray n dd sl h1 k0 hie) ⟨e,lay [] [] .nil (aY _) q2⟩
  ·have lq:(Z1 k.toNat xs).flatten.length<=Zx:=by rw [HD,dO];exact hz
   refine cQ F.slot_tuple_mul ⟨_,e,rfl⟩ F.entry_tuple_mul (F.args_tuple_mul_2 _ _) (Kv k t l its.toArray n dd sl h2 (by omega) hie (by rw [Zl,<- hl];exact hz) (by rw [f0,Zl,HD,dO,<- hl];exact hz)) ⟨e,?_⟩
   rw [f0]
   exact lay _ _ (r.rep k.toNat) lq q2
theorem SA:Gc SU J9 true:=by
 intro H₀ Hs H l m x y d v u Q s0 s1 e rx ry q
 unfold J9 at e
 split at e
 ·rename_i xs k
  split at e
  ·rename_i hz
   simp only [Zn,decide_eq_true_eq] at hz
   obtain ⟨⟨⟨f1,hz⟩,hk⟩,hne⟩:=hz
   cases e
   obtain ⟨pa,vs,rfl,ha,ra⟩:=rx
   cases (show u= .int k from ry)
   have l1:=ra.length
   have hb:big < 2 ^ 63:=by decide
   refine ⟨pa,k,vs,rfl,rfl,ha,λz=>?_,by omega,by omega,by rw [l1];exact iy hz,λk1=>?_,λ_ p hp=>?_⟩
   ·subst z;rw [<- l1] at hne;exact absurd hne (by decide)
   ·subst k1
    have:(Z1 (1:Int).toNat xs).flatten=xs:=by show (Z1 1 xs).flatten=xs;simp
    rw [this] at q
    exact q _ H (Same.refl H) ⟨pa,vs,rfl,ha,ra.nl f1⟩
   ·exact q _ _ (qp hp _) ⟨p,_,rfl,.inl qr,((ra.nl f1).rep _).same (qp hp _)⟩
  ·cases e
 ·cases e
theorem Oj(ha:PE X a (tF XO fa))(hb:PE X b (tF XO fb)):PE X (.BinOp a .Mult b pos) (tF XO (BY fa fb)):=K5 Sy SA ha hb
end
mutual
theorem Tu{P:PP}{H:Hp}:∀ (d:YX) (v:V),KN.kD d=true->Rep P H d v->NR H d v
 | .int _,_,_,h=>h
 | .str _,_,_,h=>h
 | .tuple ds,_,k,⟨a,vs,e,h,r⟩=>⟨a,vs,e,h,nrs_of ds vs (by simpa [KN.kD] using k) r⟩
 | .none,_,k,_=>by simp [KN.kD] at k
 | .bool _,_,k,_=>by simp [KN.kD] at k
 | .list _,_,k,_=>by simp [KN.kD] at k
 | .dict _,_,k,_=>by simp [KN.kD] at k
theorem nrs_of{P:PP}{H:Hp}:∀ (ds:List YX) (vs:List V),KN.kDs ds=true->Reps P H ds vs->NRs H ds vs
 | [],_,_,h=>h
 | d::ds,_,k,⟨v,r,e,h,t⟩=>by
  have k':KN.kD d=true/\KN.kDs ds=true:=by simpa [KN.kDs] using k
  exact ⟨v,r,e,Tu d v k'.1 h,nrs_of ds r k'.2 t⟩
end
mutual
theorem Q4{P:Z8}{w:ZN}{H:Hp}{h:ZM}(ok:HOk P w H h):∀ (d:YX) (v:V) (u:YZ),NR H d v->RelV v u->KN.NH h d u
 | .int i,_,_,e,r=>by cases (show _=_ from e);exact r
 | .str i,_,_,e,r=>by cases (show _=_ from e);exact r
 | .tuple ds,_,_,⟨a,vs,e,hh,t⟩,r=>by
  subst e;cases r
  obtain ⟨_,its,rs,o,h1,h2,n,h3⟩:=(Rd.ok (u:=.tup vs) hh ok)
  exact ⟨a,o,its.toArray,n,rfl,h1,h2,h3,by simpa using nhs_of ok ds vs its t rs⟩
 | .none,_,_,e,_=>e.elim
 | .bool _,_,_,e,_=>e.elim
 | .list _,_,_,e,_=>e.elim
 | .dict _,_,_,e,_=>e.elim
theorem nhs_of{P:Z8}{w:ZN}{H:Hp}{h:ZM}(ok:HOk P w H h):∀ (ds:List YX) (vs:List V) (us:List YZ),NRs H ds vs->Vals vs us->KN.NHs h ds us
 | [],_,_,e,r=>by cases (show _=_ from e);cases r;rfl
 | d::ds,_,_,⟨v,t,e,h1,h2⟩,r=>by
  subst e
  cases r with
  | cons r1 r2=>exact ⟨_,_,rfl,Q4 ok d v _ h1 r1,nhs_of ok ds t _ h2 r2⟩
end
theorem Mh{d:YX}(h:CQ d=true):KN.isK d:=by
 cases d with
 | tuple ds=>
  simp only [CQ,Zn,decide_eq_true_eq] at h
  exact ⟨⟨ds,rfl⟩,h.1,h.2⟩
 | _=>simp [CQ] at h
theorem QB{d:YX}(h:Ub d=true):∃ i,d= .int i:=by
 cases d with
 | int i=>exact ⟨i,rfl⟩
 | _=>simp [Ub] at h
theorem RB{x y:YX}(hx:KN.isK x)(hy:KN.isK y):Zm x y=decide (x=y):=by
 have:=KN.kD_eqv x y hx.2.1 hy.2.1
 by_cases q:x=y
 ·rw [decide_eq_true q];exact this.mpr q
 ·rw [decide_eq_false q]
  cases z:Zm x y with
  | true=>exact absurd (this.mp z) q
  | false=>rfl
theorem Ld{k:YX}(hk:KN.isK k):∀ (xs:List (YX×Zh×YZ)),(∀ x∈xs,KN.isK x.1)->(atKey xs k).isSome=Bn (xs.map (·.1)) k
 | [],_=>rfl
 | x::xs,h=>by
  have ih:=Ld hk xs λy hy=>h y (Z5 _ hy)
  have e:=RB (h x (Zz ..)) hk
  unfold Bn atKey at ih ⊢
  rw [ZC,fU,e,dF]
  by_cases q:x.1=k
  ·simp [q]
  ·simp only [q,decide_false,gY]
   exact ih
theorem GW(i:Int):∀ is:List Int,(DI (is.map λi=>((.inl i:i4),V.bl true)) (.inl i)).isSome=Bn (is.map .int) (.int i)
 | []=>rfl
 | j::is=>by
  have ih:=GW i is
  unfold Bn at ih ⊢
  rw [ZC,ZC,fU]
  by_cases q:j=i
  ·rw [BJ (by rw [q])]
   simp [Zm,q]
  ·rw [BX (by intro z;exact q (iW.inj z)),ih]
   simp [Zm,q]
section
variable{X:Cx}{lh:List (Zh×bX)}{σ:L2.St}{H:Hp}{s:Zd}{a:Zh}{y:V}{u r:YZ}{A:aC}{E:YZ->Zd->Prop}{ks:List YX}{d:YX}{P:PP}
theorem SQ(I:Inv X lh σ H s)(hd:DR H ks a)(hk:ks.all CQ=true):ks.length<=Zx/\(a == cD)=false/\∃ xs:List (YX×Zh×YZ),xs.map (·.1)=ks/\(∀ x∈xs,KN.isK x.1/\NR H x.1 (.ref x.2.1))/\s.heap.DictOfH (KN.nestKind X.prog X.w) a xs:=by
 rcases hd with ⟨is,e,h⟩ | ⟨n,h⟩
 ·have e0:is=[]:=by
    cases is with
    | nil=>rfl
    | cons i is=>subst e;simp [CQ] at hk
  subst e0 e
  obtain ⟨z,hs,vs,rel,dd⟩:=P5 I.hok h
  cases rel
  obtain ⟨o,es,ep,h1,h2,h3,h4,h5,h6⟩:=dd
  refine ⟨z,hs,[],rfl,λx hx=>(nomatch hx),o,es,ep,h1,h2,h3,?_,λx hx=>(nomatch hx),iU⟩
  generalize es.toList=es' at h5
  cases h5
  rfl
 ·obtain ⟨z,hs,xs,r1,r2,o,es,ep,h1,h2,h3,h4,h5⟩:=(show ObjOk X.prog X.w H s.heap a (.dN ks) from I.hok a _ h)
  exact ⟨z,hs,xs,r1,r2,o,es,ep,h1,h2,h3,h4,λx hx=>⟨(r2 x hx).1,Q4 I.hok _ _ _ (r2 x hx).2 rfl⟩,h5⟩
theorem Tq(I:Inv X lh σ H s)(hd:DR H ks a)(hk:ks.all Ub=true):∃ is:List Int,ks=is.map .int/\H a=YW (.dK (is.map λi=>(.inl i,.bl true))):=by
 rcases hd with h | ⟨n,h⟩
 ·exact h
 ·obtain ⟨z,hs,xs,r1,r2,_⟩:=(show ObjOk X.prog X.w H s.heap a (.dN ks) from I.hok a _ h)
  cases xs with
  | nil=>exact absurd r1.symm n
  | cons x xs=>
   obtain ⟨ds,e⟩:=(r2 x (Zz ..)).1.1
   subst r1
   rw [ZC,List.all_cons,e] at hk
   simp [Ub] at hk
theorem MI(I:Inv X lh σ H s)(hk:CQ d=true)(r:Rep P H d y)(ry:RelV y u):∃ b,y= .ref b/\u= .ref b/\NR H d (.ref b)/\(KN.nestKind X.prog X.w).is s.heap d b:=by
 have k:=Mh hk
 obtain ⟨⟨ds,rfl⟩,k1,k2⟩:=k
 have nr:=Tu _ _ k1 r
 obtain ⟨b,vs,rfl,_⟩:=r
 cases (show u= .ref b from ry)
 exact ⟨b,rfl,rfl,nr,Mh hk,Q4 I.hok _ _ _ nr rfl⟩
theorem Wu(hu:A.units+64 < eD)(neg:Bool)(I:Inv X lh σ H s)(hd:DR H ks a)(hk:Bp ks d=true)(r:Rep P H d y)(ry:RelV y u){Q:YZ->Zd->Prop}
  (h:∀ s',Inv X lh σ H s'->Q (.bool (if neg then !(Bn ks d) else Bn ks d)) s'):Z0 (ZD X.prog X.w) A (aL (if neg then .NotIn else .In) u (.ref a)) Q E s:=by
 unfold Bp at hk
 rw [dH,Zn,Zn] at hk
 rcases hk with ⟨h1,h2⟩ | ⟨h1,h2⟩
 ·obtain ⟨i,rfl⟩:=QB h1
  obtain ⟨is,e,hH⟩:=Tq I hd h2
  cases (show y= .int i from r)
  have g:=DGet.k (k:=.inl i) hH
  have v:=GW i is
  rw [<- e] at v
  rw [<- v] at h
  cases neg with
  | true=>exact Rc (by omega) I g ry h
  | false=>exact Yo (by omega) I g ry h
 ·obtain ⟨b,rfl,rfl,nr,kis⟩:=MI I h1 r ry
  obtain ⟨z,hs,xs,e,hx,dd⟩:=SQ I hd h2
  have v:=Ld kis.1 xs λx hx'=>(hx x hx').1
  rw [e] at v
  rw [<- v] at h
  have room:(KN.nestKind X.prog X.w).room A.in1:=show A.units+1+8 < eD by omega
  cases neg with
  | true=>exact wpAny_notIn_heap room kis hs dd (h _ (I.tok _))
  | false=>exact wpAny_in_heap room kis hs dd (h _ (I.tok _))
theorem Wb(hu:A.units+64 < eD)(I:Inv X lh σ H s)(hd:DR H ks a)(hk:Bp ks d=true)(hn:Bn ks d=false)(hl:ks.length < big)(rp:Rep P H d y)(ry:RelV y u)(rv:RelV (.bl true) r){Q:Unit->Zd->Prop}
  (h:∀ (o:OwV) s',DR (upd H a o.ho) (ks++[d]) a->Inv X lh σ (upd H a o.ho) s'->Q () s'):Z0 (ZD X.prog X.w) A (setItem (.ref a) u r) Q E s:=by
 have hlz:ks.length < Zx:=Zt hl B1
 unfold Bp at hk
 rw [dH,Zn,Zn] at hk
 rcases hk with ⟨h1,h2⟩ | ⟨h1,h2⟩
 ·obtain ⟨i,rfl⟩:=QB h1
  obtain ⟨is,e,hH⟩:=Tq I hd h2
  cases (show y= .int i from rp)
  have v:=GW i is
  rw [<- e,hn] at v
  have e2:wb (is.map λi=>((.inl i:i4),V.bl true)) (.inl i) (.bl true)=(is++[i]).map λi=>((.inl i:i4),V.bl true):=by
   unfold wb
   rw [Fm,v]
   simp
  have g:=DPut.k (k:=.inl i) (v:=.bl true) hH (by rw [Z9];rw [e,Z9] at hlz;exact hlz)
  rw [e2] at g
  refine MX (by omega) I g ry rv λs' I'=>h (.k _) s' (.inl ⟨is++[i],by simp [e],qr⟩) I'
 ·obtain ⟨b,rfl,rfl,nr,kis⟩:=MI I h1 rp ry
  obtain ⟨z,hs,xs,e,hx,dd⟩:=SQ I hd h2
  have v:=Ld kis.1 xs λx hx'=>(hx x hx').1
  rw [e,hn] at v
  have vn:atKey xs d=YY:=by
   cases q:atKey xs d with
   | none=>rfl
   | some p=>rw [q] at v;cases v
  have room:(KN.nestKind X.prog X.w).room A.in1:=show A.units+1+8 < eD by omega
  have hz:xs.length<=Zx:=by rw [<- e,Z9] at z;exact z
  refine wpAny_setItem_heap (hsz:=hz) room kis dd λh' dd' hsb=>h (.n (ks++[d])) _ (.inr ⟨by simp,qr⟩) ?_
  rw [storedH_new vn] at dd'
  obtain ⟨q,es,ep,hq,q2,q3,q4,_,q5⟩:=dd'
  obtain ⟨ow,how⟩:=hd.ow
  have ht:∀ c ys,H c=YW (.tup ys)->upd H a (.dN (ks++[d])) c=YW (.tup ys):=λc ys ec=>by
   rw [qb]
   ·exact ec
   ·intro z;subst z;rw [how] at ec;cases ow<;>cases ec
  have hf:∀ c ob u,H c=YW (.frz ob u)->upd H a (.dN (ks++[d])) c=YW (.frz ob u):=λc ob u ec=>by
   rw [qb]
   ·exact ec
   ·intro z;subst z;rw [how] at ec;cases ow<;>cases ec
  refine GV I (by rw [how];cases ow<;>exact eK) hsb ⟨q,hq⟩ ⟨by simp;assumption,hs,xs++[(d,b,r)],by simp [e],λx hx'=>?_,q,es,ep,hq,q2,q3,q4,q5⟩
  rcases aO.mp hx' with m | m
  ·exact ⟨(hx x m).1,NR.mono ht hf _ _ (hx x m).2⟩
  ·have:x=(d,b,r):=by simpa using m
   subst this
   exact ⟨kis.1,NR.mono ht hf _ _ nr⟩
end
section
variable{X:Cx}{XO:F7}{cv:Cfg}{pos:eE}{H₀ F H:Hp}{ρ:f9}{σ:L2.St}
theorem SR.newOwn{i:Nat}{t:Slot}{p:Zh}{o1:OwV}(g:SR cv H₀ F ρ σ H)(hi':eV i cv.n=true)(hp:H p=YY)(ht:∀ O:Fd,O p=YW i->SS cv H₀ O (YW (YW (.ref p))) i (upd H p o1.ho) t):
  SR cv H₀ F (ρ.set i (YW t)) (σ.set i (YW (.ref p))) (upd H p o1.ho):=by
 obtain ⟨O,o⟩:=g.ex
 have hi:i < σ.length:=by rw [g.ln];exact dX.mp hi'
 have hρ:i < ρ.length:=by rw [g.len];exact dX.mp hi'
 have sm:Same H (upd H p o1.ho):=qp hp _
 have hO:∀ a,H a≠YY->(if a=p then YW i else O a)=O a:=λa n=>by
  rw [qz]
  intro z;subst z;exact n hp
 refine ⟨g.s0,g.s1.trans sm,by simp [g.len],by simp [g.ln],λa=>if a=p then YW i else O a,λa j q=>?_,λa j q=>?_,λj t' e=>?_⟩
 ·by_cases z:a=p
  ·subst z;exact g.s1.free hp
  ·rw [qz z] at q;exact o.fr a j q
 ·by_cases z:a=p
  ·subst z;exact ⟨o1,qr⟩
  ·rw [qz z] at q;obtain ⟨vs,q'⟩:=o.ls a j q;exact ⟨vs,sm _ _ q'⟩
 ·by_cases hij:i=j
  ·subst hij
   rw [q9 _ _ _ _ hρ,jn rfl] at e
   cases e
   rw [q9 _ _ _ _ hi,jn rfl]
   exact ht _ (jn rfl)
  ·rw [q9 _ _ _ _ hρ,qz hij] at e
   rw [q9 _ _ _ _ hi,qz hij]
   have q:=o.sl j t' e
   have old:∀ {P P':PP},(∀ z a,H a≠YY->P z a->P' z a)->∀ a vs,Rl P H a vs->Rl P' (upd H p o1.ho) a vs:=λ{P P'} hP a vs r=>by
    rcases r with ⟨p,e⟩ | ⟨p,u,e⟩
    ·exact .inl ⟨hP _ _ (ou e) p,sm _ _ e⟩
    ·exact .inr ⟨hP _ _ (ou e) p,u,sm _ _ e⟩
   cases t' with
   | par d=>obtain ⟨w,e,r⟩:=q;exact ⟨w,e,Rep.mono (λa vs e=>Rd.same sm e) (old λz a n p=>(hO a n).trans p) d w r⟩
   | loc d=>obtain ⟨w,e,r⟩:=q;exact ⟨w,e,Rep.mono (λa vs e=>Rd.same sm e) (old λz a n p=>⟨p.1,(hO a n).trans p.2.1,p.2.2⟩) d w r⟩
   | own ds=>
    obtain ⟨p,vs,e,q,h,rs⟩:=q
    exact ⟨p,vs,e,(hO p (ou h)).trans q,sm _ _ h,rs.same sm⟩
   | own2 ds=>
    obtain ⟨p,vs,e,q,h,rs⟩:=q
    exact ⟨p,vs,e,(hO p (ou h)).trans q,sm _ _ h,Reps.mono (λa vs e=>Rd.same sm e) (old λz a n p=>⟨p.1,(hO a n).trans p.2.1,p.2.2⟩) ds vs rs⟩
   | lent ds=>obtain ⟨ws,e1,hq,hqp,rs⟩:=q;exact ⟨ws,e1,(hO _ (ou hqp)).trans hq,sm _ _ hqp,rs.same sm⟩
   | dct ks=>
    obtain ⟨a,e,q,h⟩:=q
    obtain ⟨_,hw⟩:=h.ow
    exact ⟨a,e,(hO a (ou hw)).trans q,h.same sm⟩
   | ex c=>obtain ⟨a,e,x⟩:=q;exact ⟨a,e,x.same sm⟩
theorem Uv(i:Nat){x:Z3}{pos' dpos:eE}(hN:X.N.Nodup)(hi:X.N[i]? =YW x:=by rfl)(hx:Oi X.env.scope x:=by first | exact ZZ rfl | exact ZE rfl)
  (hs:cB (.Dict [] [] dpos) (YW (.Name x pos')) pos.line X.env=pure false:=by rfl) (hf:X.fn x=true∨X.env.scope.names.lookup x=YW .local:=by first | exact .inl rfl | exact .inr rfl | assumption)
  (hin:eV i cv.n=true:=by rfl):PS X (.Assign [.Name x pos'] (.Dict [] [] dpos) pos) (tS cv XO (LG i)):=by
 intro lh s σ H D I ⟨H₀,F,ρ,r,g,e',k⟩
 refine Fl hN hi hx Qp hs hf lh s σ H D I ?_
 cases e'
 exact λp hp=>k _ _ (g.newOwn (o1:=.k []) hin hp λO hO=>⟨p,rfl,hO,.inl ⟨[],rfl,qr⟩⟩)
theorem Uk(i:Nat){x:Z3}{xp pos' cp:eE}{e:ZY}{f:FE}{j:Nat}(C:BC X)(h:PE X e (tF ⟨cv.cv,XO⟩ f))(hN:X.N[i]? =YW x:=by rfl)(hv:DS X.env.scope x:=by first | exact ZZ rfl | exact ZE (ZZ rfl) | exact ZE (ZE rfl))
  (hd:(x == ("__debug__":Z3))=false:=by decide) (hcd:(x == ("__classdict__":Z3))=false:=by decide)
  (hs:cB (.Constant (.bool true) j cp) (YW (.Subscript (.Name x xp) e pos')) pos.line X.env=pure false:=by rfl):
  PS X (.Assign [.Subscript (.Name x xp) e pos'] (.Constant (.bool true) j cp) pos) (tS cv XO (I9 i f)):=by
 intro lh s σ H D I ⟨H₀,F,ρ,r,g,e',k⟩
 unfold I9 at e'
 split at e'
 ·rename_i ks hρ
  obtain ⟨O,o⟩:=g.ex
  obtain ⟨p,hσ,hO,hD⟩:=o.sl i _ hρ
  have q:=bp (Q:=λv H1=>∀ (s':Zd) (u r:YZ),Inv X lh σ H1 s'->RelV v u->RelV (.bl true) r->Z0 (ZD X.prog X.w) X.A (setItem (.ref p) u r) (λ_=>SP X lh D .next) X.xe s') g e' k λl d v H1 s1 r1 e1=>by
   split at e1
   ·rename_i hc
    cases e1
    rw [Zn,Zn] at hc
    obtain ⟨⟨c1,c2⟩,c3⟩:=hc
    intro s' u r I' ru rr
    have o1:SO cv H₀ F ρ σ H1 O:=⟨o.fr,λa i e=>let ⟨vs,q⟩:=o.ls a i e;⟨vs,s1 _ _ q⟩,λi t e=>(o.sl i t e).same s1⟩
    obtain ⟨ow,how⟩:=(hD.same s1).ow
    refine Wb C.hu I' (hD.same s1) c1 (by simpa using c2) (of_decide_eq_true c3) r1 ru rr λo' s2 dr I2=>?_
    exact ⟨σ,_,I2,k _ _ ((g.same s1).changeG o1 (Zi.mp hρ).1 hO how ⟨p,hσ,hO,dr⟩)⟩
   ·cases e1
  refine wpAny_Assign_Subscript (bj (Tt lh s σ H (λv H1=>v= .bl true/\H1=H) I ⟨rfl,rfl⟩) λrv s1 ⟨v,H1,I1,rrv,ev,eH⟩=>?_) hs
  subst ev eH
  refine bj (vo (i:=i) hN hv hd hcd lh s1 σ H1 (λv H2=>v= .ref p/\H2=H1) I1 ⟨_,hσ,rfl,rfl⟩) λu s2 ⟨x,H2,I2,rx,ex,eH⟩=>?_
  subst ex eH
  obtain rfl:u=aA p:=rx
  exact bj (h lh s2 σ H2 _ I2 q) λiv s3 ⟨y,H3,I3,ry,q3⟩=>q3 s3 iv rv I3 ry rrv
 ·cases e'
end
section
variable{X:Cx}{XO:XOT}{pos:eE}
noncomputable def VD(neg:Bool):R2:=λy x H Q=>∃ (ks:List YX) (d:YX) (a:Zh) (P:PP),x= .ref a/\DR H ks a/\Bp ks d=true/\Rep P H d y/\Q (.bl (if neg then !(Bn ks d) else Bn ks d)) H
theorem Uo(C:BC X)(neg:Bool):OpR X (aL (if neg then .NotIn else .In)) (VD neg):=by
 intro lh s σ H x y v u Q I rx ry h
 obtain ⟨ks,d,a,P,rfl,hd,hk,rp,q⟩:=h
 obtain rfl:u=aA a:=ry
 exact Wu C.hu neg I hd hk rp rx λs' I'=>⟨.bl _,_,I',rfl,q⟩
theorem PB{fa:FE}{neg:Bool}{i:Nat}{σ:L2.St}{H:Hp}{Q:VK}(h:tF XO (Ow neg fa i) σ H Q):UU (VD neg) (tF XO fa) (Qr i) σ H Q:=by
 obtain ⟨H₀,Hs,ρ,rr,g,e,kk⟩:=h
 refine g9 g e kk λl x v H1 s1 g1 r1 e1 k1=>?_
 split at e1
 ·rename_i ks hρ
  split at e1
  ·rename_i hk
   obtain ⟨a,hσ,hD⟩:=g1.vr i _ hρ
   exact ⟨.ref a,hσ,ks,x,a,_,rfl,hD,hk,r1,k1.give e1 (Same.refl _) rfl⟩
  ·cases e1
 ·cases e1
end
section
variable{X:Cx}{XO:XOT}{pos:eE}
theorem SE(C:BC X){a:ZY}{fa:FE}(i:Nat){x:Z3}{xp:eE}(ha:PE X a (tF XO fa))(hN:X.N[i]? =YW x:=by rfl)(hv:DS X.env.scope x:=by first | exact ZZ rfl | exact ZE (ZZ rfl) | exact ZE (ZE rfl))
  (hd:(x == ("__debug__":Z3))=false:=by decide) (hcd:(x == ("__classdict__":Z3))=false:=by decide):PT X (.Compare a [.In] [.Name x xp] pos) (ku (tF XO (Ow false fa i))):=
 PT.imp (MD (Uo C false) ha (vo (i:=i) hN hv hd hcd) rfl) λ_ _ _ h=>PB h
end
section
variable{X:Cx}{XO:XOT}{pos p:eE}
theorem F9{prog:Z8}{w:ZN}{d:Zh}(hd:(d == cD)=false):
  MeetsIn prog w (aT.«dict.__len__» ⟨[.ref d],[]⟩) (λ_ R s=>∃ o es ep,s.heap.get? d=YW o/\o.data= .dict es ep/\R (.ok (.ret (.int es.size s.toks))) {s with toks:=s.toks+1}):=
 .of_wp λA R s ⟨o,es,ep,ho,hdat,h⟩=>by
  show Z0 _ _ (dictSize d >>= _) _ _ s
  unfold dictSize
  refine Zc (Zc (wpAny_dictEntries ho hdat (Zr ?_)))
  show Z0 _ _ (aT.Dict.pendingCount d >>= _) _ _ s
  refine Zc (wpAny_pendingCount_other hd ?_)
  refine wpAny_ret_mkInt ?_
  rw [Nat.add_zero];exact h
theorem Ci{prog:Z8}{w:ZN}{A:aC}{E:YZ->Zd->Prop}{s:Zd}{d:Zh}{o:bX}{es:Array DictEntry}{ep:Nat}{Q:YZ->Zd->Prop}(hd:(d == cD)=false)(ho:s.heap.get? d=YW o)(hc:o.ExactDict)(hdat:o.data= .dict es ep)(hfit:(es.size:Int) < 2 ^ 63)
  (h:Q (.int es.size (s.toks+1)) {s with toks:=s.toks+1+1}):Z0 (ZD prog w) A (call (.builtin "len") [.ref d]) Q E s:=by
 have ty:s.TypeIs (.ref d) "dict":=⟨o,ho,hc.1⟩
 refine Calls.call_function_entry kind_len plain_len entry_len (args_len1 _) ?_
 unfold aT.«len»
 refine Zc (m:=oneArg "len" _) (Zr ?_)
 refine Zc (m:=callSpecial? (.ref d) (fK "__len__")) (bG (name:=fK "__len__") ty PySem.F.slot_dict_len
  (call_meetsIn PySem.F.slot_dict_len ty PySem.F.entry_dict_len (PySem.F.args_dict_len_1 _) (F9 hd) ⟨o,es,ep,ho,hdat,?_⟩))
 show Z0 _ _ _ _ _ {s with toks:=s.toks+1}
 refine Zc (dU (Zr ?_))
 refine Zc (wpAny_letGo ?_)
 show Z0 _ _ (if ((es.size:Nat):Int) < 0 then _ else _) _ _ _
 rw [qz (by omega)]
 show Z0 _ _ (if ((es.size:Nat):Int)≥2 ^ 63 then _ else _) _ _ _
 rw [qz (by omega)]
 exact Zc (wpAny_mkInt (Zr ⟨_,rfl,h⟩))
noncomputable def Xj:List V->Hp->VK->Prop:=λxs H Q=>∃ a ks,xs=[V.ref a]/\DR H ks a/\Q (.int ks.length) H
theorem NI:CallR X (.builtin "len") Xj:=by
 intro lh s σ H xs us Q I r h
 obtain ⟨a,ks,rfl,hd,q⟩:=h
 obtain ⟨u,rfl,ru⟩:=Bq r
 cases ru
 have hz:(Zx:Nat) < 2 ^ 63:=by decide
 rcases hd with ⟨is,e,hH⟩ | ⟨n,hH⟩
 ·obtain ⟨z,hs,vs,rel,o,es,ep,h1,h2,h3,h4,h5,h6⟩:=P5 I.hok hH
  have hl:es.size=ks.length:=by
   have a1:=h5.length
   have a2:=rel.length
   simp only [Z9] at a2
   rw [e,Z9,a2,<- a1]
   simp
  refine Ci hs h1 h2 h3 (by rw [hl,e,Z9];rw [Z9] at z;omega) ?_
  rw [hl]
  exact ⟨.int ks.length,H,I.tok _,⟨_,rfl⟩,q⟩
 ·obtain ⟨z,hs,xs,r1,r2,o,es,ep,h1,h2,h3,h4,h5⟩:=(show ObjOk X.prog X.w H s.heap a (.dN ks) from I.hok a _ hH)
  have hl:es.size=ks.length:=by rw [size_of_entries h4,<- r1,Z9]
  refine Ci hs h1 h2 h3 (by rw [hl];omega) ?_
  rw [hl]
  exact ⟨.int ks.length,H,I.tok _,⟨_,rfl⟩,q⟩
theorem UM(C:BC X)(i:Nat){x:Z3}{xp:eE}(hN:X.N[i]? =YW x:=by rfl)(hv:DS X.env.scope x:=by first | exact ZZ rfl | exact ZE (ZZ rfl) | exact ZE (ZE rfl))(hd:(x == ("__debug__":Z3))=false:=by decide)(hcd:(x == ("__classdict__":Z3))=false:=by decide)
  (hg:Gl X "len":=by rfl) (he:Zf [.Name x xp] X.env=(false,bB (.Name x xp) X.env)::Zf [] X.env:=by exact jf rfl) (hpl:(aF pos (Zf [] X.env)).any (·.1)=false:=by exact ym rfl):PE X (.Call (.Name "len" p) [.Name x xp] [] pos) (tF XO (IT i)):=
 PE.imp (BH NI hg C.mlen PySem.boot_len (wy (vo (i:=i) hN hv hd hcd) xo he) (by decide) (by decide) he hpl) λσ H Q h=>by
  obtain ⟨H₀,Hs,ρ,rr,g,e,k⟩:=h
  unfold IT at e
  split at e
  ·rename_i ks hρ
   obtain ⟨a,hσ,hD⟩:=g.vr i _ hρ
   exact ⟨.ref a,hσ,a,ks,rfl,hD,k.give e (Same.refl _) rfl⟩
  ·cases e
end
end KT
namespace KT
open PySem
noncomputable def vp:Nat->Bool:=λ_=>true
noncomputable def va:Nat->Bool:=λ_=>true
noncomputable def gn:Nat->Bool:=λc=>c == 4
noncomputable def uw:Nat->Bool:=λc=>c == 5
noncomputable def w8:Nat:=216
noncomputable def wu:Nat:=223
noncomputable def De:FS:=(zr (zv [z9 (z9 (za 0) (eC (.int 1))) (eC (.int 0)),zv [z9 (za 0) (eC (.int 0)),z9 (z9 (za 0) (eC (.int 1))) (eC (.int 1))]]))
noncomputable def mn:FS:=(zr (zv [z9 (z9 (za 0) (eC (.int 0))) (eC (.int 0)),zv [z9 (z9 (za 0) (eC (.int 0))) (eC (.int 1)),z9 (za 0) (eC (.int 1))]]))
noncomputable def v8:FS:=(zd (qm (qx (z9 (za 0) (eC (.int 0))) (eC (.str "right"))) (zr (zv [eC (.str "right"),za 0])) zl) (zd (zo 1 (z9 (za 0) (eC (.int 1)))) (zr (Ag (qx (z9 (za 1) (eC (.int 0))) (eC (.str "left"))) (za 1) (zv [eC (.str "right"),zv [eC (.str "left"),z9 (za 1) (eC (.int 1))]])))))
noncomputable def du:FS:=(zd (qm (za 0) (zr (zv [z9 (za 1) (eC (.int 1)),z9 (za 1) (eC (.int 0))])) zl) (zr (zv [Ag (qx (z9 (za 1) (eC (.int 0))) (eC (.str "left"))) (eC (.str "right")) (eC (.str "left")),z9 (za 1) (eC (.int 1))])))
noncomputable def tv(g_crossed:FC)(g_grouped_pair:FC)(g_grouped_side:FC)(g_swapped:FC):FS:=(zd (zo 3 (qx (z9 (za 1) (eC (.int 0))) (eC (.str "both")))) (zd (qm (qx (za 0) (eC (.str "swap"))) (zr (zg g_swapped [za 3,za 2])) zl) (zd (qm (qx (za 0) (eC (.str "group"))) (zr (Ag (za 3) (zg g_grouped_pair [za 2]) (zg g_grouped_side [za 2]))) zl) (zd (qm (qx (za 0) (eC (.str "spread"))) (zr (zg g_crossed [za 2])) zl) (zr (z9 (za 2) (eC (.int 1))))))))
noncomputable def di:FS:=(zr (zv [zv [z9 (za 0) (eC (.int 0)),z9 (z9 (za 0) (eC (.int 1))) (eC (.int 0))],z9 (z9 (za 0) (eC (.int 1))) (eC (.int 1))]))
noncomputable def yx:FS:=(zd (qm (qx (z9 (za 0) (eC (.int 0))) (eC (.str "left"))) (zr (zv [eC (.str "left"),za 0])) zl) (zd (zo 1 (z9 (za 0) (eC (.int 1)))) (zr (Ag (qx (z9 (za 1) (eC (.int 0))) (eC (.str "right"))) (za 1) (zv [eC (.str "left"),zv [eC (.str "right"),z9 (za 1) (eC (.int 1))]])))))
noncomputable def AD(g_crossed:FC)(g_ungrouped_pair:FC)(g_ungrouped_side:FC)(g_swapped:FC):FS:=(zd (zo 3 (qx (z9 (za 1) (eC (.int 0))) (eC (.str "both")))) (zd (qm (qx (za 0) (eC (.str "swap"))) (zr (zg g_swapped [za 3,za 2])) zl) (zd (qm (qx (za 0) (eC (.str "group"))) (zr (Ag (za 3) (zg g_ungrouped_pair [za 2]) (zg g_ungrouped_side [za 2]))) zl) (zd (qm (qx (za 0) (eC (.str "spread"))) (zr (zg g_crossed [za 2])) zl) (zr (Ag (za 3) (zv [zv [],za 2]) (zv [eC (.str "right"),za 2])))))))
noncomputable def m9:FS:=(zd (zo 3 (qv [za 2])) (zd (zo 4 (za 2)) (zd (CN 1 (f7 5 6) (zd (qm (qx (z9 (z9 (za 0) (za 5)) (eC (.int 0))) (eC (.str "both"))) (zo 4 (z9 (za 4) (za 6))) (qm (qx (z9 (za 4) (eC (.int 0))) (z9 (eC (.tuple [.str "left",.str "right"])) (za 6))) (zo 4 (z9 (za 4) (eC (.int 1)))) (zr (za 3)))) (yz 3 (za 4)))) (zr (za 3)))))
noncomputable def B4(g_forth_here:FC)(g_back_here:FC)(g_things_along:FC):FS:=(zd (zo 4 (z9 (za 1) (eC (.int 1)))) (zd (zo 5 (zg g_things_along [za 0,za 4,za 2])) (zd (qm (pq (jr (za 5)) (jr (za 0))) (zr (za 2)) zl) (zd (zo 6 (EG 3 [(w8,g_forth_here),(wu,g_back_here)] [z9 (za 1) (eC (.int 0)),z9 (za 0) (i8 (eC (.int 1))),z9 (za 5) (i8 (eC (.int 1)))])) (zd (bz (i0 (u4 (jr (za 4)) (eC (.int 1)))) (z8 7) (zd (zo 8 (z9 (za 5) (za 7))) (zd (zo 9 (yv (qx (z9 (z9 (za 0) (za 7)) (eC (.int 0))) (eC (.str "both"))) (qx (z9 (za 4) (za 7)) (eC (.int 0))))) (zo 6 (Ag (za 9) (zv [za 6,z9 (za 8) (eC (.int 1))]) (zv [z9 (za 8) (eC (.int 0)),za 6])))))) (zr (za 6)))))))
noncomputable def b9:FS:=(zd (zo 2 (z9 (za 1) (eC (.int 0)))) (zd (zo 3 (z9 (za 1) (eC (.int 1)))) (zd (zo 4 (z9 (za 1) (eC (.int 2)))) (zd (qm (qx (za 0) (eC (.str "swap"))) (zr (zv [za 2,za 4,za 3])) zl) (zd (qm (qx (za 0) (eC (.str "group"))) (zr (zv [za 2,z9 (za 3) (eC (.int 1)),zv [za 2,z9 (za 3) (eC (.int 2)),za 4]])) zl) (zd (qm (qx (za 0) (eC (.str "spread"))) (zr (zv [eC (.str "either"),zv [eC (.str "both"),za 3,z9 (za 4) (eC (.int 1))],zv [eC (.str "both"),za 3,z9 (za 4) (eC (.int 2))]])) zl) (zr (Ag (yv (qx (za 2) (eC (.str "both"))) (qx (z9 (za 3) (eC (.int 0))) (eC (.str "none")))) (za 3) (za 4)))))))))
noncomputable def Dh(g_kind_here:FC):FS:=(zd (zo 2 (z9 (za 1) (eC (.int 1)))) (zd (zo 3 (zg g_kind_here [z9 (za 1) (eC (.int 0)),z9 (za 0) (i8 (eC (.int 1)))])) (zd (bz (i0 (u4 (jr (za 2)) (eC (.int 1)))) (z8 4) (zd (zo 5 (z9 (za 0) (za 4))) (zo 3 (Ag (qx (z9 (za 2) (za 4)) (eC (.int 0))) (zv [z9 (za 5) (eC (.int 0)),za 3,z9 (za 5) (eC (.int 2))]) (zv [z9 (za 5) (eC (.int 0)),z9 (za 5) (eC (.int 1)),za 3]))))) (zr (za 3)))))
noncomputable def He:FS:=(zd (zo 2 (z9 (za 1) (eC (.int 0)))) (zd (qm (yf (za 2) (zv [eC (.str "either"),eC (.str "both")])) (zr (eC (.bool false))) zl) (zd (zo 3 (z9 (z9 (za 1) (eC (.int 1))) (eC (.int 0)))) (zd (qm (qx (za 0) (eC (.str "swap"))) (zr (eC (.bool true))) zl) (zd (qm (qx (za 0) (eC (.str "group"))) (zr (qx (za 3) (za 2))) zl) (zd (qm (qx (za 0) (eC (.str "spread"))) (zr (yv (qx (za 2) (eC (.str "both"))) (qx (z9 (z9 (za 1) (eC (.int 2))) (eC (.int 0))) (eC (.str "either"))))) zl) (zr (yv (qx (za 0) (eC (.str "drop"))) (o7 (qx (za 3) (eC (.str "none"))) (yv (qx (za 2) (eC (.str "both"))) (qx (za 3) (eC (.str "one")))))))))))))
noncomputable def o5:FS:=(zd (zo 2 (qv [za 0])) (zd (zo 3 (za 0)) (zd (vf 1 (z8 4) (zd (qm (o7 (yf (z9 (za 3) (eC (.int 0))) (zv [eC (.str "either"),eC (.str "both")])) (yf (za 4) (zv [eC (.int 0),eC (.int 1)]))) (Aj 2) zl) (zd (zo 3 (z9 (za 3) (qt (eC (.int 1)) (za 4)))) (yz 2 (za 3))))) (zr (za 2)))))
noncomputable def fk(g_goes:FC)(g_parts_along:FC):FS:=(zd (zo 2 (zg g_parts_along [za 0,z9 (za 1) (eC (.int 1))])) (zd (qm (Aw (zg g_goes [z9 (za 1) (eC (.int 0)),z9 (za 2) (i8 (eC (.int 1)))])) (Aj 2) zl) (zr (za 2))))
noncomputable def CO(g_thing_by:FC)(g_kind_by:FC)(g_parts_to_turn:FC):FS:=(zd (zo 3 (qv [])) (zd (zo 4 (za 0)) (zd (vf 1 (z8 5) (zd (zo 6 (zg g_parts_to_turn [za 4,za 5])) (zd (my 3 6) (zo 4 (zg g_kind_by [za 6,za 5]))))) (zd (zo 7 (za 2)) (zd (bz (i0 (u4 (jr (za 1)) (eC (.int 1)))) (z8 8) (zo 7 (zg g_thing_by [z9 (za 3) (za 8),z9 (za 1) (za 8),za 7,eC (Mr wu)]))) (zr (za 7)))))))
noncomputable def ph:FS:=(zd (qm (qx (jr (za 0)) (eC (.int 0))) (zd (jv 3 (zv [eC (.str "drop"),za 2])) (ua 3 (D7 (za 1)))) zl) (zd (qm (qx (jr (za 1)) (eC (.int 0))) (zd (jv 3 (zv [eC (.str "swap"),za 2])) (zd (jv 3 (zv [eC (.str "drop"),za 2])) (ua 3 (D7 (za 0))))) zl) (zd (zo 4 (qv [])) (zd (zo 5 (D7 (za 0))) (zd (zo 6 (D7 (za 1))) (zd (zo 7 (za 2)) (zd (Bu (o7 (FA (jr (za 5)) (eC (.int 1))) (P8 (z9 (za 6) (eC (.int 0))) (z9 (za 5) (eC (.int 0))))) (qm (P8 (z9 (za 6) (eC (.int 0))) (z9 (za 5) (eC (.int 0)))) (zd (jv 3 (zv [eC (.str "swap"),za 7])) (zd (BN 8 5) (zd (BN 5 6) (BN 6 8)))) (zd (jv 3 (zv [eC (.str "group"),za 7])) (zd (BW 4 5) (zo 7 (qt (za 7) (zv [eC (.int 1)]))))))) (ua 3 (qt (qt (za 4) (za 5)) (za 6))))))))))
noncomputable def p5(g_merged:FR)(g_in_line:FR):FS:=(zd (qm (E7 .tuple (za 0)) (ua 2 (qv [za 0])) zl) (zd (qm (qx (za 0) (qv [])) (ua 2 (qv [])) zl) (zd (kg 3 g_in_line [.x 0 0,.f (qt (za 1) (zv [eC (.int 0)]))] 2) (zd (kg 4 g_in_line [.x 0 1,.f (qt (za 1) (zv [eC (.int 1)]))] 2) (ir g_merged [.n 3,.n 4,.n 1] 2)))))
noncomputable def ag(g_is_barren:FC):FS:=(zd (zo 1 (z9 (za 0) (eC (.int 0)))) (zd (qm (qx (za 1) (eC (.str "either"))) (zr (yv (zg g_is_barren [z9 (za 0) (eC (.int 1))]) (zg g_is_barren [z9 (za 0) (eC (.int 2))]))) zl) (zd (qm (qx (za 1) (eC (.str "both"))) (zr (o7 (zg g_is_barren [z9 (za 0) (eC (.int 1))]) (zg g_is_barren [z9 (za 0) (eC (.int 2))]))) zl) (zr (qx (za 1) (eC (.str "none")))))))
noncomputable def fu(g_is_barren:FC)(g_tree_of:FR):FS:=(zd (qm (zg g_is_barren [z9 (za 0) (eC (.int 1))]) (AG g_tree_of [.f (z9 (za 0) (eC (.int 1))),.f (qt (za 1) (zv [eC (.int 0)]))] 2) (zd (AG g_tree_of [.f (z9 (za 0) (eC (.int 2))),.f (qt (za 1) (zv [eC (.int 1)]))] 2) (jv 2 (zv [eC (.str "swap"),za 1])))) (zd (jv 2 (zv [eC (.str "drop"),za 1])) (ua 2 (qv []))))
noncomputable def kz(g_both_of_trees:FR):FS:=(zd (qm (qx (za 0) (zv [])) (zd (jv 3 (zv [eC (.str "drop"),za 2])) (Ao 3 1)) zl) (zd (jv 3 (zv [eC (.str "spread"),za 2])) (zd (kg 4 g_both_of_trees [.n 0,.x 1 0,.f (qt (za 2) (zv [eC (.int 0)]))] 3) (zd (kg 5 g_both_of_trees [.n 0,.x 1 1,.f (qt (za 2) (zv [eC (.int 1)]))] 3) (Gf 3 4 5)))))
noncomputable def we(g_merged:FR)(g_spread_tree:FR):FS:=(zd (qm (E7 .list (za 0)) (zd (jv 3 (zv [eC (.str "swap"),za 2])) (ir g_spread_tree [.n 1,.n 0,.n 2] 3)) zl) (zd (qm (E7 .list (za 1)) (ir g_spread_tree [.n 0,.n 1,.n 2] 3) zl) (H9 g_merged [.n 0,.n 1,.n 2] 3)))
noncomputable def yi(g_merged:FR)(g_factors_in_line:FR):FS:=(zd (qm (An (z9 (za 0) (eC (.int 0))) (eC (.str "both"))) (ua 2 (qv [za 0])) zl) (zd (kg 3 g_factors_in_line [.f (z9 (za 0) (eC (.int 1))),.f (qt (za 1) (zv [eC (.int 0)]))] 2) (zd (kg 4 g_factors_in_line [.f (z9 (za 0) (eC (.int 2))),.f (qt (za 1) (zv [eC (.int 1)]))] 2) (ir g_merged [.n 3,.n 4,.n 1] 2))))
noncomputable def uq(g_both_of_trees:FR)(g_tree_of:FR)(g_factors_in_line:FR):FS:=(zd (kg 3 g_factors_in_line [.n 0,.n 1] 2) (zd (zo 4 (u4 (jr (za 3)) (eC (.int 1)))) (zd (kg 5 g_tree_of [.f (z9 (za 3) (za 4)),.f (qt (za 1) (BY (zv [eC (.int 1)]) (za 4)))] 2) (zd (bz (i0 (u4 (za 4) (eC (.int 1)))) (z8 6) (zd (zo 7 (qt (za 1) (BY (zv [eC (.int 1)]) (za 6)))) (zd (kg 8 g_tree_of [.f (z9 (za 3) (za 6)),.f (qt (za 7) (zv [eC (.int 0)]))] 2) (kg 5 g_both_of_trees [.n 8,.n 5,.n 7] 2)))) (Ao 2 5)))))
noncomputable def w4(g_tree_of:FR)(g_is_barren:FC)(g_barren_tree:FR)(g_product_tree:FR):FS:=(zd (zo 3 (z9 (za 0) (eC (.int 0)))) (zd (qm (qx (za 3) (eC (.str "none"))) (ua 2 (qv [])) zl) (zd (qm (qx (za 3) (eC (.str "one"))) (ua 2 (zv [])) zl) (zd (qm (qx (za 3) (eC (.str "name"))) (ua 2 (zv [z9 (za 0) (eC (.int 1))])) zl) (zd (qm (qx (za 3) (eC (.str "both"))) (qm (zg g_is_barren [za 0]) (ir g_barren_tree [.n 0,.n 1] 2) (ir g_product_tree [.n 0,.n 1] 2)) zl) (zd (kg 4 g_tree_of [.f (z9 (za 0) (eC (.int 1))),.f (qt (za 1) (zv [eC (.int 0)]))] 2) (zd (kg 5 g_tree_of [.f (z9 (za 0) (eC (.int 2))),.f (qt (za 1) (zv [eC (.int 1)]))] 2) (zd (qm (qx (za 4) (qv [])) (zd (jv 2 (zv [eC (.str "drop"),za 1])) (Ao 2 5)) zl) (zd (qm (qx (za 5) (qv [])) (zd (jv 2 (zv [eC (.str "swap"),za 1])) (zd (jv 2 (zv [eC (.str "drop"),za 1])) (Ao 2 4))) zl) (Gf 2 4 5))))))))))
noncomputable def cu(g_in_line:FR)(g_tree_of:FR):FS:=(zd (zo 1 (qv [])) (zd (kg 2 g_tree_of [.n 0,.f (zv [])] 1) (zd (AG g_in_line [.n 2,.f (zv [])] 1) (zr (za 1)))))
noncomputable def CI(g_kind_by:FC)(g_thing_by:FC)(g_parts_to_turn:FC):FS:=(zd (zo 3 (za 0)) (zd (zo 4 (za 2)) (zd (vf 1 (z8 5) (zd (zo 6 (zg g_parts_to_turn [za 3,za 5])) (zd (zo 4 (zg g_thing_by [za 6,za 5,za 4,eC (Mr w8)])) (zo 3 (zg g_kind_by [za 6,za 5]))))) (zr (za 4)))))
noncomputable def uk(g_gathered:FC)(g_is_barren:FC):FS:=(zd (zo 1 (z9 (za 0) (eC (.int 0)))) (zd (qm (qx (za 1) (eC (.str "none"))) (zr (qv [])) zl) (zd (qm (qx (za 1) (eC (.str "one"))) (zr (qv [zv []])) zl) (zd (qm (qx (za 1) (eC (.str "name"))) (zr (qv [zv [z9 (za 0) (eC (.int 1))]])) zl) (zd (qm (qx (za 1) (eC (.str "either"))) (zr (qt (zg g_gathered [z9 (za 0) (eC (.int 1))]) (zg g_gathered [z9 (za 0) (eC (.int 2))]))) zl) (zd (qm (zg g_is_barren [za 0]) (zr (qv [])) zl) (zd (zo 2 (zg g_gathered [z9 (za 0) (eC (.int 1))])) (zd (zo 3 (zg g_gathered [z9 (za 0) (eC (.int 2))])) (zd (zo 4 (qv [])) (zd (vf 2 (z8 5) (ug 4 (ro (mz (za 3)) [5] (sr (fe (qt (za 1) (za 0))))))) (zr (za 4))))))))))))
noncomputable def CF(g_gathered:FC):FS:=(zr (fe (zg g_gathered [za 0])))
noncomputable def Ft(g_brought:FC)(g_row_to_plain:FC)(g_carried:FC)(g_bundles:FC):FS:=(zd (qm (An (zg g_bundles [za 0]) (zg g_bundles [za 1])) (Aj 5) zl) (zr (zg g_brought [za 1,zg g_row_to_plain [za 1],zg g_carried [za 0,zg g_row_to_plain [za 0],za 2]])))
noncomputable def ky(g_law_things:FC):FS:=(zd (qm (qx (jr (za 0)) (eC (.int 1))) (zr (kf (qv [zv []]) (r8 (qx (z9 (za 0) (eC (.int 0))) (eC (.str "one")))))) zl) (zd (qm (qx (jr (za 0)) (eC (.int 2))) (zr (EF (z9 (za 1) (z9 (za 0) (eC (.int 1)))))) zl) (zd (zo 2 (zg g_law_things [z9 (za 0) (eC (.int 1)),za 1])) (zd (zo 3 (zg g_law_things [z9 (za 0) (eC (.int 2)),za 1])) (zd (zo 4 (qv [])) (zd (qm (qx (z9 (za 0) (eC (.int 0))) (eC (.str "either"))) (zd (ug 4 (ro (mz (za 2)) [] (zv [eC (.str "left"),za 0]))) (zd (ug 4 (ro (mz (za 3)) [] (zv [eC (.str "right"),za 0]))) (zr (za 4)))) zl) (zd (vf 2 (z8 5) (ug 4 (ro (mz (za 3)) [5] (zv [za 1,za 0])))) (zr (za 4)))))))))
noncomputable def xa(g_law_bundles:FC):FS:=(zd (qm (qx (jr (za 0)) (eC (.int 1))) (zr (kf (qv [zv []]) (r8 (qx (z9 (za 0) (eC (.int 0))) (eC (.str "one")))))) zl) (zd (qm (qx (jr (za 0)) (eC (.int 2))) (zr (qv [zv [z9 (za 0) (eC (.int 1))]])) zl) (zd (zo 1 (zg g_law_bundles [z9 (za 0) (eC (.int 1))])) (zd (zo 2 (zg g_law_bundles [z9 (za 0) (eC (.int 2))])) (zd (qm (qx (z9 (za 0) (eC (.int 0))) (eC (.str "either"))) (zr (fe (qt (za 1) (za 2)))) zl) (zd (zo 3 (qv [])) (zd (vf 1 (z8 4) (vf 2 (z8 5) (yz 3 (sr (fe (qt (za 4) (za 5))))))) (zr (fe (za 3))))))))))
noncomputable def o4(g_sent:FC):FS:=(zd (PD (oo (zg g_sent [za 0,za 1,za 2])) vp 3 (zr (yv (NY 3 uw) (yv (NY 3 va) (Aw (NY 3 gn)))))) (zr (eC (.bool false))))
noncomputable def aj(g_law_count:FC):FS:=(zd (qm (qx (jr (za 0)) (eC (.int 1))) (zr (r8 (qx (z9 (za 0) (eC (.int 0))) (eC (.str "one"))))) zl) (zd (qm (qx (jr (za 0)) (eC (.int 2))) (zr (z9 (za 1) (z9 (za 0) (eC (.int 1))))) zl) (zd (qm (qx (z9 (za 0) (eC (.int 0))) (eC (.str "either"))) (zr (qt (zg g_law_count [z9 (za 0) (eC (.int 1)),za 1]) (zg g_law_count [z9 (za 0) (eC (.int 2)),za 1]))) zl) (zr (kf (zg g_law_count [z9 (za 0) (eC (.int 1)),za 1]) (zg g_law_count [z9 (za 0) (eC (.int 2)),za 1]))))))
noncomputable def Ey:FS:=(zd (zo 3 (v9 (qt (qt (v9 (za 0) (eC (.int 2147483629))) (eC (.int 1))) (kf (za 1) (eC (.int 1000003)))) (eC (.int 2147483647)))) (zd (zo 3 (v9 (kf (v9 (kf (za 3) (za 3)) (eC (.int 2147483647))) (eC (.int 48271))) (eC (.int 2147483629)))) (zd (zo 3 (v9 (kf (v9 (kf (za 3) (za 3)) (eC (.int 2147483629))) (eC (.int 40692))) (eC (.int 2147483399)))) (zr (v9 (ni (za 3) (eC (.int 97))) (za 2))))))
noncomputable def Du(g_law_draw:FC):FS:=(zr (sr (ro (Ra (eC (.int 4))) [0,1] (zg g_law_draw [za 1,qt (eC (.int 900)) (za 0),qt (za 2) (eC (.int 1))]))))
noncomputable def Er:FS:=(zd (zo 1 (eC (.int 0))) (zd (bz (mz (qv [eC (.int 48271),eC (.int 69621),eC (.int 39373),eC (.int 44488)])) (z8 2) (zd (zo 3 (v9 (qt (kf (za 0) (za 2)) (eC (.int 7919))) (eC (.int 2147483647)))) (zd (zo 3 (v9 (kf (v9 (kf (za 3) (za 3)) (eC (.int 2147483647))) (eC (.int 40692))) (eC (.int 2147483399)))) (zo 1 (qt (kf (za 1) (QK (eC (.int 10)) (eC (.int 9)))) (ni (za 3) (eC (.int 7)))))))) (zr (za 1))))
noncomputable def BD(g_law_stir:FC):FS:=(zd (qm (pq (za 1) (jr (za 0))) (zr (zg g_law_stir [z9 (za 0) (za 1)])) zl) (zr (zg g_law_stir [eC (.int 0)])))
noncomputable def gy(g_law_leafed:FC)(g_law_draw:FC):FS:=(zd (qm (pq (jr (za 0)) (eC (.int 3))) (zd (qm (qx (zg g_law_draw [za 1,za 2,eC (.int 6)]) (eC (.int 0))) (zr (z9 (qv [zv [eC (.str "one")],zv [eC (.str "name"),zg g_law_draw [za 1,qt (za 2) (eC (.int 1)),eC (.int 4)]]]) (zg g_law_draw [za 1,qt (za 2) (eC (.int 2)),eC (.int 2)]))) zl) (zr (za 0))) zl) (zr (zv [z9 (za 0) (eC (.int 0)),zg g_law_leafed [z9 (za 0) (eC (.int 1)),za 1,kf (eC (.int 2)) (za 2)],zg g_law_leafed [z9 (za 0) (eC (.int 2)),za 1,qt (kf (eC (.int 2)) (za 2)) (eC (.int 1))]])))
noncomputable def BA:FS:=(zd (vf 1 (z8 2) (zo 0 (z9 (za 0) (qt (eC (.int 1)) (za 2))))) (zr (za 0)))
noncomputable def AE(g_law_part:FC):FS:=(zd (zo 1 (qv [])) (zd (zo 2 (qv [zv []])) (zd (Bu (An (za 2) (qv [])) (zd (Np 3 2) (zd (yz 1 (za 3)) (qm (qx (jr (zg g_law_part [za 0,za 3])) (eC (.int 3))) (ug 2 (qv [qt (za 3) (zv [eC (.int 1)]),qt (za 3) (zv [eC (.int 0)])])) zl)))) (zr (za 1)))))
noncomputable def mi(g_law_put:FC):FS:=(zd (qm (qx (za 1) (zv [])) (zr (za 2)) zl) (zd (zo 3 (zg g_law_put [z9 (za 0) (qt (eC (.int 1)) (z9 (za 1) (eC (.int 0)))),Tz (za 1) (BQ (eC (.int 1))) D5,za 2])) (zd (qm (qx (z9 (za 1) (eC (.int 0))) (eC (.int 0))) (zr (zv [z9 (za 0) (eC (.int 0)),za 3,z9 (za 0) (eC (.int 2))])) zl) (zr (zv [z9 (za 0) (eC (.int 0)),z9 (za 0) (eC (.int 1)),za 3])))))
noncomputable def bx:FS:=(zd (qm (pq (jr (za 0)) (eC (.int 3))) (zr (eC .none)) zl) (zd (zo 2 (z9 (za 0) (eC (.int 1)))) (zd (zo 3 (z9 (za 0) (eC (.int 2)))) (zd (qm (qx (za 1) (eC (.str "swap"))) (zr (zv [z9 (za 0) (eC (.int 0)),za 3,za 2])) zl) (zd (qm (yv (qx (za 1) (eC (.str "group"))) (qx (z9 (za 2) (eC (.int 0))) (z9 (za 0) (eC (.int 0))))) (zr (zv [z9 (za 0) (eC (.int 0)),z9 (za 2) (eC (.int 1)),zv [z9 (za 0) (eC (.int 0)),z9 (za 2) (eC (.int 2)),za 3]])) zl) (zd (qm (yv (qx (za 1) (eC (.str "spread"))) (yv (qx (z9 (za 0) (eC (.int 0))) (eC (.str "both"))) (qx (z9 (za 3) (eC (.int 0))) (eC (.str "either"))))) (zr (zv [eC (.str "either"),zv [eC (.str "both"),za 2,z9 (za 3) (eC (.int 1))],zv [eC (.str "both"),za 2,z9 (za 3) (eC (.int 2))]])) zl) (zd (qm (yv (qx (za 1) (eC (.str "drop"))) (yv (qx (z9 (za 0) (eC (.int 0))) (eC (.str "both"))) (qx (z9 (za 2) (eC (.int 0))) (eC (.str "none"))))) (zr (zv [eC (.str "none")])) zl) (zd (qm (yv (qx (za 1) (eC (.str "drop"))) (Kj (zv [z9 (za 0) (eC (.int 0)),z9 (za 2) (eC (.int 0))]) (zv [zv [eC (.str "both"),eC (.str "one")],zv [eC (.str "either"),eC (.str "none")]]))) (zr (za 3)) zl) (zr (eC .none))))))))))
noncomputable def cx(g_law_put:FC)(g_law_here:FC)(g_law_part:FC)(g_law_paths:FC):FS:=(zd (qm (yf (za 2) (zg g_law_paths [za 0])) (zr (eC .none)) zl) (zd (zo 3 (zg g_law_here [zg g_law_part [za 0,za 2],za 1])) (zd (qm (Sn (za 3) (eC .none)) (zr (eC .none)) zl) (zr (zg g_law_put [za 0,za 2,za 3])))))
noncomputable def b8(g_law_here:FC)(g_law_part:FC)(g_law_paths:FC):FS:=(zd (zo 1 (qv [])) (zd (bz (mz (zg g_law_paths [za 0])) (z8 2) (bz (mz (qv [eC (.str "swap"),eC (.str "group"),eC (.str "spread"),eC (.str "drop")])) (z8 3) (qm (JR (zg g_law_here [zg g_law_part [za 0,za 2],za 3]) (eC .none)) (yz 1 (zv [za 3,za 2])) zl))) (zr (za 1))))
noncomputable def AK(g_law_paths:FC)(g_law_turned:FC)(g_law_cell:FC)(g_law_all_turnings:FC):FS:=(zd (bz (Ra (v9 (zg g_law_cell [za 0,za 1]) (eC (.int 9)))) (z8 3) (zd (zo 4 (zg g_law_all_turnings [za 2])) (qm (yv (An (za 4) (qv [])) (pq (jr (zg g_law_paths [za 2])) (eC (.int 14)))) (zd (Cm (f7 5 6) (z9 (za 4) (v9 (zg g_law_cell [za 0,qt (qt (za 1) (eC (.int 1))) (za 3)]) (jr (za 4))))) (zo 2 (zg g_law_turned [za 2,za 5,za 6]))) zl))) (zr (za 2)))
noncomputable def dz(g_law_kind:FC)(g_law_draw:FC):FS:=(zd (qm (pq (za 1) (eC (.int 2))) (zd (zo 3 (zg g_law_draw [za 0,kf (eC (.int 5)) (za 2),eC (.int 12)])) (zd (qm (qx (za 3) (eC (.int 0))) (zr (zv [eC (.str "none")])) zl) (zd (qm (pq (za 3) (eC (.int 3))) (zr (zv [eC (.str "one")])) zl) (zr (zv [eC (.str "name"),v9 (za 3) (eC (.int 4))]))))) zl) (zd (zo 4 (qt (eC (.int 1)) (zg g_law_draw [za 0,qt (kf (eC (.int 5)) (za 2)) (eC (.int 1)),u4 (za 1) (eC (.int 1))]))) (zd (zo 5 (z9 (qv [eC (.str "either"),eC (.str "both")]) (zg g_law_draw [za 0,qt (kf (eC (.int 5)) (za 2)) (eC (.int 2)),eC (.int 2)]))) (zr (zv [za 5,zg g_law_kind [za 0,za 4,kf (eC (.int 2)) (za 2)],zg g_law_kind [za 0,u4 (za 1) (za 4),qt (kf (eC (.int 2)) (za 2)) (eC (.int 1))]])))))
noncomputable def Mi(g_sent:FC)(g_law_things:FC)(g_law_bundles:FC)(g_law_refused:FC)(g_law_count:FC)(g_law_sizes:FC)(g_law_cell:FC)(g_law_leafed:FC)(g_law_other:FC)(g_law_kind:FC):FS:=(zd (zo 1 (zg g_law_kind [zg g_law_cell [za 0,eC (.int 0)],qt (eC (.int 1)) (v9 (zg g_law_cell [za 0,eC (.int 1)]) (eC (.int 4))),eC (.int 1)])) (zd (zo 2 (zg g_law_other [za 0,eC (.int 2),za 1])) (zd (qm (qx (v9 (ni (zg g_law_cell [za 0,eC (.int 1)]) (eC (.int 4))) (eC (.int 3))) (eC (.int 1))) (zo 2 (zg g_law_leafed [za 2,zg g_law_cell [za 0,eC (.int 12)],eC (.int 1)])) zl) (zd (zo 3 (zg g_law_sizes [zg g_law_cell [za 0,eC (.int 13)],eC (.int 3)])) (zd (qm (FA (zg g_law_count [za 1,za 3]) (eC (.int 10))) (zo 3 (zg g_law_sizes [zg g_law_cell [za 0,eC (.int 13)],eC (.int 1)])) zl) (zd (zo 4 (Tz (zg g_law_things [za 1,za 3]) D5 (BQ (eC (.int 10))))) (zd (qm (An (zg g_law_bundles [za 1]) (zg g_law_bundles [za 2])) (zr (o7 (qx (za 4) (qv [])) (zg g_law_refused [za 1,za 2,z9 (za 4) (eC (.int 0))]))) zl) (zd (zo 5 (zg g_law_things [za 2,za 3])) (zd (LG 6) (zd (vf 4 (z8 7) (zd (zo 8 (zg g_sent [za 1,za 2,za 7])) (zd (qm (o7 (yf (za 8) (za 5)) (o7 (Ow false (za 8) 6) (An (zg g_sent [za 2,za 1,za 8]) (za 7)))) (zr (eC (.bool false))) zl) (I9 6 (za 8))))) (zr (o7 (qx (jr (za 4)) (eC (.int 10))) (qx (IT 6) (jr (za 5)))))))))))))))
noncomputable def xi:Nat->FC
 | 0=>λ_=>YY
 | n+1=>z7 1 (De)
noncomputable def vy:Nat->FC
 | 0=>λ_=>YY
 | n+1=>z7 1 (mn)
noncomputable def yh:Nat->FC
 | 0=>λ_=>YY
 | n+1=>z7 2 (v8)
noncomputable def vq:Nat->FC
 | 0=>λ_=>YY
 | n+1=>z7 2 (du)
noncomputable def yj:Nat->FC
 | 0=>λ_=>YY
 | n+1=>z7 4 (tv (xi n) (vy n) (yh n) (vq n))
noncomputable def yy:Nat->FC
 | 0=>λ_=>YY
 | n+1=>z7 1 (di)
noncomputable def wj:Nat->FC
 | 0=>λ_=>YY
 | n+1=>z7 2 (yx)
noncomputable def vb:Nat->FC
 | 0=>λ_=>YY
 | n+1=>z7 4 (AD (xi n) (yy n) (wj n) (vq n))
noncomputable def vc:Nat->FC
 | 0=>λ_=>YY
 | n+1=>z7 7 (m9)
noncomputable def wc:Nat->FC
 | 0=>λ_=>YY
 | n+1=>z7 10 (B4 (yj n) (vb n) (vc n))
noncomputable def gq:Nat->FC
 | 0=>λ_=>YY
 | n+1=>z7 5 (b9)
noncomputable def vk:Nat->FC
 | 0=>λ_=>YY
 | n+1=>z7 6 (Dh (gq n))
noncomputable def CY:Nat->FC
 | 0=>λ_=>YY
 | n+1=>z7 4 (He)
noncomputable def fv:Nat->FC
 | 0=>λ_=>YY
 | n+1=>z7 5 (o5)
noncomputable def jb:Nat->FC
 | 0=>λ_=>YY
 | n+1=>z7 3 (fk (CY n) (fv n))
noncomputable def af:Nat->FC
 | 0=>λ_=>YY
 | n+1=>z7 9 (CO (wc n) (vk n) (jb n))
noncomputable def ye:Nat->FR
 | 0=>λ_ _=>YY
 | n+1=>jk 9 (ph)
noncomputable def xj:Nat->FR
 | 0=>λ_ _=>YY
 | n+1=>jk 5 (p5 (ye n) (xj n))
noncomputable def je:Nat->FC
 | 0=>λ_=>YY
 | n+1=>z7 2 (ag (je n))
mutual
noncomputable def jz:Nat->FR
 | 0=>λ_ _=>YY
 | n+1=>jk 6 (kz (qo n))
noncomputable def qo:Nat->FR
 | 0=>λ_ _=>YY
 | n+1=>jk 4 (we (ye n) (jz n))
end
noncomputable def jh:Nat->FR
 | 0=>λ_ _=>YY
 | n+1=>jk 5 (yi (ye n) (jh n))
mutual
noncomputable def fy:Nat->FR
 | 0=>λ_ _=>YY
 | n+1=>jk 3 (fu (je n) (wk n))
noncomputable def xk:Nat->FR
 | 0=>λ_ _=>YY
 | n+1=>jk 9 (uq (qo n) (wk n) (jh n))
noncomputable def wk:Nat->FR
 | 0=>λ_ _=>YY
 | n+1=>jk 6 (w4 (wk n) (je n) (fy n) (xk n))
end
noncomputable def w6:Nat->FC
 | 0=>λ_=>YY
 | n+1=>z7 3 (cu (xj n) (wk n))
noncomputable def u6:Nat->FC
 | 0=>λ_=>YY
 | n+1=>z7 7 (CI (vk n) (wc n) (jb n))
noncomputable def j6:Nat->FC
 | 0=>λ_=>YY
 | n+1=>z7 6 (uk (j6 n) (je n))
noncomputable def u9:Nat->FC
 | 0=>λ_=>YY
 | n+1=>z7 1 (CF (j6 n))
noncomputable def xb:Nat->FC
 | 0=>λ_=>YY
 | n+1=>z7 3 (Ft (af n) (w6 n) (u6 n) (u9 n))
noncomputable def ja:Nat->FC
 | 0=>λ_=>YY
 | n+1=>z7 6 (ky (ja n))
noncomputable def qf:Nat->FC
 | 0=>λ_=>YY
 | n+1=>z7 6 (xa (qf n))
noncomputable def wd:Nat->FC
 | 0=>λ_=>YY
 | n+1=>z7 4 (o4 (xb n))
noncomputable def j3:Nat->FC
 | 0=>λ_=>YY
 | n+1=>z7 2 (aj (j3 n))
noncomputable def xc:Nat->FC
 | 0=>λ_=>YY
 | n+1=>z7 4 (Ey)
noncomputable def yc:Nat->FC
 | 0=>λ_=>YY
 | n+1=>z7 2 (Du (xc n))
noncomputable def dn:Nat->FC
 | 0=>λ_=>YY
 | n+1=>z7 4 (Er)
noncomputable def qi:Nat->FC
 | 0=>λ_=>YY
 | n+1=>z7 2 (BD (dn n))
noncomputable def w9:Nat->FC
 | 0=>λ_=>YY
 | n+1=>z7 3 (gy (w9 n) (xc n))
noncomputable def wo:Nat->FC
 | 0=>λ_=>YY
 | n+1=>z7 3 (BA)
noncomputable def jm:Nat->FC
 | 0=>λ_=>YY
 | n+1=>z7 4 (AE (wo n))
noncomputable def fx:Nat->FC
 | 0=>λ_=>YY
 | n+1=>z7 4 (mi (fx n))
noncomputable def vz:Nat->FC
 | 0=>λ_=>YY
 | n+1=>z7 4 (bx)
noncomputable def yn:Nat->FC
 | 0=>λ_=>YY
 | n+1=>z7 4 (cx (fx n) (vz n) (wo n) (jm n))
noncomputable def jl:Nat->FC
 | 0=>λ_=>YY
 | n+1=>z7 4 (b8 (vz n) (wo n) (jm n))
noncomputable def ve:Nat->FC
 | 0=>λ_=>YY
 | n+1=>z7 7 (AK (jm n) (yn n) (qi n) (jl n))
noncomputable def j5:Nat->FC
 | 0=>λ_=>YY
 | n+1=>z7 6 (dz (j5 n) (xc n))
noncomputable def Gj:Nat->FC
 | 0=>λ_=>YY
 | n+1=>z7 9 (Mi (xb n) (ja n) (qf n) (wd n) (j3 n) (yc n) (qi n) (w9 n) (ve n) (j5 n))
end KT
namespace KT
open PySem PySem.Spec PyProof.Rows L2
set_option maxHeartbeats 0
seal L2.PS L2.PSs L2.PE L2.PT L2.PW L2.PA L2.PI L2.PO
noncomputable def de(i:Nat):aG:=PySem.Challenge.pw_kindturn_k13_whole_sent.main.body.getD i (.Pass ⟨0,0,0,0⟩)
section
variable{P:Z8}{w:ZN}{K:Zb}{mg:Z3->Option YZ}{base:ZM}{cv:Nat->YZ}{n:Nat}{f:Zh}{fd:fR}
abbrev sy:aG:=de 33
theorem Kw:FnScope ["thing"] ["thing"] (zx sy):=⟨rfl,rfl,rfl,by decide +kernel,rfl,by decide +kernel,by decide +kernel⟩
theorem Ko(M:MF mg)(F:Fun K "crossed" "crossed" sy f fd):FnOk P w K mg base (ji P w) (n+1) f fd ["thing"] (iw cv 1 (xi (n+1))):=
 jc M F Kw λcdv A lj s H E B=>
  (zu (qh (qg (zc (qd (qd (zb 0) zf) zf) (zc (qg (zc (qd (zb 0) zf) (zc (qd (qd (zb 0) zf) zf) zi))) zi)))))
abbrev bo:aG:=de 34
theorem DO:FnScope ["thing"] ["thing"] (zx bo):=⟨rfl,rfl,rfl,by decide +kernel,rfl,by decide +kernel,by decide +kernel⟩
theorem DJ(M:MF mg)(F:Fun K "grouped_pair" "grouped_pair" bo f fd):FnOk P w K mg base (ji P w) (n+1) f fd ["thing"] (iw cv 1 (vy (n+1))):=
 jc M F DO λcdv A lj s H E B=>
  (zu (qh (qg (zc (qd (qd (zb 0) zf) zf) (zc (qg (zc (qd (qd (zb 0) zf) zf) (zc (qd (zb 0) zf) zi))) zi)))))
abbrev bh:aG:=de 36
theorem DG:FnScope ["thing","inner"] ["thing"] (zx bh):=⟨rfl,rfl,rfl,by decide +kernel,rfl,by decide +kernel,by decide +kernel⟩
theorem DD(M:MF mg)(F:Fun K "grouped_side" "grouped_side" bh f fd):FnOk P w K mg base (ji P w) (n+1) f fd ["thing"] (iw cv 1 (yh (n+1))):=
 jc M F DG λcdv A lj s H E B=>
  (by (refine ze (j4 (yb B.C (qd (zb 0) zf) qc) (zu (qh (qg (zc qc (zc (zb 0) zi))))) qw) ?_);(refine ze (qj 1 B.nd (qd (zb 0) zf)) ?_);exact zu (qh (C4 (yb B.C (qd (zb 1) zf) qc) (zb 1) (qg (zc qc (zc (qg (zc qc (zc (qd (zb 1) zf) zi))) zi))))))
abbrev tx:aG:=de 32
theorem K2:FnScope ["is_both","thing"] ["is_both","thing"] (zx tx):=⟨rfl,rfl,rfl,by decide +kernel,rfl,by decide +kernel,by decide +kernel⟩
theorem L4(M:MF mg)(F:Fun K "swapped" "swapped" tx f fd):FnOk P w K mg base (ji P w) (n+1) f fd ["is_both","thing"] (iw cv 2 (vq (n+1))):=
 jc M F K2 λcdv A lj s H E B=>
  (by (refine ze (j4 (Aq (zb 0)) (zu (qh (qg (zc (qd (zb 1) zf) (zc (qd (zb 1) zf) zi))))) qw) ?_);exact zu (qh (qg (zc (C4 (yb B.C (qd (zb 1) zf) qc) qc qc) (zc (qd (zb 1) zf) zi)))))
abbrev eu:aG:=de 30
theorem F6:FnScope ["word","found","thing","is_both"] ["word","found","thing"] (zx eu):=⟨rfl,rfl,rfl,by decide +kernel,rfl,by decide +kernel,by decide +kernel⟩
theorem F4(M:MF mg)(F:Fun K "forth_here" "forth_here" eu f fd)(F_crossed:FnF (ji P w) P w K mg base cv n "crossed" 1 (xi n))(F_grouped_pair:FnF (ji P w) P w K mg base cv n "grouped_pair" 1 (vy n))(F_grouped_side:FnF (ji P w) P w K mg base cv n "grouped_side" 1 (yh n))(F_swapped:FnF (ji P w) P w K mg base cv n "swapped" 2 (vq n)):FnOk P w K mg base (ji P w) (n+1) f fd ["word","found","thing"] (iw cv 3 (yj (n+1))):=
 jc M F F6 λcdv A lj s H E B=>
  (by (refine ze (qj 3 B.nd (Au B.C (qd (zb 1) zf) qc)) ?_);(refine ze (j4 (yb B.C (zb 0) qc) (zu (qh (zy F_swapped B.hr B.L (zc (zb 3) (zc (zb 2) zi))))) qw) ?_);(refine ze (j4 (yb B.C (zb 0) qc) (zu (qh (C4 (Aq (zb 3)) (zy F_grouped_pair B.hr B.L (zc (zb 2) zi)) (zy F_grouped_side B.hr B.L (zc (zb 2) zi))))) qw) ?_);(refine ze (j4 (yb B.C (zb 0) qc) (zu (qh (zy F_crossed B.hr B.L (zc (zb 2) zi)))) qw) ?_);exact zu (qh (qd (zb 2) zf)))
abbrev ud:aG:=de 35
theorem C2:FnScope ["thing"] ["thing"] (zx ud):=⟨rfl,rfl,rfl,by decide +kernel,rfl,by decide +kernel,by decide +kernel⟩
theorem Cu(M:MF mg)(F:Fun K "ungrouped_pair" "ungrouped_pair" ud f fd):FnOk P w K mg base (ji P w) (n+1) f fd ["thing"] (iw cv 1 (yy (n+1))):=
 jc M F C2 λcdv A lj s H E B=>
  (zu (qh (qg (zc (qg (zc (qd (zb 0) zf) (zc (qd (qd (zb 0) zf) zf) zi))) (zc (qd (qd (zb 0) zf) zf) zi)))))
abbrev uf:aG:=de 37
theorem Cj:FnScope ["thing","inner"] ["thing"] (zx uf):=⟨rfl,rfl,rfl,by decide +kernel,rfl,by decide +kernel,by decide +kernel⟩
theorem BG(M:MF mg)(F:Fun K "ungrouped_side" "ungrouped_side" uf f fd):FnOk P w K mg base (ji P w) (n+1) f fd ["thing"] (iw cv 1 (wj (n+1))):=
 jc M F Cj λcdv A lj s H E B=>
  (by (refine ze (j4 (yb B.C (qd (zb 0) zf) qc) (zu (qh (qg (zc qc (zc (zb 0) zi))))) qw) ?_);(refine ze (qj 1 B.nd (qd (zb 0) zf)) ?_);exact zu (qh (C4 (yb B.C (qd (zb 1) zf) qc) (zb 1) (qg (zc qc (zc (qg (zc qc (zc (qd (zb 1) zf) zi))) zi))))))
abbrev md:aG:=de 31
theorem GT:FnScope ["word","found","thing","is_both"] ["word","found","thing"] (zx md):=⟨rfl,rfl,rfl,by decide +kernel,rfl,by decide +kernel,by decide +kernel⟩
theorem GR(M:MF mg)(F:Fun K "back_here" "back_here" md f fd)(F_crossed:FnF (ji P w) P w K mg base cv n "crossed" 1 (xi n))(F_ungrouped_pair:FnF (ji P w) P w K mg base cv n "ungrouped_pair" 1 (yy n))(F_ungrouped_side:FnF (ji P w) P w K mg base cv n "ungrouped_side" 1 (wj n))(F_swapped:FnF (ji P w) P w K mg base cv n "swapped" 2 (vq n)):FnOk P w K mg base (ji P w) (n+1) f fd ["word","found","thing"] (iw cv 3 (vb (n+1))):=
 jc M F GT λcdv A lj s H E B=>
  (by (refine ze (qj 3 B.nd (Au B.C (qd (zb 1) zf) qc)) ?_);(refine ze (j4 (yb B.C (zb 0) qc) (zu (qh (zy F_swapped B.hr B.L (zc (zb 3) (zc (zb 2) zi))))) qw) ?_);(refine ze (j4 (yb B.C (zb 0) qc) (zu (qh (C4 (Aq (zb 3)) (zy F_ungrouped_pair B.hr B.L (zc (zb 2) zi)) (zy F_ungrouped_side B.hr B.L (zc (zb 2) zi))))) qw) ?_);(refine ze (j4 (yb B.C (zb 0) qc) (zu (qh (zy F_crossed B.hr B.L (zc (zb 2) zi)))) qw) ?_);exact zu (qh (C4 (Aq (zb 3)) (qg (zc (qg zi) (zc (zb 2) zi))) (qg (zc qc (zc (zb 2) zi))))))
abbrev bt:aG:=de 28
theorem DF:FnScope ["parts","path","thing","things","found","place","step"] ["parts","path","thing"] (zx bt):=⟨rfl,rfl,rfl,by decide +kernel,rfl,by decide +kernel,by decide +kernel⟩
theorem DC(M:MF mg)(F:Fun K "things_along" "things_along" bt f fd)(KT_SIDES:KTup K mg "SIDES" (.tuple [.str "left",.str "right"])):FnOk P w K mg base (ji P w) (n+1) f fd ["parts","path","thing"] (iw cv 3 (vc (n+1))):=
 jc M F DF λcdv A lj s H E B=>
  (by (refine ze (qj 3 B.nd (vj (zc (zb 2) zi))) ?_);(refine ze (qj 4 B.nd (zb 2)) ?_);(refine ze (Rv 1 B.pw B.hc B.C.menum (Q1 5 6 B.hc B.nd) (by (refine ze (j4 (yb B.C (qd (qd (zb 0) (zb 5)) zf) qc) (zu (qj 4 B.nd (qd (zb 4) (zb 6)))) (zu (j4 (yb B.C (qd (zb 4) zf) (Xd KT_SIDES (zb 6))) (zu (qj 4 B.nd (qd (zb 4) zf))) (zu (qh (zb 3)))))) ?_);exact zu (AN 3 (zb 4)))) ?_);exact zu (qh (zb 3)))
abbrev og:aG:=de 27
theorem J2:FnScope ["parts","turning","thing","change","path","things","made","place","above","is_first_of_both"] ["parts","turning","thing","change"] (zx og):=⟨rfl,rfl,rfl,by decide +kernel,rfl,by decide +kernel,by decide +kernel⟩
theorem IH(M:MF mg)(F:Fun K "thing_by" "thing_by" og f fd)(F_forth_here:FnF (ji P w) P w K mg base cv n "forth_here" 3 (yj n))(F_back_here:FnF (ji P w) P w K mg base cv n "back_here" 3 (vb n))(F_things_along:FnF (ji P w) P w K mg base cv n "things_along" 3 (vc n))(V_forth_here:mg "forth_here" =YW (.ref w8))(V_back_here:mg "back_here" =YW (.ref wu)):FnOk P w K mg base (ji P w) (n+1) f fd ["parts","turning","thing","change"] (iw cv 4 (wc (n+1))):=
 jc M F J2 λcdv A lj s H E B=>
  (by (refine ze (qj 4 B.nd (qd (zb 1) zf)) ?_);(refine ze (qj 5 B.nd (zy F_things_along B.hr B.L (zc (zb 0) (zc (zb 4) (zc (zb 2) zi))))) ?_);(refine ze (j4 (Kq B.C (uv B.C (zb 5)) (uv B.C (zb 0))) (zu (qh (zb 2))) qw) ?_);(refine ze (qj 6 B.nd (QG 3 (LN V_forth_here F_forth_here (LN V_back_here F_back_here T4)) B.hr B.L (zc (qd (zb 1) zf) (zc (qd (zb 0) (FY zf)) (zc (qd (zb 5) (FY zf)) zi))))) ?_);(refine ze (DA B.pw B.hc (Ie B.C (ER (uv B.C (zb 4)) zf)) (ur 7 B.nd) (by (refine ze (qj 8 B.nd (qd (zb 5) (zb 7))) ?_);(refine ze (qj 9 B.nd (EI (Au B.C (qd (qd (zb 0) (zb 7)) zf) qc) (Bs (Au B.C (qd (zb 4) (zb 7)) zf)))) ?_);exact zu (qj 6 B.nd (C4 (Aq (zb 9)) (qg (zc (zb 6) (zc (qd (zb 8) zf) zi))) (qg (zc (qd (zb 8) zf) (zc (zb 6) zi))))))) ?_);exact zu (qh (zb 6)))
abbrev i6:aG:=de 29
theorem Hm:FnScope ["word","found","head","first","second"] ["word","found"] (zx i6):=⟨rfl,rfl,rfl,by decide +kernel,rfl,by decide +kernel,by decide +kernel⟩
theorem GU(M:MF mg)(F:Fun K "kind_here" "kind_here" i6 f fd):FnOk P w K mg base (ji P w) (n+1) f fd ["word","found"] (iw cv 2 (gq (n+1))):=
 jc M F Hm λcdv A lj s H E B=>
  (by (refine ze (qj 2 B.nd (qd (zb 1) zf)) ?_);(refine ze (qj 3 B.nd (qd (zb 1) zf)) ?_);(refine ze (qj 4 B.nd (qd (zb 1) zf)) ?_);(refine ze (j4 (yb B.C (zb 0) qc) (zu (qh (qg (zc (zb 2) (zc (zb 4) (zc (zb 3) zi)))))) qw) ?_);(refine ze (j4 (yb B.C (zb 0) qc) (zu (qh (qg (zc (zb 2) (zc (qd (zb 3) zf) (zc (qg (zc (zb 2) (zc (qd (zb 3) zf) (zc (zb 4) zi)))) zi)))))) qw) ?_);(refine ze (j4 (yb B.C (zb 0) qc) (zu (qh (qg (zc qc (zc (qg (zc qc (zc (zb 3) (zc (qd (zb 4) zf) zi)))) (zc (qg (zc qc (zc (zb 3) (zc (qd (zb 4) zf) zi)))) zi)))))) qw) ?_);exact zu (qh (C4 (L2.PW.pt (D6 (yb B.C (zb 2) qc) (o9 (yb B.C (qd (zb 3) zf) qc)))) (zb 3) (zb 4))))
abbrev Ae:aG:=de 26
theorem Kz:FnScope ["parts","turning","path","made","place","above"] ["parts","turning"] (zx Ae):=⟨rfl,rfl,rfl,by decide +kernel,rfl,by decide +kernel,by decide +kernel⟩
theorem Ln(M:MF mg)(F:Fun K "kind_by" "kind_by" Ae f fd)(F_kind_here:FnF (ji P w) P w K mg base cv n "kind_here" 2 (gq n)):FnOk P w K mg base (ji P w) (n+1) f fd ["parts","turning"] (iw cv 2 (vk (n+1))):=
 jc M F Kz λcdv A lj s H E B=>
  (by (refine ze (qj 2 B.nd (qd (zb 1) zf)) ?_);(refine ze (qj 3 B.nd (zy F_kind_here B.hr B.L (zc (qd (zb 1) zf) (zc (qd (zb 0) (FY zf)) zi)))) ?_);(refine ze (DA B.pw B.hc (Ie B.C (ER (uv B.C (zb 2)) zf)) (ur 4 B.nd) (by (refine ze (qj 5 B.nd (qd (zb 0) (zb 4))) ?_);exact zu (qj 3 B.nd (C4 (yb B.C (qd (zb 2) (zb 4)) zf) (qg (zc (qd (zb 5) zf) (zc (zb 3) (zc (qd (zb 5) zf) zi)))) (qg (zc (qd (zb 5) zf) (zc (qd (zb 5) zf) (zc (zb 3) zi)))))))) ?_);exact zu (qh (zb 3)))
abbrev DZ:aG:=de 25
theorem Sd:FnScope ["word","found","head","first"] ["word","found"] (zx DZ):=⟨rfl,rfl,rfl,by decide +kernel,rfl,by decide +kernel,by decide +kernel⟩
theorem RK(M:MF mg)(F:Fun K "goes" "goes" DZ f fd):FnOk P w K mg base (ji P w) (n+1) f fd ["word","found"] (iw cv 2 (CY (n+1))):=
 jc M F Sd λcdv A lj s H E B=>
  (by (refine ze (qj 2 B.nd (qd (zb 1) zf)) ?_);(refine ze (j4 (BP B.C (zb 2) (qg (zc qc (zc qc zi)))) (zu (qh Sm)) qw) ?_);(refine ze (qj 3 B.nd (qd (qd (zb 1) zf) zf)) ?_);(refine ze (j4 (yb B.C (zb 0) qc) (zu (qh Sm)) qw) ?_);(refine ze (j4 (yb B.C (zb 0) qc) (zu (qh (Au B.C (zb 3) (zb 2)))) qw) ?_);(refine ze (j4 (yb B.C (zb 0) qc) (zu (qh (EI (Au B.C (zb 2) qc) (Bs (Au B.C (qd (qd (zb 1) zf) zf) qc))))) qw) ?_);exact zu (qh (EI (Au B.C (zb 0) qc) (Bs (QN (Au B.C (zb 3) qc) (Bs (EI (Au B.C (zb 2) qc) (Bs (Au B.C (zb 3) qc)))))))))
abbrev az:aG:=de 19
theorem Et:FnScope ["kind","path","parts","found","step"] ["kind","path"] (zx az):=⟨rfl,rfl,rfl,by decide +kernel,rfl,by decide +kernel,by decide +kernel⟩
theorem ES(M:MF mg)(F:Fun K "parts_along" "parts_along" az f fd)(R_NoTurning:ExcF K mg cv "NoTurning" 2):FnOk P w K mg base (ji P w) (n+1) f fd ["kind","path"] (iw cv 2 (fv (n+1))):=
 jc M F Et λcdv A lj s H E B=>
  (by (refine ze (qj 2 B.nd (vj (zc (zb 0) zi))) ?_);(refine ze (qj 3 B.nd (zb 0)) ?_);(refine ze (Ah 1 B.pw B.hc (ur 4 B.nd) (by (refine ze (j4 (L2.PW.pt (RW (BP B.C (qd (zb 3) zf) (qg (zc qc (zc qc zi)))) (Hl (BP B.C (zb 4) (qg (zc zf (zc zf zi))))))) (zu (Ht R_NoTurning B.hr.hd B.R)) qw) ?_);(refine ze (qj 3 B.nd (qd (zb 3) (ya zf (zb 4)))) ?_);exact zu (AN 2 (zb 3)))) ?_);exact zu (qh (zb 2)))
abbrev uz:aG:=de 24
theorem Dl:FnScope ["kind","turning","parts"] ["kind","turning"] (zx uz):=⟨rfl,rfl,rfl,by decide +kernel,rfl,by decide +kernel,by decide +kernel⟩
theorem CK(M:MF mg)(F:Fun K "parts_to_turn" "parts_to_turn" uz f fd)(F_goes:FnF (ji P w) P w K mg base cv n "goes" 2 (CY n))(F_parts_along:FnF (ji P w) P w K mg base cv n "parts_along" 2 (fv n))(R_NoTurning:ExcF K mg cv "NoTurning" 2):FnOk P w K mg base (ji P w) (n+1) f fd ["kind","turning"] (iw cv 2 (jb (n+1))):=
 jc M F Dl λcdv A lj s H E B=>
  (by (refine ze (qj 2 B.nd (zy F_parts_along B.hr B.L (zc (zb 0) (zc (qd (zb 1) zf) zi)))) ?_);(refine ze (j4 (Xf (Aq (zy F_goes B.hr B.L (zc (qd (zb 1) zf) (zc (qd (zb 2) (FY zf)) zi))))) (zu (Ht R_NoTurning B.hr.hd B.R)) qw) ?_);exact zu (qh (zb 2)))
abbrev t7:aG:=de 23
theorem Lv:FnScope ["kind","row","thing","trail","reached","turning","parts","made","place"] ["kind","row","thing"] (zx t7):=⟨rfl,rfl,rfl,by decide +kernel,rfl,by decide +kernel,by decide +kernel⟩
theorem L9(M:MF mg)(F:Fun K "brought" "brought" t7 f fd)(F_thing_by:FnF (ji P w) P w K mg base cv n "thing_by" 4 (wc n))(F_kind_by:FnF (ji P w) P w K mg base cv n "kind_by" 2 (vk n))(F_parts_to_turn:FnF (ji P w) P w K mg base cv n "parts_to_turn" 2 (jb n))(V_back_here:mg "back_here" =YW (.ref wu)):FnOk P w K mg base (ji P w) (n+1) f fd ["kind","row","thing"] (iw cv 3 (af (n+1))):=
 jc M F Lv λcdv A lj s H E B=>
  (by (refine ze (qj 3 B.nd (vj zi)) ?_);(refine ze (qj 4 B.nd (zb 0)) ?_);(refine ze (Ah 1 B.pw B.hc (ur 5 B.nd) (by (refine ze (qj 6 B.nd (zy F_parts_to_turn B.hr B.L (zc (zb 4) (zc (zb 5) zi)))) ?_);(refine ze (NU 3 6) ?_);exact zu (qj 4 B.nd (zy F_kind_by B.hr B.L (zc (zb 6) (zc (zb 5) zi)))))) ?_);(refine ze (qj 7 B.nd (zb 2)) ?_);(refine ze (DA B.pw B.hc (Ie B.C (ER (uv B.C (zb 1)) zf)) (ur 8 B.nd) (zu (qj 7 B.nd (zy F_thing_by B.hr B.L (zc (qd (zb 3) (zb 8)) (zc (qd (zb 1) (zb 8)) (zc (zb 7) (zc (WZ V_back_here) zi)))))))) ?_);exact zu (qh (zb 7)))
abbrev AX:aG:=de 17
theorem MY:FnScope ["first","second","path","row","done","lefts","rights","here","others"] ["first","second","path","row"] (zx AX):=⟨rfl,rfl,rfl,by decide +kernel,rfl,by decide +kernel,by decide +kernel⟩
theorem Nt(M:MF mg)(F:Fun K "merged" "merged" AX f fd):FnOk P w K mg base (ji P w) (n+1) f fd ["first","second","path","row"] (NZ cv 4 (ye (n+1))):=
 n6 M F MY λlend cdv A lj s H E B=>
  (by (refine ze (j4 (yb B.C (uv B.C (zb 0)) zf) (by (refine ze (vw 3 (qg (zc qc (zc (zb 2) zi)))) ?_);exact zu (o6 3 (HJ B.C (zb 1)))) qw) ?_);(refine ze (j4 (yb B.C (uv B.C (zb 1)) zf) (by (refine ze (vw 3 (qg (zc qc (zc (zb 2) zi)))) ?_);(refine ze (vw 3 (qg (zc qc (zc (zb 2) zi)))) ?_);exact zu (o6 3 (HJ B.C (zb 0)))) qw) ?_);(refine ze (qj 4 B.nd (vj zi)) ?_);(refine ze (qj 5 B.nd (HJ B.C (zb 0))) ?_);(refine ze (qj 6 B.nd (HJ B.C (zb 1))) ?_);(refine ze (qj 7 B.nd (zb 2)) ?_);(refine ze (MN B.pw (L2.PW.pt (RW (VQ B.C (uv B.C (zb 5)) zf) (Hl (T3 B.C (qd (zb 6) zf) (qd (zb 5) zf))))) (zu (j4 (T3 B.C (qd (zb 6) zf) (qd (zb 5) zf)) (by (refine ze (vw 3 (qg (zc qc (zc (zb 7) zi)))) ?_);(refine ze (Lc 8 5 B.nd) ?_);(refine ze (Lc 5 6 B.nd) ?_);exact zu (Lc 6 8 B.nd)) (by (refine ze (vw 3 (qg (zc qc (zc (zb 7) zi)))) ?_);(refine ze (OJ 4 5) ?_);exact zu (qj 7 B.nd (ya (zb 7) (qg (zc zf zi)))))))) ?_);exact zu (o6 3 (ya (ya (zb 4) (zb 5)) (zb 6))))
abbrev Al:aG:=de 16
theorem LB:FnScope ["tree","path","row","lefts","rights"] ["tree","path","row"] (zx Al):=⟨rfl,rfl,rfl,by decide +kernel,rfl,by decide +kernel,by decide +kernel⟩
theorem Kp(M:MF mg)(F:Fun K "in_line" "in_line" Al f fd)(F_merged:FnR (ji P w) P w K mg base cv n "merged" 4 (ye n))(F_in_line:FnR (ji P w) P w K mg base cv n "in_line" 3 (xj n)):FnOk P w K mg base (ji P w) (n+1) f fd ["tree","path","row"] (NZ cv 3 (xj (n+1))):=
 n6 M F LB λlend cdv A lj s H E B=>
  (by (refine ze (j4 (Aq (NK B.C (zb 0))) (zu (o6 2 (vj (zc (zb 0) zi)))) qw) ?_);(refine ze (j4 (yb B.C (zb 0) (vj zi)) (zu (o6 2 (vj zi))) qw) ?_);(refine ze (dy 3 B.nd (jj F_in_line B.hr B.L (Se 0 0 (nj (ya (zb 1) (qg (zc zf zi))) (ke 2))))) ?_);(refine ze (dy 4 B.nd (jj F_in_line B.hr B.L (Se 0 1 (nj (ya (zb 1) (qg (zc zf zi))) (ke 2))))) ?_);exact zu (Hr (jj F_merged B.hr B.L (cz 3 (cz 4 (cz 1 (ke 2)))))))
abbrev me:aG:=de 8
theorem HR:FnScope ["kind","word"] ["kind"] (zx me):=⟨rfl,rfl,rfl,by decide +kernel,rfl,by decide +kernel,by decide +kernel⟩
theorem Hq(M:MF mg)(F:Fun K "is_barren" "is_barren" me f fd)(F_is_barren:FnF (ji P w) P w K mg base cv n "is_barren" 1 (je n)):FnOk P w K mg base (ji P w) (n+1) f fd ["kind"] (iw cv 1 (je (n+1))):=
 jc M F HR λcdv A lj s H E B=>
  (by (refine ze (qj 1 B.nd (qd (zb 0) zf)) ?_);(refine ze (j4 (yb B.C (zb 1) qc) (zu (qh (EI (zy F_is_barren B.hr B.L (zc (qd (zb 0) zf) zi)) (Bs (zy F_is_barren B.hr B.L (zc (qd (zb 0) zf) zi)))))) qw) ?_);(refine ze (j4 (yb B.C (zb 1) qc) (zu (qh (QN (zy F_is_barren B.hr B.L (zc (qd (zb 0) zf) zi)) (Bs (zy F_is_barren B.hr B.L (zc (qd (zb 0) zf) zi)))))) qw) ?_);exact zu (qh (Au B.C (zb 1) qc)))
abbrev au:aG:=de 11
theorem EB:FnScope ["kind","path","row"] ["kind","path","row"] (zx au):=⟨rfl,rfl,rfl,by decide +kernel,rfl,by decide +kernel,by decide +kernel⟩
theorem Fj(M:MF mg)(F:Fun K "barren_tree" "barren_tree" au f fd)(F_is_barren:FnF (ji P w) P w K mg base cv n "is_barren" 1 (je n))(F_tree_of:FnR (ji P w) P w K mg base cv n "tree_of" 3 (wk n)):FnOk P w K mg base (ji P w) (n+1) f fd ["kind","path","row"] (NZ cv 3 (fy (n+1))):=
 n6 M F EB λlend cdv A lj s H E B=>
  (by (refine ze (j4 (Aq (zy F_is_barren B.hr B.L (zc (qd (zb 0) zf) zi))) (zu (HL (jj F_tree_of B.hr B.L (nj (qd (zb 0) zf) (nj (ya (zb 1) (qg (zc zf zi))) (ke 2)))))) (by (refine ze (HL (jj F_tree_of B.hr B.L (nj (qd (zb 0) zf) (nj (ya (zb 1) (qg (zc zf zi))) (ke 2))))) ?_);exact zu (vw 2 (qg (zc qc (zc (zb 1) zi)))))) ?_);(refine ze (vw 2 (qg (zc qc (zc (zb 1) zi)))) ?_);exact zu (o6 2 (vj zi)))
abbrev aw:aG:=de 15
theorem EO:FnScope ["first","second","path","row","left","right"] ["first","second","path","row"] (zx aw):=⟨rfl,rfl,rfl,by decide +kernel,rfl,by decide +kernel,by decide +kernel⟩
theorem E6(M:MF mg)(F:Fun K "spread_tree" "spread_tree" aw f fd)(F_both_of_trees:FnR (ji P w) P w K mg base cv n "both_of_trees" 4 (qo n)):FnOk P w K mg base (ji P w) (n+1) f fd ["first","second","path","row"] (NZ cv 4 (jz (n+1))):=
 n6 M F EO λlend cdv A lj s H E B=>
  (by (refine ze (j4 (yb B.C (zb 0) (qg zi)) (by (refine ze (vw 3 (qg (zc qc (zc (zb 2) zi)))) ?_);exact zu (HP 3 1)) qw) ?_);(refine ze (vw 3 (qg (zc qc (zc (zb 2) zi)))) ?_);(refine ze (dy 4 B.nd (jj F_both_of_trees B.hr B.L (cz 0 (Se 1 0 (nj (ya (zb 2) (qg (zc zf zi))) (ke 3)))))) ?_);(refine ze (dy 5 B.nd (jj F_both_of_trees B.hr B.L (cz 0 (Se 1 1 (nj (ya (zb 2) (qg (zc zf zi))) (ke 3)))))) ?_);exact zu (OA 3 4 5))
abbrev ux:aG:=de 14
theorem CA:FnScope ["first","second","path","row"] ["first","second","path","row"] (zx ux):=⟨rfl,rfl,rfl,by decide +kernel,rfl,by decide +kernel,by decide +kernel⟩
theorem Dc(M:MF mg)(F:Fun K "both_of_trees" "both_of_trees" ux f fd)(F_merged:FnR (ji P w) P w K mg base cv n "merged" 4 (ye n))(F_spread_tree:FnR (ji P w) P w K mg base cv n "spread_tree" 4 (jz n)):FnOk P w K mg base (ji P w) (n+1) f fd ["first","second","path","row"] (NZ cv 4 (qo (n+1))):=
 n6 M F CA λlend cdv A lj s H E B=>
  (by (refine ze (j4 (Aq (JE B.C (zb 0))) (by (refine ze (vw 3 (qg (zc qc (zc (zb 2) zi)))) ?_);exact zu (Hr (jj F_spread_tree B.hr B.L (cz 1 (cz 0 (cz 2 (ke 3))))))) qw) ?_);(refine ze (j4 (Aq (JE B.C (zb 1))) (zu (Hr (jj F_spread_tree B.hr B.L (cz 0 (cz 1 (cz 2 (ke 3))))))) qw) ?_);exact zu (S4 B.C (jj F_merged B.hr B.L (cz 0 (cz 1 (cz 2 (ke 3)))))))
abbrev g7:aG:=de 13
theorem Bx:FnScope ["kind","path","row","firsts","seconds"] ["kind","path","row"] (zx g7):=⟨rfl,rfl,rfl,by decide +kernel,rfl,by decide +kernel,by decide +kernel⟩
theorem B6(M:MF mg)(F:Fun K "factors_in_line" "factors_in_line" g7 f fd)(F_merged:FnR (ji P w) P w K mg base cv n "merged" 4 (ye n))(F_factors_in_line:FnR (ji P w) P w K mg base cv n "factors_in_line" 3 (jh n)):FnOk P w K mg base (ji P w) (n+1) f fd ["kind","path","row"] (NZ cv 3 (jh (n+1))):=
 n6 M F Bx λlend cdv A lj s H E B=>
  (by (refine ze (j4 (N4 B.C (qd (zb 0) zf) qc) (zu (o6 2 (vj (zc (zb 0) zi)))) qw) ?_);(refine ze (dy 3 B.nd (jj F_factors_in_line B.hr B.L (nj (qd (zb 0) zf) (nj (ya (zb 1) (qg (zc zf zi))) (ke 2))))) ?_);(refine ze (dy 4 B.nd (jj F_factors_in_line B.hr B.L (nj (qd (zb 0) zf) (nj (ya (zb 1) (qg (zc zf zi))) (ke 2))))) ?_);exact zu (Hr (jj F_merged B.hr B.L (cz 3 (cz 4 (cz 1 (ke 2)))))))
abbrev bq:aG:=de 12
theorem DP:FnScope ["kind","path","row","factors","last","tree","place","here","first"] ["kind","path","row"] (zx bq):=⟨rfl,rfl,rfl,by decide +kernel,rfl,by decide +kernel,by decide +kernel⟩
theorem DQ(M:MF mg)(F:Fun K "product_tree" "product_tree" bq f fd)(F_both_of_trees:FnR (ji P w) P w K mg base cv n "both_of_trees" 4 (qo n))(F_tree_of:FnR (ji P w) P w K mg base cv n "tree_of" 3 (wk n))(F_factors_in_line:FnR (ji P w) P w K mg base cv n "factors_in_line" 3 (jh n)):FnOk P w K mg base (ji P w) (n+1) f fd ["kind","path","row"] (NZ cv 3 (xk (n+1))):=
 n6 M F DP λlend cdv A lj s H E B=>
  (by (refine ze (dy 3 B.nd (jj F_factors_in_line B.hr B.L (cz 0 (cz 1 (ke 2))))) ?_);(refine ze (qj 4 B.nd (ER (uv B.C (zb 3)) zf)) ?_);(refine ze (dy 5 B.nd (jj F_tree_of B.hr B.L (nj (qd (zb 3) (zb 4)) (nj (ya (zb 1) (Oj (qg (zc zf zi)) (zb 4))) (ke 2))))) ?_);(refine ze (DA B.pw B.hc (Ie B.C (ER (zb 4) zf)) (ur 6 B.nd) (by (refine ze (qj 7 B.nd (ya (zb 1) (Oj (qg (zc zf zi)) (zb 6)))) ?_);(refine ze (dy 8 B.nd (jj F_tree_of B.hr B.L (nj (qd (zb 3) (zb 6)) (nj (ya (zb 7) (qg (zc zf zi))) (ke 2))))) ?_);exact zu (dy 5 B.nd (jj F_both_of_trees B.hr B.L (cz 8 (cz 5 (cz 7 (ke 2)))))))) ?_);exact zu (HP 2 5))
abbrev Ai:aG:=de 10
theorem KR:FnScope ["kind","path","row","word","first","second"] ["kind","path","row"] (zx Ai):=⟨rfl,rfl,rfl,by decide +kernel,rfl,by decide +kernel,by decide +kernel⟩
theorem Kt(M:MF mg)(F:Fun K "tree_of" "tree_of" Ai f fd)(F_tree_of:FnR (ji P w) P w K mg base cv n "tree_of" 3 (wk n))(F_is_barren:FnF (ji P w) P w K mg base cv n "is_barren" 1 (je n))(F_barren_tree:FnR (ji P w) P w K mg base cv n "barren_tree" 3 (fy n))(F_product_tree:FnR (ji P w) P w K mg base cv n "product_tree" 3 (xk n)):FnOk P w K mg base (ji P w) (n+1) f fd ["kind","path","row"] (NZ cv 3 (wk (n+1))):=
 n6 M F KR λlend cdv A lj s H E B=>
  (by (refine ze (qj 3 B.nd (qd (zb 0) zf)) ?_);(refine ze (j4 (yb B.C (zb 3) qc) (zu (o6 2 (vj zi))) qw) ?_);(refine ze (j4 (yb B.C (zb 3) qc) (zu (o6 2 (qg zi))) qw) ?_);(refine ze (j4 (yb B.C (zb 3) qc) (zu (o6 2 (qg (zc (qd (zb 0) zf) zi)))) qw) ?_);(refine ze (j4 (yb B.C (zb 3) qc) (zu (Oy (Aq (zy F_is_barren B.hr B.L (zc (zb 0) zi))) (jj F_barren_tree B.hr B.L (cz 0 (cz 1 (ke 2)))) (jj F_product_tree B.hr B.L (cz 0 (cz 1 (ke 2)))))) qw) ?_);(refine ze (dy 4 B.nd (jj F_tree_of B.hr B.L (nj (qd (zb 0) zf) (nj (ya (zb 1) (qg (zc zf zi))) (ke 2))))) ?_);(refine ze (dy 5 B.nd (jj F_tree_of B.hr B.L (nj (qd (zb 0) zf) (nj (ya (zb 1) (qg (zc zf zi))) (ke 2))))) ?_);(refine ze (j4 (yb B.C (zb 4) (vj zi)) (by (refine ze (vw 2 (qg (zc qc (zc (zb 1) zi)))) ?_);exact zu (HP 2 5)) qw) ?_);(refine ze (j4 (yb B.C (zb 5) (vj zi)) (by (refine ze (vw 2 (qg (zc qc (zc (zb 1) zi)))) ?_);(refine ze (vw 2 (qg (zc qc (zc (zb 1) zi)))) ?_);exact zu (HP 2 4)) qw) ?_);exact zu (OA 2 4 5))
abbrev br:aG:=de 9
theorem DK:FnScope ["kind","row","tree"] ["kind"] (zx br):=⟨rfl,rfl,rfl,by decide +kernel,rfl,by decide +kernel,by decide +kernel⟩
theorem DM(M:MF mg)(F:Fun K "row_to_plain" "row_to_plain" br f fd)(F_in_line:FnR (ji P w) P w K mg base cv n "in_line" 3 (xj n))(F_tree_of:FnR (ji P w) P w K mg base cv n "tree_of" 3 (wk n)):FnOk P w K mg base (ji P w) (n+1) f fd ["kind"] (iw cv 1 (w6 (n+1))):=
 jc M F DK λcdv A lj s H E B=>
  (by (refine ze (qj 1 B.nd (vj zi)) ?_);(refine ze (dy 2 B.nd (jj F_tree_of B.hr B.L (cz 0 (nj (qg zi) (ke 1))))) ?_);(refine ze (HL (jj F_in_line B.hr B.L (cz 2 (nj (qg zi) (ke 1))))) ?_);exact zu (qh (zb 1)))
abbrev t8:aG:=de 22
theorem KZ:FnScope ["kind","row","thing","reached","made","turning","parts"] ["kind","row","thing"] (zx t8):=⟨rfl,rfl,rfl,by decide +kernel,rfl,by decide +kernel,by decide +kernel⟩
theorem Ls(M:MF mg)(F:Fun K "carried" "carried" t8 f fd)(F_kind_by:FnF (ji P w) P w K mg base cv n "kind_by" 2 (vk n))(F_thing_by:FnF (ji P w) P w K mg base cv n "thing_by" 4 (wc n))(F_parts_to_turn:FnF (ji P w) P w K mg base cv n "parts_to_turn" 2 (jb n))(V_forth_here:mg "forth_here" =YW (.ref w8)):FnOk P w K mg base (ji P w) (n+1) f fd ["kind","row","thing"] (iw cv 3 (u6 (n+1))):=
 jc M F KZ λcdv A lj s H E B=>
  (by (refine ze (qj 3 B.nd (zb 0)) ?_);(refine ze (qj 4 B.nd (zb 2)) ?_);(refine ze (Ah 1 B.pw B.hc (ur 5 B.nd) (by (refine ze (qj 6 B.nd (zy F_parts_to_turn B.hr B.L (zc (zb 3) (zc (zb 5) zi)))) ?_);(refine ze (qj 4 B.nd (zy F_thing_by B.hr B.L (zc (zb 6) (zc (zb 5) (zc (zb 4) (zc (WZ V_forth_here) zi)))))) ?_);exact zu (qj 3 B.nd (zy F_kind_by B.hr B.L (zc (zb 6) (zc (zb 5) zi)))))) ?_);exact zu (qh (zb 4)))
abbrev oh:aG:=de 7
theorem Jz:FnScope ["kind","word","firsts","seconds","found","first"] ["kind"] (zx oh):=⟨rfl,rfl,rfl,by decide +kernel,rfl,by decide +kernel,by decide +kernel⟩
theorem J6(M:MF mg)(F:Fun K "gathered" "gathered" oh f fd)(F_gathered:FnF (ji P w) P w K mg base cv n "gathered" 1 (j6 n))(F_is_barren:FnF (ji P w) P w K mg base cv n "is_barren" 1 (je n))(N_sorted:mg "sorted" =YY):FnOk P w K mg base (ji P w) (n+1) f fd ["kind"] (iw cv 1 (j6 (n+1))):=
 jc M F Jz λcdv A lj s H E B=>
  (by (refine ze (qj 1 B.nd (qd (zb 0) zf)) ?_);(refine ze (j4 (yb B.C (zb 1) qc) (zu (qh (vj zi))) qw) ?_);(refine ze (j4 (yb B.C (zb 1) qc) (zu (qh (vj (zc (qg zi) zi)))) qw) ?_);(refine ze (j4 (yb B.C (zb 1) qc) (zu (qh (vj (zc (qg (zc (qd (zb 0) zf) zi)) zi)))) qw) ?_);(refine ze (j4 (yb B.C (zb 1) qc) (zu (qh (ya (zy F_gathered B.hr B.L (zc (qd (zb 0) zf) zi)) (zy F_gathered B.hr B.L (zc (qd (zb 0) zf) zi))))) qw) ?_);(refine ze (j4 (Aq (zy F_is_barren B.hr B.L (zc (zb 0) zi))) (zu (qh (vj zi))) qw) ?_);(refine ze (qj 2 B.nd (zy F_gathered B.hr B.L (zc (qd (zb 0) zf) zi))) ?_);(refine ze (qj 3 B.nd (zy F_gathered B.hr B.L (zc (qd (zb 0) zf) zi))) ?_);(refine ze (qj 4 B.nd (vj zi)) ?_);(refine ze (Ah 2 B.pw B.hc (ur 5 B.nd) (zu (AM 4 (F0 (fr:=["first"]) B.C B.hr B.hc (EW (zb 3)) (λcl Ca s2 H2 fp B=>(HI B.C (A6 B.C N_sorted (ya (zb 1) (zb 0))))))))) ?_);exact zu (qh (zb 4)))
abbrev tq:aG:=de 6
theorem KJ:FnScope ["kind"] ["kind"] (zx tq):=⟨rfl,rfl,rfl,by decide +kernel,rfl,by decide +kernel,by decide +kernel⟩
theorem Lh(M:MF mg)(F:Fun K "bundles" "bundles" tq f fd)(F_gathered:FnF (ji P w) P w K mg base cv n "gathered" 1 (j6 n))(N_sorted:mg "sorted" =YY):FnOk P w K mg base (ji P w) (n+1) f fd ["kind"] (iw cv 1 (u9 (n+1))):=
 jc M F KJ λcdv A lj s H E B=>
  (zu (qh (A6 B.C N_sorted (zy F_gathered B.hr B.L (zc (zb 0) zi)))))
abbrev Eb:aG:=de 39
theorem S6:FnScope ["one","other","thing"] ["one","other","thing"] (zx Eb):=⟨rfl,rfl,rfl,by decide +kernel,rfl,by decide +kernel,by decide +kernel⟩
theorem RU(M:MF mg)(F:Fun K "sent" "sent" Eb f fd)(F_brought:FnF (ji P w) P w K mg base cv n "brought" 3 (af n))(F_row_to_plain:FnF (ji P w) P w K mg base cv n "row_to_plain" 1 (w6 n))(F_carried:FnF (ji P w) P w K mg base cv n "carried" 3 (u6 n))(F_bundles:FnF (ji P w) P w K mg base cv n "bundles" 1 (u9 n))(R_Unlike:ExcF K mg cv "Unlike" 5):FnOk P w K mg base (ji P w) (n+1) f fd ["one","other","thing"] (iw cv 3 (xb (n+1))):=
 jc M F S6 λcdv A lj s H E B=>
  (by (refine ze (j4 (N4 B.C (zy F_bundles B.hr B.L (zc (zb 0) zi)) (zy F_bundles B.hr B.L (zc (zb 1) zi))) (zu (Ht R_Unlike B.hr.hd B.R)) qw) ?_);exact zu (qh (zy F_brought B.hr B.L (zc (zb 1) (zc (zy F_row_to_plain B.hr B.L (zc (zb 1) zi)) (zc (zy F_carried B.hr B.L (zc (zb 0) (zc (zy F_row_to_plain B.hr B.L (zc (zb 0) zi)) (zc (zb 2) zi)))) zi))))))
abbrev e9:aG:=de 46
theorem FM:FnScope ["kind","sizes","left","right","found","thing"] ["kind","sizes"] (zx e9):=⟨rfl,rfl,rfl,by decide +kernel,rfl,by decide +kernel,by decide +kernel⟩
theorem FG(M:MF mg)(F:Fun K "_law_things" "_law_things" e9 f fd)(F_law_things:FnF (ji P w) P w K mg base cv n "_law_things" 2 (ja n)):FnOk P w K mg base (ji P w) (n+1) f fd ["kind","sizes"] (iw cv 2 (ja (n+1))):=
 jc M F FM λcdv A lj s H E B=>
  (by (refine ze (j4 (yb B.C (uv B.C (zb 0)) zf) (zu (qh (cw (vj (zc (qg zi) zi)) (Ks B.C (Au B.C (qd (zb 0) zf) qc))))) qw) ?_);(refine ze (j4 (yb B.C (uv B.C (zb 0)) zf) (zu (qh (Nx B.C B.hc (qd (zb 1) (qd (zb 0) zf))))) qw) ?_);(refine ze (qj 2 B.nd (zy F_law_things B.hr B.L (zc (qd (zb 0) zf) (zc (zb 1) zi)))) ?_);(refine ze (qj 3 B.nd (zy F_law_things B.hr B.L (zc (qd (zb 0) zf) (zc (zb 1) zi)))) ?_);(refine ze (qj 4 B.nd (vj zi)) ?_);(refine ze (j4 (yb B.C (qd (zb 0) zf) qc) (by (refine ze (AM 4 (F0 (fr:=[]) B.C B.hr B.hc (EW (zb 2)) (λcl Ca s2 H2 fp B=>(qg (zc qc (zc (zb 0) zi)))))) ?_);(refine ze (AM 4 (F0 (fr:=[]) B.C B.hr B.hc (EW (zb 3)) (λcl Ca s2 H2 fp B=>(qg (zc qc (zc (zb 0) zi)))))) ?_);exact zu (qh (zb 4))) qw) ?_);(refine ze (Ah 2 B.pw B.hc (ur 5 B.nd) (zu (AM 4 (F0 (fr:=["thing"]) B.C B.hr B.hc (EW (zb 3)) (λcl Ca s2 H2 fp B=>(qg (zc (zb 1) (zc (zb 0) zi)))))))) ?_);exact zu (qh (zb 4)))
abbrev cq:aG:=de 53
theorem Fx:FnScope ["kind","left","right","found","one","other"] ["kind"] (zx cq):=⟨rfl,rfl,rfl,by decide +kernel,rfl,by decide +kernel,by decide +kernel⟩
theorem Fo(M:MF mg)(F:Fun K "_law_bundles" "_law_bundles" cq f fd)(F_law_bundles:FnF (ji P w) P w K mg base cv n "_law_bundles" 1 (qf n))(N_sorted:mg "sorted" =YY):FnOk P w K mg base (ji P w) (n+1) f fd ["kind"] (iw cv 1 (qf (n+1))):=
 jc M F Fx λcdv A lj s H E B=>
  (by (refine ze (j4 (yb B.C (uv B.C (zb 0)) zf) (zu (qh (cw (vj (zc (qg zi) zi)) (Ks B.C (Au B.C (qd (zb 0) zf) qc))))) qw) ?_);(refine ze (j4 (yb B.C (uv B.C (zb 0)) zf) (zu (qh (vj (zc (qg (zc (qd (zb 0) zf) zi)) zi)))) qw) ?_);(refine ze (qj 1 B.nd (zy F_law_bundles B.hr B.L (zc (qd (zb 0) zf) zi))) ?_);(refine ze (qj 2 B.nd (zy F_law_bundles B.hr B.L (zc (qd (zb 0) zf) zi))) ?_);(refine ze (j4 (yb B.C (qd (zb 0) zf) qc) (zu (qh (A6 B.C N_sorted (ya (zb 1) (zb 2))))) qw) ?_);(refine ze (qj 3 B.nd (vj zi)) ?_);(refine ze (Ah 1 B.pw B.hc (ur 4 B.nd) (zu (Ah 2 B.pw B.hc (ur 5 B.nd) (zu (AN 3 (HI B.C (A6 B.C N_sorted (ya (zb 4) (zb 5))))))))) ?_);exact zu (qh (A6 B.C N_sorted (zb 3))))
abbrev ax:aG:=de 57
theorem E5:FnScope ["one","other","thing","e"] ["one","other","thing"] (zx ax):=⟨rfl,rfl,rfl,by decide +kernel,rfl,by decide +kernel,by decide +kernel⟩
theorem Fq(M:MF mg)(F:Fun K "_law_refused" "_law_refused" ax f fd)(F_sent:FnF (ji P w) P w K mg base cv n "sent" 3 (xb n))(I_Unlike:IsF K mg cv "Unlike" uw)(I_ValueError:IsF K mg cv "ValueError" va)(I_NoThing:IsF K mg cv "NoThing" gn)(H_KindError:HanF K mg cv "KindError" vp):FnOk P w K mg base (ji P w) (n+1) f fd ["one","other","thing"] (iw cv 3 (wd (n+1))):=
 jc M F E5 λcdv A lj s H E B=>
  (by (refine ze (Xh H_KindError 3 B.C B.hr B.hc B.nd (λxe pn XO' B=>(zu (Vk (zy F_sent B.hr B.L (zc (zb 0) (zc (zb 1) (zc (zb 2) zi))))))) (λe B=>(zu (qh (EI (PY 3 B.C I_Unlike) (EI (PY 3 B.C I_ValueError) (Bs (WE (PY 3 B.C I_NoThing))))))))) ?_);exact zu (qh Sm))
abbrev i9:aG:=de 45
theorem Ha:FnScope ["kind","sizes"] ["kind","sizes"] (zx i9):=⟨rfl,rfl,rfl,by decide +kernel,rfl,by decide +kernel,by decide +kernel⟩
theorem H0(M:MF mg)(F:Fun K "_law_count" "_law_count" i9 f fd)(F_law_count:FnF (ji P w) P w K mg base cv n "_law_count" 2 (j3 n)):FnOk P w K mg base (ji P w) (n+1) f fd ["kind","sizes"] (iw cv 2 (j3 (n+1))):=
 jc M F Ha λcdv A lj s H E B=>
  (by (refine ze (j4 (yb B.C (uv B.C (zb 0)) zf) (zu (qh (Ks B.C (Au B.C (qd (zb 0) zf) qc)))) qw) ?_);(refine ze (j4 (yb B.C (uv B.C (zb 0)) zf) (zu (qh (qd (zb 1) (qd (zb 0) zf)))) qw) ?_);(refine ze (j4 (yb B.C (qd (zb 0) zf) qc) (zu (qh (ya (zy F_law_count B.hr B.L (zc (qd (zb 0) zf) (zc (zb 1) zi))) (zy F_law_count B.hr B.L (zc (qd (zb 0) zf) (zc (zb 1) zi)))))) qw) ?_);exact zu (qh (cw (zy F_law_count B.hr B.L (zc (qd (zb 0) zf) (zc (zb 1) zi))) (zy F_law_count B.hr B.L (zc (qd (zb 0) zf) (zc (zb 1) zi))))))
abbrev om:aG:=de 43
theorem JL:FnScope ["cell","k","bound","stir"] ["cell","k","bound"] (zx om):=⟨rfl,rfl,rfl,by decide +kernel,rfl,by decide +kernel,by decide +kernel⟩
theorem Jj(M:MF mg)(F:Fun K "_law_draw" "_law_draw" om f fd):FnOk P w K mg base (ji P w) (n+1) f fd ["cell","k","bound"] (iw cv 3 (xc (n+1))):=
 jc M F JL λcdv A lj s H E B=>
  (by (refine ze (qj 3 B.nd (m7 (ya (ya (m7 (zb 0) zf) zf) (cw (zb 1) zf)) zf)) ?_);(refine ze (qj 3 B.nd (m7 (cw (m7 (cw (zb 3) (zb 3)) zf) zf) zf)) ?_);(refine ze (qj 3 B.nd (m7 (cw (m7 (cw (zb 3) (zb 3)) zf) zf) zf)) ?_);exact zu (qh (m7 (OK (zb 3) zf) (zb 2))))
abbrev i7:aG:=de 56
theorem Hx:FnScope ["cell","top"] ["cell","top"] (zx i7):=⟨rfl,rfl,rfl,by decide +kernel,rfl,by decide +kernel,by decide +kernel⟩
theorem HF(M:MF mg)(F:Fun K "_law_sizes" "_law_sizes" i7 f fd)(F_law_draw:FnF (ji P w) P w K mg base cv n "_law_draw" 3 (xc n)):FnOk P w K mg base (ji P w) (n+1) f fd ["cell","top"] (iw cv 2 (yc (n+1))):=
 jc M F Hx λcdv A lj s H E B=>
  (zu (qh (HI B.C (F0 (fr:=["cell","top"]) B.C B.hr B.hc (Wc B.C zf) (λcl Ca s2 H2 fp B=>(zy F_law_draw B.hr B.L (zc (zb 1) (zc (ya zf (zb 0)) (zc (ya (zb 2) zf) zi)))))))))
abbrev n0:aG:=de 41
theorem Ik:FnScope ["cell","found","factor","mixed"] ["cell"] (zx n0):=⟨rfl,rfl,rfl,by decide +kernel,rfl,by decide +kernel,by decide +kernel⟩
theorem Jh(M:MF mg)(F:Fun K "_law_stir" "_law_stir" n0 f fd):FnOk P w K mg base (ji P w) (n+1) f fd ["cell"] (iw cv 1 (dn (n+1))):=
 jc M F Ik λcdv A lj s H E B=>
  (by (refine ze (qj 1 B.nd zf) ?_);(refine ze (DA B.pw B.hc (EW (vj (zc zf (zc zf (zc zf (zc zf zi)))))) (ur 2 B.nd) (by (refine ze (qj 3 B.nd (m7 (ya (cw (zb 0) (zb 2)) zf) zf)) ?_);(refine ze (qj 3 B.nd (m7 (cw (m7 (cw (zb 3) (zb 3)) zf) zf) zf)) ?_);exact zu (qj 1 B.nd (ya (cw (zb 1) (W5 zf zf)) (OK (zb 3) zf))))) ?_);exact zu (qh (zb 1)))
abbrev oj:aG:=de 42
theorem IX:FnScope ["script","k"] ["script","k"] (zx oj):=⟨rfl,rfl,rfl,by decide +kernel,rfl,by decide +kernel,by decide +kernel⟩
theorem IF(M:MF mg)(F:Fun K "_law_cell" "_law_cell" oj f fd)(F_law_stir:FnF (ji P w) P w K mg base cv n "_law_stir" 1 (dn n)):FnOk P w K mg base (ji P w) (n+1) f fd ["script","k"] (iw cv 2 (qi (n+1))):=
 jc M F IX λcdv A lj s H E B=>
  (by (refine ze (j4 (Kq B.C (zb 1) (uv B.C (zb 0))) (zu (qh (zy F_law_stir B.hr B.L (zc (qd (zb 0) (zb 1)) zi)))) qw) ?_);exact zu (qh (zy F_law_stir B.hr B.L (zc zf zi))))
abbrev e8:aG:=de 55
theorem F5:FnScope ["kind","cell","k"] ["kind","cell","k"] (zx e8):=⟨rfl,rfl,rfl,by decide +kernel,rfl,by decide +kernel,by decide +kernel⟩
theorem FJ(M:MF mg)(F:Fun K "_law_leafed" "_law_leafed" e8 f fd)(F_law_leafed:FnF (ji P w) P w K mg base cv n "_law_leafed" 3 (w9 n))(F_law_draw:FnF (ji P w) P w K mg base cv n "_law_draw" 3 (xc n)):FnOk P w K mg base (ji P w) (n+1) f fd ["kind","cell","k"] (iw cv 3 (w9 (n+1))):=
 jc M F F5 λcdv A lj s H E B=>
  (by (refine ze (j4 (Kq B.C (uv B.C (zb 0)) zf) (by (refine ze (j4 (yb B.C (zy F_law_draw B.hr B.L (zc (zb 1) (zc (zb 2) (zc zf zi)))) zf) (zu (qh (qd (vj (zc (qg (zc qc zi)) (zc (qg (zc qc (zc (zy F_law_draw B.hr B.L (zc (zb 1) (zc (ya (zb 2) zf) (zc zf zi)))) zi))) zi))) (zy F_law_draw B.hr B.L (zc (zb 1) (zc (ya (zb 2) zf) (zc zf zi))))))) qw) ?_);exact zu (qh (zb 0))) qw) ?_);exact zu (qh (qg (zc (qd (zb 0) zf) (zc (zy F_law_leafed B.hr B.L (zc (qd (zb 0) zf) (zc (zb 1) (zc (cw zf (zb 2)) zi)))) (zc (zy F_law_leafed B.hr B.L (zc (qd (zb 0) zf) (zc (zb 1) (zc (ya (cw zf (zb 2)) zf) zi)))) zi))))))
abbrev oq:aG:=de 48
theorem J8:FnScope ["kind","path","side"] ["kind","path"] (zx oq):=⟨rfl,rfl,rfl,by decide +kernel,rfl,by decide +kernel,by decide +kernel⟩
theorem JG(M:MF mg)(F:Fun K "_law_part" "_law_part" oq f fd):FnOk P w K mg base (ji P w) (n+1) f fd ["kind","path"] (iw cv 2 (wo (n+1))):=
 jc M F J8 λcdv A lj s H E B=>
  (by (refine ze (Ah 1 B.pw B.hc (ur 2 B.nd) (zu (qj 0 B.nd (qd (zb 0) (ya zf (zb 2)))))) ?_);exact zu (qh (zb 0)))
abbrev lz:aG:=de 47
theorem HK:FnScope ["kind","found","waiting","path"] ["kind"] (zx lz):=⟨rfl,rfl,rfl,by decide +kernel,rfl,by decide +kernel,by decide +kernel⟩
theorem HY(M:MF mg)(F:Fun K "_law_paths" "_law_paths" lz f fd)(F_law_part:FnF (ji P w) P w K mg base cv n "_law_part" 2 (wo n)):FnOk P w K mg base (ji P w) (n+1) f fd ["kind"] (iw cv 1 (jm (n+1))):=
 jc M F HK λcdv A lj s H E B=>
  (by (refine ze (qj 1 B.nd (vj zi)) ?_);(refine ze (qj 2 B.nd (vj (zc (qg zi) zi))) ?_);(refine ze (MN B.pw (N4 B.C (zb 2) (vj zi)) (by (refine ze (Wq 3 2 B.nd) ?_);(refine ze (AN 1 (zb 3)) ?_);exact zu (j4 (yb B.C (uv B.C (zy F_law_part B.hr B.L (zc (zb 0) (zc (zb 3) zi)))) zf) (zu (AM 2 (vj (zc (ya (zb 3) (qg (zc zf zi))) (zc (ya (zb 3) (qg (zc zf zi))) zi))))) qw))) ?_);exact zu (qh (zb 1)))
abbrev t6:aG:=de 50
theorem Kl:FnScope ["kind","path","piece","inner"] ["kind","path","piece"] (zx t6):=⟨rfl,rfl,rfl,by decide +kernel,rfl,by decide +kernel,by decide +kernel⟩
theorem K1(M:MF mg)(F:Fun K "_law_put" "_law_put" t6 f fd)(F_law_put:FnF (ji P w) P w K mg base cv n "_law_put" 3 (fx n)):FnOk P w K mg base (ji P w) (n+1) f fd ["kind","path","piece"] (iw cv 3 (fx (n+1))):=
 jc M F Kl λcdv A lj s H E B=>
  (by (refine ze (j4 (yb B.C (zb 1) (qg zi)) (zu (qh (zb 2))) qw) ?_);(refine ze (qj 3 B.nd (zy F_law_put B.hr B.L (zc (qd (zb 0) (ya zf (qd (zb 1) zf))) (zc (WC (zb 1) (Pe zf) OX) (zc (zb 2) zi))))) ?_);(refine ze (j4 (yb B.C (qd (zb 1) zf) zf) (zu (qh (qg (zc (qd (zb 0) zf) (zc (zb 3) (zc (qd (zb 0) zf) zi)))))) qw) ?_);exact zu (qh (qg (zc (qd (zb 0) zf) (zc (qd (zb 0) zf) (zc (zb 3) zi))))))
abbrev n4:aG:=de 49
theorem Jb:FnScope ["kind","word","k","m"] ["kind","word"] (zx n4):=⟨rfl,rfl,rfl,by decide +kernel,rfl,by decide +kernel,by decide +kernel⟩
theorem IJ(M:MF mg)(F:Fun K "_law_here" "_law_here" n4 f fd):FnOk P w K mg base (ji P w) (n+1) f fd ["kind","word"] (iw cv 2 (vz (n+1))):=
 jc M F Jb λcdv A lj s H E B=>
  (by (refine ze (j4 (Kq B.C (uv B.C (zb 0)) zf) (zu (qh Ge)) qw) ?_);(refine ze (qj 2 B.nd (qd (zb 0) zf)) ?_);(refine ze (qj 3 B.nd (qd (zb 0) zf)) ?_);(refine ze (j4 (yb B.C (zb 1) qc) (zu (qh (qg (zc (qd (zb 0) zf) (zc (zb 3) (zc (zb 2) zi)))))) qw) ?_);(refine ze (j4 (L2.PW.pt (D6 (yb B.C (zb 1) qc) (o9 (yb B.C (qd (zb 2) zf) (qd (zb 0) zf))))) (zu (qh (qg (zc (qd (zb 0) zf) (zc (qd (zb 2) zf) (zc (qg (zc (qd (zb 0) zf) (zc (qd (zb 2) zf) (zc (zb 3) zi)))) zi)))))) qw) ?_);(refine ze (j4 (L2.PW.pt (D6 (yb B.C (zb 1) qc) (D6 (yb B.C (qd (zb 0) zf) qc) (o9 (yb B.C (qd (zb 3) zf) qc))))) (zu (qh (qg (zc qc (zc (qg (zc qc (zc (zb 2) (zc (qd (zb 3) zf) zi)))) (zc (qg (zc qc (zc (zb 2) (zc (qd (zb 3) zf) zi)))) zi)))))) qw) ?_);(refine ze (j4 (L2.PW.pt (D6 (yb B.C (zb 1) qc) (D6 (yb B.C (qd (zb 0) zf) qc) (o9 (yb B.C (qd (zb 2) zf) qc))))) (zu (qh (qg (zc qc zi)))) qw) ?_);(refine ze (j4 (L2.PW.pt (D6 (yb B.C (zb 1) qc) (o9 (Yp B.C (qg (zc (qd (zb 0) zf) (zc (qd (zb 2) zf) zi))) (qg (zc (qg (zc qc (zc qc zi))) (zc (qg (zc qc (zc qc zi))) zi))))))) (zu (qh (zb 3))) qw) ?_);exact zu (qh Ge))
abbrev eh:aG:=de 51
theorem FH:FnScope ["kind","word","path","piece"] ["kind","word","path"] (zx eh):=⟨rfl,rfl,rfl,by decide +kernel,rfl,by decide +kernel,by decide +kernel⟩
theorem F3(M:MF mg)(F:Fun K "_law_turned" "_law_turned" eh f fd)(F_law_put:FnF (ji P w) P w K mg base cv n "_law_put" 3 (fx n))(F_law_here:FnF (ji P w) P w K mg base cv n "_law_here" 2 (vz n))(F_law_part:FnF (ji P w) P w K mg base cv n "_law_part" 2 (wo n))(F_law_paths:FnF (ji P w) P w K mg base cv n "_law_paths" 1 (jm n)):FnOk P w K mg base (ji P w) (n+1) f fd ["kind","word","path"] (iw cv 3 (yn (n+1))):=
 jc M F FH λcdv A lj s H E B=>
  (by (refine ze (j4 (BP B.C (zb 2) (zy F_law_paths B.hr B.L (zc (zb 0) zi))) (zu (qh Ge)) qw) ?_);(refine ze (qj 3 B.nd (zy F_law_here B.hr B.L (zc (zy F_law_part B.hr B.L (zc (zb 0) (zc (zb 2) zi))) (zc (zb 1) zi)))) ?_);(refine ze (j4 (WK B.C (zb 3) Ge) (zu (qh Ge)) qw) ?_);exact zu (qh (zy F_law_put B.hr B.L (zc (zb 0) (zc (zb 2) (zc (zb 3) zi))))))
abbrev xh:aG:=de 52
theorem Bl:FnScope ["kind","found","path","word"] ["kind"] (zx xh):=⟨rfl,rfl,rfl,by decide +kernel,rfl,by decide +kernel,by decide +kernel⟩
theorem Bk(M:MF mg)(F:Fun K "_law_all_turnings" "_law_all_turnings" xh f fd)(F_law_here:FnF (ji P w) P w K mg base cv n "_law_here" 2 (vz n))(F_law_part:FnF (ji P w) P w K mg base cv n "_law_part" 2 (wo n))(F_law_paths:FnF (ji P w) P w K mg base cv n "_law_paths" 1 (jm n)):FnOk P w K mg base (ji P w) (n+1) f fd ["kind"] (iw cv 1 (jl (n+1))):=
 jc M F Bl λcdv A lj s H E B=>
  (by (refine ze (qj 1 B.nd (vj zi)) ?_);(refine ze (DA B.pw B.hc (EW (zy F_law_paths B.hr B.L (zc (zb 0) zi))) (ur 2 B.nd) (zu (DA B.pw B.hc (EW (vj (zc qc (zc qc (zc qc (zc qc zi)))))) (ur 3 B.nd) (zu (j4 (UF B.C (zy F_law_here B.hr B.L (zc (zy F_law_part B.hr B.L (zc (zb 0) (zc (zb 2) zi))) (zc (zb 3) zi))) Ge) (zu (AN 1 (qg (zc (zb 3) (zc (zb 2) zi))))) qw))))) ?_);exact zu (qh (zb 1)))
abbrev ly:aG:=de 54
theorem HG:FnScope ["script","first","kind","k","some","word","path"] ["script","first","kind"] (zx ly):=⟨rfl,rfl,rfl,by decide +kernel,rfl,by decide +kernel,by decide +kernel⟩
theorem Hh(M:MF mg)(F:Fun K "_law_other" "_law_other" ly f fd)(F_law_paths:FnF (ji P w) P w K mg base cv n "_law_paths" 1 (jm n))(F_law_turned:FnF (ji P w) P w K mg base cv n "_law_turned" 3 (yn n))(F_law_cell:FnF (ji P w) P w K mg base cv n "_law_cell" 2 (qi n))(F_law_all_turnings:FnF (ji P w) P w K mg base cv n "_law_all_turnings" 1 (jl n)):FnOk P w K mg base (ji P w) (n+1) f fd ["script","first","kind"] (iw cv 3 (ve (n+1))):=
 jc M F HG λcdv A lj s H E B=>
  (by (refine ze (DA B.pw B.hc (Wc B.C (m7 (zy F_law_cell B.hr B.L (zc (zb 0) (zc (zb 1) zi))) zf)) (ur 3 B.nd) (by (refine ze (qj 4 B.nd (zy F_law_all_turnings B.hr B.L (zc (zb 2) zi))) ?_);exact zu (j4 (L2.PW.pt (D6 (N4 B.C (zb 4) (vj zi)) (o9 (Kq B.C (uv B.C (zy F_law_paths B.hr B.L (zc (zb 2) zi))) zf)))) (by (refine ze (Qx (Q1 5 6 B.hc B.nd) (qd (zb 4) (m7 (zy F_law_cell B.hr B.L (zc (zb 0) (zc (ya (ya (zb 1) zf) (zb 3)) zi))) (uv B.C (zb 4))))) ?_);exact zu (qj 2 B.nd (zy F_law_turned B.hr B.L (zc (zb 2) (zc (zb 5) (zc (zb 6) zi)))))) qw))) ?_);exact zu (qh (zb 2)))
abbrev oi:aG:=de 44
theorem Kb:FnScope ["cell","leaves","k","which","left","word"] ["cell","leaves","k"] (zx oi):=⟨rfl,rfl,rfl,by decide +kernel,rfl,by decide +kernel,by decide +kernel⟩
theorem Je(M:MF mg)(F:Fun K "_law_kind" "_law_kind" oi f fd)(F_law_kind:FnF (ji P w) P w K mg base cv n "_law_kind" 3 (j5 n))(F_law_draw:FnF (ji P w) P w K mg base cv n "_law_draw" 3 (xc n)):FnOk P w K mg base (ji P w) (n+1) f fd ["cell","leaves","k"] (iw cv 3 (j5 (n+1))):=
 jc M F Kb λcdv A lj s H E B=>
  (by (refine ze (j4 (Kq B.C (zb 1) zf) (by (refine ze (qj 3 B.nd (zy F_law_draw B.hr B.L (zc (zb 0) (zc (cw zf (zb 2)) (zc zf zi))))) ?_);(refine ze (j4 (yb B.C (zb 3) zf) (zu (qh (qg (zc qc zi)))) qw) ?_);(refine ze (j4 (Kq B.C (zb 3) zf) (zu (qh (qg (zc qc zi)))) qw) ?_);exact zu (qh (qg (zc qc (zc (m7 (zb 3) zf) zi))))) qw) ?_);(refine ze (qj 4 B.nd (ya zf (zy F_law_draw B.hr B.L (zc (zb 0) (zc (ya (cw zf (zb 2)) zf) (zc (ER (zb 1) zf) zi)))))) ?_);(refine ze (qj 5 B.nd (qd (vj (zc qc (zc qc zi))) (zy F_law_draw B.hr B.L (zc (zb 0) (zc (ya (cw zf (zb 2)) zf) (zc zf zi)))))) ?_);exact zu (qh (qg (zc (zb 5) (zc (zy F_law_kind B.hr B.L (zc (zb 0) (zc (zb 4) (zc (cw zf (zb 2)) zi)))) (zc (zy F_law_kind B.hr B.L (zc (zb 0) (zc (ER (zb 1) (zb 4)) (zc (ya (cw zf (zb 2)) zf) zi)))) zi))))))
abbrev AA:aG:=de 58
theorem UG:FnScope ["script","one","other","sizes","things","goal","met","thing","found"] ["script"] (zx AA):=⟨rfl,rfl,rfl,by decide +kernel,rfl,by decide +kernel,by decide +kernel⟩
theorem OG(M:MF mg)(F:Fun K "law" "law" AA f fd)(F_sent:FnF (ji P w) P w K mg base cv n "sent" 3 (xb n))(F_law_things:FnF (ji P w) P w K mg base cv n "_law_things" 2 (ja n))(F_law_bundles:FnF (ji P w) P w K mg base cv n "_law_bundles" 1 (qf n))(F_law_refused:FnF (ji P w) P w K mg base cv n "_law_refused" 3 (wd n))(F_law_count:FnF (ji P w) P w K mg base cv n "_law_count" 2 (j3 n))(F_law_sizes:FnF (ji P w) P w K mg base cv n "_law_sizes" 2 (yc n))(F_law_cell:FnF (ji P w) P w K mg base cv n "_law_cell" 2 (qi n))(F_law_leafed:FnF (ji P w) P w K mg base cv n "_law_leafed" 3 (w9 n))(F_law_other:FnF (ji P w) P w K mg base cv n "_law_other" 3 (ve n))(F_law_kind:FnF (ji P w) P w K mg base cv n "_law_kind" 3 (j5 n)):FnOk P w K mg base (ji P w) (n+1) f fd ["script"] (iw cv 1 (Gj (n+1))):=
 jc M F UG λcdv A lj s H E B=>
  (by (refine ze (qj 1 B.nd (zy F_law_kind B.hr B.L (zc (zy F_law_cell B.hr B.L (zc (zb 0) (zc zf zi))) (zc (ya zf (m7 (zy F_law_cell B.hr B.L (zc (zb 0) (zc zf zi))) zf)) (zc zf zi))))) ?_);(refine ze (qj 2 B.nd (zy F_law_other B.hr B.L (zc (zb 0) (zc zf (zc (zb 1) zi))))) ?_);(refine ze (j4 (yb B.C (m7 (OK (zy F_law_cell B.hr B.L (zc (zb 0) (zc zf zi))) zf) zf) zf) (zu (qj 2 B.nd (zy F_law_leafed B.hr B.L (zc (zb 2) (zc (zy F_law_cell B.hr B.L (zc (zb 0) (zc zf zi))) (zc zf zi)))))) qw) ?_);(refine ze (qj 3 B.nd (zy F_law_sizes B.hr B.L (zc (zy F_law_cell B.hr B.L (zc (zb 0) (zc zf zi))) (zc zf zi)))) ?_);(refine ze (j4 (VQ B.C (zy F_law_count B.hr B.L (zc (zb 1) (zc (zb 3) zi))) zf) (zu (qj 3 B.nd (zy F_law_sizes B.hr B.L (zc (zy F_law_cell B.hr B.L (zc (zb 0) (zc zf zi))) (zc zf zi))))) qw) ?_);(refine ze (qj 4 B.nd (WC (zy F_law_things B.hr B.L (zc (zb 1) (zc (zb 3) zi))) OX (Pe zf))) ?_);(refine ze (j4 (N4 B.C (zy F_law_bundles B.hr B.L (zc (zb 1) zi)) (zy F_law_bundles B.hr B.L (zc (zb 2) zi))) (zu (qh (QN (Au B.C (zb 4) (vj zi)) (Bs (zy F_law_refused B.hr B.L (zc (zb 1) (zc (zb 2) (zc (qd (zb 4) zf) zi)))))))) qw) ?_);(refine ze (qj 5 B.nd (zy F_law_things B.hr B.L (zc (zb 2) (zc (zb 3) zi)))) ?_);(refine ze (Uv 6 B.nd) ?_);(refine ze (Ah 4 B.pw B.hc (ur 7 B.nd) (by (refine ze (qj 8 B.nd (zy F_sent B.hr B.L (zc (zb 1) (zc (zb 2) (zc (zb 7) zi))))) ?_);(refine ze (j4 (L2.PW.pt (RW (BP B.C (zb 8) (zb 5)) (RW (SE B.C 6 (zb 8)) (Hl (N4 B.C (zy F_sent B.hr B.L (zc (zb 2) (zc (zb 1) (zc (zb 8) zi)))) (zb 7)))))) (zu (qh Sm)) qw) ?_);exact zu (Uk 6 B.C (zb 8)))) ?_);exact zu (qh (QN (Au B.C (uv B.C (zb 4)) zf) (Bs (Au B.C (UM B.C 6) (uv B.C (zb 5)))))))
end
end KT
namespace KT
open PySem
section
variable{ρ ρ':f9}{l m:Nat}{d x y:YX}{c:Nat}{f g:FE}{a b:FS}
theorem TY{i j:Int}(h:CMulD i j):Az (.int i) (.int j)=YW (.int (i * j)):=jn h
theorem T9{i j:Int}(h:0 < j)(h2:j.natAbs < lim):Nu (.int i) (.int j)=YW (.int (i / j)):=jn ⟨h,h2⟩
theorem H4{i j:Int}(h:0 < j):FP (.int i) (.int j)=YW (.int (i % j)):=jn h
theorem HB{i j:Int}(h:j.natAbs < 2 ^ 64):CMulD i j:=.inr (.inl h)
theorem S3{i j:Int}(h:i.natAbs < 2 ^ 64):CMulD i j:=.inl h
theorem Xv(l:Nat)(i:Int):u7 l (.int i)=YW (.loc (.int i)):=rfl
theorem O9(l:Nat)(i:Bool):u7 l (.bool i)=YW (.loc (.bool i)):=rfl
theorem sv(l:Nat)(i:Z3):u7 l (.str i)=YW (.loc (.str i)):=rfl
theorem yr{l:Nat}{d:YX}(h:lf d=true):u7 l d=YW (.loc d):=jn h
theorem gz{ds:List YX}(h:lfs ds=true):u7 2 (.list ds)=YW (.own ds):=by simp [u7,lf,h]
end
theorem nu(i j:Int):av (.int i) (.int j)=YW (.bool (i == j)):=rfl
theorem uh(i j:Z3):av (.str i) (.str j)=YW (.bool (i == j)):=rfl
theorem VR(i j:Z3):Ir (.str i) (.str j)=YW (.bool (!(i == j))):=rfl
theorem Fp(i j:Int):il (.int i) (.int j)=YW (.int (i+j)):=rfl
theorem Kf(i j:Int):NL (.int i) (.int j)=YW (.int (i - j)):=rfl
theorem jt{a b:FS}{ρ ρ':f9}(h:a ρ=YW (.next ρ')):zd a b ρ=b ρ':=by unfold zd;rw [h]
theorem Rx{a b:FS}{ρ:f9}{d:YX}(h:a ρ=YW (.ret d)):zd a b ρ=YW (.ret d):=by unfold zd;rw [h]
theorem AW{n:Nat}{b:FS}{ds:List YX}{d:YX}(h:b (ds.map (λd=>YW (.par d))++Z1 (n - ds.length) YY)=YW (.ret d)):z7 n b ds=YW (.ok d):=by unfold z7;rw [h]
inductive Kd where
 | none
 | one
 | name (i:Int)
 | either (a b:Kd)
 | both (a b:Kd)
noncomputable def zj:Kd->YX
 | .none=>.tuple [.str "none"]
 | .one=>.tuple [.str "one"]
 | .name i=>.tuple [.str "name",.int i]
 | .either a b=>.tuple [.str "either",zj a,zj b]
 | .both a b=>.tuple [.str "both",zj a,zj b]
noncomputable def Kd.lg:Kd->Nat
 | .either a b=>a.lg+b.lg
 | .both a b=>a.lg+b.lg
 | _=>1
noncomputable def Kd.Ok:Kd->Prop
 | .name i=>0<=i/\i<=3
 | .either a b=>a.Ok/\b.Ok
 | .both a b=>a.Ok/\b.Ok
 | _=>True
theorem Kd.pos:∀ k:Kd,1<=k.lg
 | .none=>Ze _
 | .one=>Ze _
 | .name _=>Ze _
 | .either a b=>by have:=a.pos;simp only [lg];omega
 | .both a b=>by have:=a.pos;simp only [lg];omega
theorem qk:∀ k:Kd,lf (zj k)=true
 | .none=>rfl
 | .one=>rfl
 | .name _=>rfl
 | .either a b=>by simp [zj,lf,lfs,qk a,qk b]
 | .both a b=>by simp [zj,lf,lfs,qk a,qk b]
theorem Hb:aJ "none" =true:=by decide +kernel
theorem K9:aJ "one" =true:=by decide +kernel
theorem Mx:aJ "name" =true:=by decide +kernel
theorem Ba:aJ "either" =true:=by decide +kernel
theorem Ed:aJ "both" =true:=by decide +kernel
theorem MC:aJ "left" =true:=by decide +kernel
theorem JT:aJ "right" =true:=by decide +kernel
theorem Cw:∀ k:Kd,(zj k).canLay0=true
 | .none=>by simp [zj,Zw,Zg,Hb]
 | .one=>by simp [zj,Zw,Zg,K9]
 | .name _=>by simp [zj,Zw,Zg,Mx]
 | .either a b=>by simp [zj,Zw,Zg,Ba,Cw a,Cw b]
 | .both a b=>by simp [zj,Zw,Zg,Ed,Cw a,Cw b]
theorem r9:∀ k:Kd,(zj k).depth<=k.lg
 | .none=>by simp [zj,ZA,Zs,Kd.lg]
 | .one=>by simp [zj,ZA,Zs,Kd.lg]
 | .name _=>by simp [zj,ZA,Zs,Kd.lg]
 | .either a b=>by
  have:=r9 a;have:=r9 b;have:=a.pos;have:=b.pos
  simp [zj,ZA,Zs,Kd.lg];omega
 | .both a b=>by
  have:=r9 a;have:=r9 b;have:=a.pos;have:=b.pos
  simp [zj,ZA,Zs,Kd.lg];omega
theorem Uz:(("either":Z3) == "none")=false:=by decide +kernel
theorem Wz:(("either":Z3) == "one")=false:=by decide +kernel
theorem X2:(("either":Z3) == "name")=false:=by decide +kernel
theorem Vb:(("both":Z3) == "none")=false:=by decide +kernel
theorem W7:(("both":Z3) == "one")=false:=by decide +kernel
theorem Xs:(("both":Z3) == "name")=false:=by decide +kernel
theorem KW:(("both":Z3) == "either")=false:=by decide +kernel
theorem Um:(("one":Z3) == "none")=false:=by decide +kernel
theorem V0:(("name":Z3) == "none")=false:=by decide +kernel
theorem XF:(("name":Z3) == "one")=false:=by decide +kernel
theorem Wx:(("none":Z3) == "one")=false:=by decide +kernel
theorem Gv:(("either":Z3) == "both")=false:=by decide +kernel
theorem V1:(("none":Z3) == "either")=false:=by decide +kernel
theorem X4:(("none":Z3) == "both")=false:=by decide +kernel
theorem V4:(("one":Z3) == "either")=false:=by decide +kernel
theorem Xq:(("one":Z3) == "both")=false:=by decide +kernel
theorem Wa:(("name":Z3) == "either")=false:=by decide +kernel
theorem XH:(("name":Z3) == "both")=false:=by decide +kernel
theorem A4:∀ (xs ys:List YX),lfs (xs++ys)=(lfs xs && lfs ys)
 | [],ys=>by simp [lfs]
 | x::xs,ys=>by simp [lfs,A4 xs ys,Bool.and_assoc]
noncomputable def zw(p:List Int):YX:=.tuple (p.map .int)
theorem xw:∀ p:List Int,lfs (p.map .int)=true
 | []=>rfl
 | _::p=>by simp [lfs,lf,xw p]
theorem C1:∀ p:List Int,Zg (p.map .int)=true
 | []=>rfl
 | _::p=>by simp [Zg,Zw,C1 p]
theorem bf(p:List Int):(zw p).canLay0=true:=by simp [zw,Zw,C1]
theorem jg(p:List Int):lf (zw p)=true:=by simp [zw,lf,xw]
theorem Gb:∀ xs:List (List Int),Zg (xs.map zw)=true
 | []=>rfl
 | x::xs=>by simp [Zg,bf];exact Gb xs
theorem FV:∀ xs:List (List Int),lfs (xs.map zw)=true
 | []=>rfl
 | x::xs=>by simp [lfs,jg];exact FV xs
theorem vd(p:List Int)(i:Int)(h:p.length<=90000):il (zw p) (.tuple [.int i])=YW (zw (p++[i])):=by
 have hb:p.length+1<=big:=by unfold big;omega
 simp [il,zw,xw,lfs,lf,hb]
theorem K7(xs:List YX)(h:Zg xs=true):Ir (.list xs) (.list [])=YW (.bool (!xs.isEmpty)):=by
 have h1:ij (.list xs) (.list [])=true:=by
  simp [ij,Zw,h,Zg,ZA,Zs]
 cases xs<;>simp [Ir,vh,h1,Zm,ZW]
noncomputable def jd:Kd->Int->Option Kd
 | .either a b,s=>if s=0 then YW a else if s=1 then YW b else YY
 | .both a b,s=>if s=0 then YW a else if s=1 then YW b else YY
 | _,_=>YY
noncomputable def ql:Kd->List Int->Option Kd
 | k,[]=>YW k
 | k,s::p=>(jd k s).bind λc=>ql c p
noncomputable def j0:Kd->List Int->Option (List Kd)
 | _,[]=>YW []
 | k,s::p=>(jd k s).bind λc=>(j0 c p).map (c::·)
theorem Bw:∀ (p:List Int) (k:Kd),ql k p=(j0 k p).map λt=>(k::t).getLast (by simp)
 | [],k=>rfl
 | s::p,k=>by
  simp only [ql,j0]
  cases jd k s with
  | none=>rfl
  | some c=>
   simp only [ZH,Bw p c]
   cases j0 c p<;>simp
theorem CC:∀ (p:List Int) (k:Kd) (t:List Kd),j0 k p=YW t->t.length=p.length
 | [],k,t,h=>by cases h;rfl
 | s::p,k,t,h=>by
  simp only [j0] at h
  cases hs:jd k s with
  | none=>rw [hs] at h;cases h
  | some c=>
   rw [hs] at h
   simp only [ZH] at h
   cases ht:j0 c p with
   | none=>rw [ht] at h;cases h
   | some t'=>rw [ht] at h;cases h;simp [CC p c t' ht]
theorem GG:∀ (p:List Int) (k:Kd) (t:List Kd) (j:Nat),j0 k p=YW t->j < p.length->
  ∃ kj s kc,(k::t)[j]? =YW kj/\p[j]? =YW s/\(k::t)[j+1]? =YW kc/\jd kj s=YW kc
 | [],k,t,j,h,hj=>by simp at hj
 | s::p,k,t,j,h,hj=>by
  simp only [j0] at h
  cases hs:jd k s with
  | none=>rw [hs] at h;cases h
  | some c=>
   rw [hs] at h
   simp only [ZH] at h
   cases ht:j0 c p with
   | none=>rw [ht] at h;cases h
   | some t'=>
    rw [ht] at h;cases h
    cases j with
    | zero=>exact ⟨k,s,c,rfl,rfl,rfl,hs⟩
    | succ j=>
     obtain ⟨kj,s',kc,h1,h2,h3,h4⟩:=GG p c t' j ht (by simpa using hj)
     exact ⟨kj,s',kc,by simpa using h1,by simpa using h2,by simpa using h3,h4⟩
noncomputable def Te(w:Z3):Bool:=("either":Z3) == w || ("both":Z3) == w
theorem LS(w:Z3)(h:aJ w=true):m8 (.str w) (.tuple [.str "either",.str "both"])=YW (.bool (!Te w)):=by
 have h1:Cr (.str w) [.str "either",.str "both"]=true:=by simp [Cr,Zw,Zg,h,Ba,Ed,ZA,Zs]
 simp [m8,Ep,h1,Zm,Te]
theorem M5(i:Int):m8 (.int i) (.tuple [.int 0,.int 1])=YW (.bool (!(0 == i || 1 == i))):=by
 have h1:Cr (.int i) [.int 0,.int 1]=true:=by simp [Cr,Zw,Zg,ZA,Zs]
 simp [m8,Ep,h1,Zm]
theorem YL:Te "either" =true:=by decide +kernel
theorem YR:Te "both" =true:=by decide +kernel
theorem YC:Te "none" =false:=by decide +kernel
theorem YS:Te "one" =false:=by decide +kernel
theorem YG:Te "name" =false:=by decide +kernel
theorem Xu(x:YX)(xs:List YX):vg (x::xs) 0=YW x:=by simp [vg,BE]
theorem YA(x y:YX)(xs:List YX):vg (x::y::xs) 1=YW y:=by
 unfold vg BE
 rw [jn (by decide),jn (by simp only [Zj];omega)];rfl
theorem Y2(x y z:YX)(xs:List YX):vg (x::y::z::xs) 2=YW z:=by
 unfold vg BE
 rw [jn (by decide),jn (by simp only [Zj];omega)];rfl
theorem Xp(xs:List YX)(x:YX)(h:xs.getLast? =YW x):vg xs (-1)=YW x:=by
 cases xs with
 | nil=>simp at h
 | cons y ys=>
  unfold vg BE
  rw [qz (by decide),jn (by simp only [Zj];omega)]
  have e:((-1:Int)+(((y::ys).length:Nat):Int)).toNat=ys.length:=by simp only [Zj];omega
  rw [e]
  rw [dC] at h
  simpa using h
noncomputable def hd:Kd->Z3
 | .none=>"none"
 | .one=>"one"
 | .name _=>"name"
 | .either _ _=>"either"
 | .both _ _=>"both"
theorem ix(k:Kd):xr (zj k) (.int 0)=YW (.str (hd k)):=by cases k<;>exact Xu _ _
theorem LH(k:Kd):aJ (hd k)=true:=by cases k<;>simp only [hd,Hb,K9,Mx,Ba,Ed]
noncomputable def Ki:Kd->Bool
 | .either _ _=>true
 | .both _ _=>true
 | _=>false
theorem To(k:Kd):Te (hd k)=Ki k:=by cases k<;>simp only [hd,Ki,YL,YR,YC,YS,YG]
theorem Mz{k:Kd}(h:Ki k=true):∃ a b,zj k= .tuple [.str (hd k),zj a,zj b]/\(∀ s,jd k s=if s=0 then YW a else if s=1 then YW b else YY)/\k.lg=a.lg+b.lg:=by
 cases k with
 | either a b=>exact ⟨a,b,rfl,λs=>rfl,rfl⟩
 | both a b=>exact ⟨a,b,rfl,λs=>rfl,rfl⟩
 | none=>cases h
 | one=>cases h
 | name _=>cases h
theorem Nr{k:Kd}(h:Ki k=false)(s:Int):jd k s=YY:=by cases k<;>first | rfl | cases h
theorem ny{k c:Kd}{s:Int}(h:jd k s=YW c):xr (zj k) (.int (1+s))=YW (zj c)/\Ki k=true/\(s=0∨s=1)/\c.lg < k.lg:=by
 have hi:Ki k=true:=by
  cases hi:Ki k with
  | true=>rfl
  | false=>rw [Nr hi] at h;cases h
 obtain ⟨a,b,e,hs,hl⟩:=Mz hi
 rw [hs] at h
 rw [e]
 have pa:=a.pos
 have pb:=b.pos
 split at h
 ·rename_i h0
  cases h;subst h0
  exact ⟨YA _ _ _,hi,.inl rfl,by omega⟩
 ·split at h
  ·rename_i h1
   cases h;subst h1
   exact ⟨Y2 _ _ _ _,hi,.inr rfl,by omega⟩
  ·cases h
theorem CU:∀ (p q:List Int) (k:Kd),ql k (p++q)=(ql k p).bind λk'=>ql k' q
 | [],q,k=>by simp [ql]
 | s::p,q,k=>by
  simp only [gU,ql]
  cases jd k s with
  | none=>rfl
  | some c=>simp only [ZH];exact CU p q c
theorem AY:∀ (q:List Int) (k k':Kd),ql k q=YW k'->q.length+k'.lg<=k.lg
 | [],k,k',h=>by simp only [ql] at h;cases h;simp
 | s::q,k,k',h=>by
  simp only [ql] at h
  cases hs:jd k s with
  | none=>rw [hs] at h;cases h
  | some c=>
   rw [hs] at h
   have:=AY q c k' h
   have:=(ny hs).2.2.2
   simp only [Zj]
   omega
theorem M3{tg:FT}{body:FS}{d:YX}{ds:List YX}{ρ ρ1:f9}{c:Nat}{ρ':f9}(h1:tg d ρ=YW ρ1)(h2:body ρ1=YW (.exc c ρ')):qy tg body (d::ds) ρ=YW (.exc c ρ'):=by simp [qy,h1,h2]
theorem QX{tg:FT}{body:FS}{d:YX}{ds:List YX}{ρ ρ1:f9}{r:YX}(h1:tg d ρ=YW ρ1)(h2:body ρ1=YW (.ret r)):qy tg body (d::ds) ρ=YW (.ret r):=by simp [qy,h1,h2]
theorem fh{tg:FT}{body:FS}{d:YX}{ds:List YX}{ρ ρ1 ρ2:f9}(h1:tg d ρ=YW ρ1)(h2:body ρ1=YW (.next ρ2)):qy tg body (d::ds) ρ=qy tg body ds ρ2:=by simp [qy,h1,h2]
mutual
noncomputable def plain:YX->Bool
 | .int _=>true
 | .str s=>aJ s
 | .tuple ds=>plains ds
 | _=>false
noncomputable def plains:List YX->Bool
 | []=>true
 | d::ds=>plain d && plains ds
end
mutual
theorem Ga:∀ d:YX,plain d=true->d.canLay0=true
 | .int _,_=>rfl
 | .str s,h=>by simpa [Zw,plain] using h
 | .tuple ds,h=>by simpa [Zw] using plains_lay ds (by simpa [plain] using h)
 | .none,h=>by simp [plain] at h
 | .bool _,h=>by simp [plain] at h
 | .list _,h=>by simp [plain] at h
 | .dict _,h=>by simp [plain] at h
theorem plains_lay:∀ ds:List YX,plains ds=true->Zg ds=true
 | [],_=>rfl
 | d::ds,h=>by
  have h':plain d=true/\plains ds=true:=by simpa [plains] using h
  simp [Zg,Ga d h'.1,plains_lay ds h'.2]
end
mutual
theorem II:∀ d:YX,plain d=true->lf d=true
 | .int _,_=>rfl
 | .str s,h=>rfl
 | .tuple ds,h=>by simpa [lf] using plains_lf ds (by simpa [plain] using h)
 | .none,h=>by simp [plain] at h
 | .bool _,h=>by simp [plain] at h
 | .list _,h=>by simp [plain] at h
 | .dict _,h=>by simp [plain] at h
theorem plains_lf:∀ ds:List YX,plains ds=true->lfs ds=true
 | [],_=>rfl
 | d::ds,h=>by
  have h':plain d=true/\plains ds=true:=by simpa [plains] using h
  simp [lfs,II d h'.1,plains_lf ds h'.2]
end
mutual
theorem Na:∀ d:YX,plain d=true->Zm d d=true
 | .int _,_=>by simp [Zm]
 | .str s,h=>by simp [Zm]
 | .tuple ds,h=>by simpa [Zm] using plains_eqv ds (by simpa [plain] using h)
 | .none,h=>by simp [plain] at h
 | .bool _,h=>by simp [plain] at h
 | .list _,h=>by simp [plain] at h
 | .dict _,h=>by simp [plain] at h
theorem plains_eqv:∀ ds:List YX,plains ds=true->ZW ds ds=true
 | [],_=>rfl
 | d::ds,h=>by
  have h':plain d=true/\plains ds=true:=by simpa [plains] using h
  simp [ZW,Na d h'.1,plains_eqv ds h'.2]
end
noncomputable def rg:Kd->Option Kd
 | .either a b=>YW (.either b a)
 | .both a b=>YW (.both b a)
 | _=>YY
noncomputable def kh:Kd->Option Kd
 | .either (.either a b) c=>YW (.either a (.either b c))
 | .both (.both a b) c=>YW (.both a (.both b c))
 | _=>YY
noncomputable def yt:Kd->Option Kd
 | .both a (.either b c)=>YW (.either (.both a b) (.both a c))
 | _=>YY
noncomputable def ay:Kd->Option Kd
 | .either .none b=>YW b
 | .both .none _=>YW .none
 | .both .one b=>YW b
 | _=>YY
noncomputable def wg(w:Z3)(k:Kd):Option Kd:=
 if (w == "swap")=true then rg k else if (w == "group")=true then kh k else if (w == "spread")=true then yt k else if (w == "drop")=true then ay k else YY
noncomputable def wb:Kd->List Int->Kd->Kd
 | _,[],x=>x
 | .either a b,s::p,x=>if s=0 then .either (wb a p x) b else .either a (wb b p x)
 | .both a b,s::p,x=>if s=0 then .both (wb a p x) b else .both a (wb b p x)
 | k,_::_,_=>k
noncomputable def j7(k:Kd)(w:Z3)(p:List Int):Option Kd:=(ql k p).bind λx=>(wg w x).map (wb k p)
theorem Od:(("group":Z3) == "swap")=false:=by decide +kernel
theorem YF:(("group":Z3) == "spread")=false:=by decide +kernel
theorem Yy:(("group":Z3) == "drop")=false:=by decide +kernel
theorem Oh:(("spread":Z3) == "swap")=false:=by decide +kernel
theorem Og:(("spread":Z3) == "group")=false:=by decide +kernel
theorem Y5:(("spread":Z3) == "drop")=false:=by decide +kernel
theorem Oc:(("drop":Z3) == "swap")=false:=by decide +kernel
theorem Of:(("drop":Z3) == "group")=false:=by decide +kernel
theorem LZ:(("drop":Z3) == "spread")=false:=by decide +kernel
theorem Ig{w v:Z3}(h:(w == v)=true):w=v:=by simpa using h
theorem n5(w:Z3):w= "swap"∨w= "group"∨w= "spread"∨w= "drop"∨((w == "swap")=false/\(w == "group")=false/\(w == "spread")=false/\(w == "drop")=false):=by
 cases h1:w == "swap" with
 | true=>exact .inl (Ig h1)
 | false=>
  cases h2:w == "group" with
  | true=>exact .inr (.inl (Ig h2))
  | false=>
   cases h3:w == "spread" with
   | true=>exact .inr (.inr (.inl (Ig h3)))
   | false=>
    cases h4:w == "drop" with
    | true=>exact .inr (.inr (.inr (.inl (Ig h4))))
    | false=>exact .inr (.inr (.inr (.inr ⟨rfl,rfl,rfl,rfl⟩)))
theorem vi(k:Kd):wg "swap" k=rg k:=by simp [wg]
theorem yg(k:Kd):wg "group" k=kh k:=by simp only [wg,Od];simp
theorem wx(k:Kd):wg "spread" k=yt k:=by simp only [wg,Oh,Og];simp
theorem yd(k:Kd):wg "drop" k=ay k:=by simp only [wg,Oc,Of,LZ];simp
theorem ue(w:Z3)(k:Kd)(h:(w == "swap")=false/\(w == "group")=false/\(w == "spread")=false/\(w == "drop")=false):wg w k=YY:=by simp [wg,h.1,h.2.1,h.2.2.1,h.2.2.2]
theorem Gm(w:Z3)(k:Kd)(h:Ki k=false):wg w k=YY:=by
 unfold wg
 cases k<;>first | (cases h;done) | (simp only [rg,kh,yt,ay];(split<;>try rfl);(split<;>try rfl);(split<;>try rfl);(split<;>rfl))
theorem Rn(A:FE)(ρ ρ':f9):zr A ρ≠YW (.next ρ'):=by
 unfold zr zk
 split<;>first | (simp;done) | (dsimp only;split<;>simp)
theorem bg{c A:FE}{T:FS}{ρ:f9}{l:Nat}(h:c ρ=YW (.ok l (.bool true))):zd (qm c (zr A) zl) T ρ=zr A ρ:=by
 have hn:=Rn A ρ
 simp only [zd,qm,h,zk]
theorem q8{c A:FE}{T:FS}{ρ:f9}{l:Nat}(h:c ρ=YW (.ok l (.bool false))):zd (qm c (zr A) zl) T ρ=T ρ:=by
 simp only [zd,qm,h,zk,zl]
theorem AC{a b:FE}{ρ:f9}{l:Nat}(h:a ρ=YW (.ok l (.bool false))):yv a b ρ=YW (.ok 2 (.bool false)):=by simp only [yv,h,zm]
theorem ak{a b:FE}{ρ:f9}{l:Nat}(h:a ρ=YW (.ok l (.bool true))):yv a b ρ=b ρ:=by simp only [yv,h,zm]
theorem XA{a b:FE}{ρ:f9}{l:Nat}(h:a ρ=YW (.ok l (.bool true))):o7 a b ρ=YW (.ok 2 (.bool true)):=by simp only [o7,h,zm]
theorem X6{a b:FE}{ρ:f9}{l:Nat}(h:a ρ=YW (.ok l (.bool false))):o7 a b ρ=b ρ:=by simp only [o7,h,zm]
theorem ck{a b:FE}{ρ:f9}{l m:Nat}{x y:Z3}(ha:a ρ=YW (.ok l (.str x)))(hb:b ρ=YW (.ok m (.str y))){r:Bool}(h:(x == y)=r):qx a b ρ=YW (.ok 2 (.bool r)):=by
 simp only [qx,e2,ha,hb,zm,uh,h,fW,if_true]
theorem Pt{a:FE}{ρ:f9}{l:Nat}{x y:YX}{i:Int}(ha:a ρ=YW (.ok l x))(h:xr x (.int i)=YW y):z9 a (eC (.int i)) ρ=YW (.ok (min l 2) y):=by
 simp only [z9,e2,ha,eC,zm,h,fW,Z4,if_false]
theorem EC{a:FE}{ρ:f9}{l:Nat}{x:YX}(ha:a ρ=YW (.ok l x))(hl:lf x=true):zr a ρ=YW (.ret x):=by
 simp only [zr,ha,zk,hl,Bool.true_or,if_true]
theorem Iv{a b c:FE}{ρ:f9}{l m n:Nat}{x y z:YX}(ha:a ρ=YW (.ok l x))(hb:b ρ=YW (.ok m y))(hc:c ρ=YW (.ok n z)):zv [a,b,c] ρ=YW (.ok (min l (min m (min n 2))) (.tuple [x,y,z])):=by
 simp only [zv,zq,ha,hb,hc,zt]
noncomputable def jy(w:Z3)(p:List Int):YX:=.tuple [.str w,zw p]
theorem bc(x:YX)(xs:List YX):xr (.tuple (x::xs)) (.int 0)=YW x:=Xu x xs
theorem xg(x y:YX)(xs:List YX):xr (.tuple (x::y::xs)) (.int 1)=YW y:=YA x y xs
theorem Cb(x y z:YX)(xs:List YX):xr (.tuple (x::y::z::xs)) (.int 2)=YW z:=Y2 x y z xs
structure Sz where
 a0:Int
 a1:Int
 a2:Int
 a3:Int
noncomputable def u5(z:Sz):YX:=.tuple [.int z.a0,.int z.a1,.int z.a2,.int z.a3]
noncomputable def Sz.In(z:Sz)(lo hi:Int):Prop:=(lo<=z.a0/\z.a0<=hi)/\(lo<=z.a1/\z.a1<=hi)/\(lo<=z.a2/\z.a2<=hi)/\(lo<=z.a3/\z.a3<=hi)
noncomputable def Sz.at(z:Sz)(i:Int):Int:=if i=0 then z.a0 else if i=1 then z.a1 else if i=2 then z.a2 else z.a3
theorem Sz.at_in{z:Sz}{lo hi:Int}(h:z.In lo hi)(i:Int):lo<=z.at i/\z.at i<=hi:=by
 obtain ⟨h0,h1,h2,h3⟩:=h
 unfold Sz.at
 split
 ·exact h0
 ·split
  ·exact h1
  ·split
   ·exact h2
   ·exact h3
theorem Tf{z:Sz}{i:Int}(h0:0<=i)(h3:i<=3):vg [eB z.a0,.int z.a1,.int z.a2,.int z.a3] i=YW (.int (z.at i)):=by
 have h:i=0∨i=1∨i=2∨i=3:=by omega
 rcases h with rfl | rfl | rfl | rfl<;>rfl
noncomputable def dk(z:Sz):Kd->Int
 | .none=>0
 | .one=>1
 | .name i=>z.at i
 | .either a b=>dk z a+dk z b
 | .both a b=>dk z a * dk z b
theorem Do{z:Sz}(hz:z.In 0 1000000):∀ k:Kd,0<=dk z k/\dk z k<=((2 ^ (20 * k.lg):Nat):Int)
 | .none=>by simp only [dk,Kd.lg];exact ⟨by decide,by decide⟩
 | .one=>by simp only [dk,Kd.lg];exact ⟨by decide,by decide⟩
 | .name i=>by
  have:=Sz.at_in hz i
  simp only [dk,Kd.lg]
  exact ⟨this.1,Int.le_trans this.2 (by decide)⟩
 | .either a b=>by
  obtain ⟨a0,a1⟩:=Do hz a
  obtain ⟨b0,b1⟩:=Do hz b
  have e:(2:Nat) ^ (20 * (a.lg+b.lg))=2 ^ (20 * a.lg) * 2 ^ (20 * b.lg):=by rw [bQ,Nat.pow_add]
  have pa:2<=2 ^ (20 * a.lg):=Zo (by decide:2<=2 ^ 20) (bH (by decide) (by have:=a.pos;omega))
  have pb:2<=2 ^ (20 * b.lg):=Zo (by decide:2<=2 ^ 20) (bH (by decide) (by have:=b.pos;omega))
  simp only [dk,Kd.lg]
  rw [e]
  generalize 2 ^ (20 * a.lg)=u at *
  generalize 2 ^ (20 * b.lg)=v at *
  have h1:u+v<=u * v:=by
   have hu:u=(u - 2)+2:=by omega
   have:u * v=(u - 2) * v+2 * v:=by rw [<- fE,<- hu]
   have h3:(u - 2) * 2<=(u - 2) * v:=aS _ pb
   omega
  exact ⟨by omega,by omega⟩
 | .both a b=>by
  obtain ⟨a0,a1⟩:=Do hz a
  obtain ⟨b0,b1⟩:=Do hz b
  have e:(2:Nat) ^ (20 * (a.lg+b.lg))=2 ^ (20 * a.lg) * 2 ^ (20 * b.lg):=by rw [bQ,Nat.pow_add]
  simp only [dk,Kd.lg]
  rw [e]
  exact ⟨Int.mul_nonneg a0 b0,by rw [Int.natCast_mul];exact Int.mul_le_mul a1 b1 b0 (Int.natCast_nonneg _)⟩
theorem QQ{z:Sz}(hz:z.In 0 1000000){a b:Kd}(ha:a.lg<=12)(hb:b.lg<=12):CMulD (dk z a) (dk z b):=by
 obtain ⟨a0,a1⟩:=Do hz a
 obtain ⟨b0,b1⟩:=Do hz b
 have pa:2 ^ (20 * a.lg)<=2 ^ 240:=bH (by decide) (by omega)
 have pb:2 ^ (20 * b.lg)<=2 ^ 240:=bH (by decide) (by omega)
 have pl:2 ^ 240 < lim:=Nat.pow_lt_pow_right (by decide) (by decide)
 refine .inr (.inr ⟨?_,?_⟩)
 ·generalize 2 ^ 240=x at *;generalize 2 ^ (20 * a.lg)=y at *;omega
 ·generalize 2 ^ 240=x at *;generalize 2 ^ (20 * b.lg)=y at *;omega
theorem WH:(("left":Z3) == "right")=false:=by decide +kernel
theorem V5:(("right":Z3) == "left")=false:=by decide +kernel
noncomputable def LQ(d:YX)(s:Z3):Bool:=match d with
 | .str t=>t == s
 | _=>false
theorem Rt{d:YX}(hp:plain d=true){s:Z3}(hs:aJ s=true):vh d (.str s)=YW (LQ d s):=by
 have hl:=Ga d hp
 cases d with
 | str t=>rfl
 | int i=>simp [vh,ij,Zw,hs,ZA,Zm,LQ]
 | tuple ds=>
  have:ij (.tuple ds) (.str s)=true:=by simp [ij,hl,show (Zu s).canLay0=true from hs,ZA]
  simp [vh,this,Zm,LQ]
 | none=>simp [plain] at hp
 | bool _=>simp [plain] at hp
 | list _=>simp [plain] at hp
 | dict _=>simp [plain] at hp
theorem eq_str{d:YX}(hp:plain d=true){s:Z3}(hs:aJ s=true):av d (.str s)=YW (.bool (LQ d s)):=by simp [av,Rt hp hs]
inductive Th where
 | unit
 | num (i:Int)
 | left (t:Th)
 | right (t:Th)
 | pair (a b:Th)
noncomputable def zh:Th->YX
 | .unit=>.tuple []
 | .num i=>.int i
 | .left t=>.tuple [.str "left",zh t]
 | .right t=>.tuple [.str "right",zh t]
 | .pair a b=>.tuple [zh a,zh b]
theorem AB:∀ t:Th,plain (zh t)=true
 | .unit=>rfl
 | .num _=>rfl
 | .left t=>by simp [zh,plain,plains,MC,AB t]
 | .right t=>by simp [zh,plain,plains,JT,AB t]
 | .pair a b=>by simp [zh,plain,plains,AB a,AB b]
theorem fj(t:Th):lf (zh t)=true:=II _ (AB t)
noncomputable def jo(z:Sz):Kd->Th->Prop
 | .one,.unit=>True
 | .name i,.num v=>0<=v/\v < z.at i
 | .either a _,.left t=>jo z a t
 | .either _ b,.right t=>jo z b t
 | .both a b,.pair x y=>jo z a x/\jo z b y
 | _,_=>False
theorem qa{z:Sz}{a b:Kd}{t:Th}(h:jo z (.either a b) t):(∃ x,t= .left x/\jo z a x)∨∃ y,t= .right y/\jo z b y:=by
 cases t with
 | left x=>exact .inl ⟨x,rfl,h⟩
 | right y=>exact .inr ⟨y,rfl,h⟩
 | unit=>exact h.elim
 | num _=>exact h.elim
 | pair _ _=>exact h.elim
theorem qe{z:Sz}{a b:Kd}{t:Th}(h:jo z (.both a b) t):∃ x y,t= .pair x y/\jo z a x/\jo z b y:=by
 cases t with
 | pair x y=>exact ⟨x,y,rfl,h⟩
 | unit=>exact h.elim
 | num _=>exact h.elim
 | left _=>exact h.elim
 | right _=>exact h.elim
theorem C0{z:Sz}{t:Th}(h:jo z .one t):t= .unit:=by cases t<;>first | rfl | exact h.elim
theorem vt{z:Sz}{t:Th}(h:jo z .none t):False:=by cases t<;>exact h
noncomputable def xf(w:Z3)(k:Kd)(t:Th):Th:=
 if (w == "swap")=true then (match t with
  | .left x=>.right x
  | .right x=>.left x
  | .pair x y=>.pair y x
  | t=>t)
 else if (w == "group")=true then (match t with
  | .pair (.pair x y) u=>.pair x (.pair y u)
  | .left (.left x)=>.left x
  | .left (.right x)=>.right (.left x)
  | .right x=>.right (.right x)
  | t=>t)
 else if (w == "spread")=true then (match t with
  | .pair x (.left y)=>.left (.pair x y)
  | .pair x (.right y)=>.right (.pair x y)
  | t=>t)
 else (match t with
  | .right x=>x
  | .pair _ x=>x
  | t=>t)
noncomputable def Ay(w:Z3)(k:Kd)(t:Th):Th:=
 if (w == "swap")=true then (match t with
  | .left x=>.right x
  | .right x=>.left x
  | .pair x y=>.pair y x
  | t=>t)
 else if (w == "group")=true then (match t with
  | .pair x (.pair y u)=>.pair (.pair x y) u
  | .left x=>.left (.left x)
  | .right (.left x)=>.left (.right x)
  | .right (.right x)=>.right x
  | t=>t)
 else if (w == "spread")=true then (match t with
  | .left (.pair x y)=>.pair x (.left y)
  | .right (.pair x y)=>.pair x (.right y)
  | t=>t)
 else (match k with
  | .both _ _=>.pair .unit t
  | _=>.right t)
noncomputable def yq:Kd->List Int->(Th->Th)->Th->Th
 | _,[],f,t=>f t
 | .either a b,s::p,f,.left x=>if s=0 then .left (yq a p f x) else .left x
 | .either a b,s::p,f,.right x=>if s=0 then .right x else .right (yq b p f x)
 | .both a b,s::p,f,.pair x y=>if s=0 then .pair (yq a p f x) y else .pair x (yq b p f y)
 | _,_::_,_,t=>t
noncomputable def ki:Kd->List Int->(Th->Prop)->Th->Prop
 | _,[],P,t=>P t
 | .either a b,s::p,P,.left x=>if s=0 then ki a p P x else True
 | .either a b,s::p,P,.right x=>if s=0 then True else ki b p P x
 | .both a b,s::p,P,.pair x y=>if s=0 then ki a p P x else ki b p P y
 | _,_::_,_,_=>False
theorem AR(k:Kd)(P:Th->Prop)(t:Th):ki k [] P t=P t:=by simp only [ki]
theorem m6(k:Kd)(f:Th->Th)(t:Th):yq k [] f t=f t:=by simp only [yq]
theorem dj(z:Sz):∀ (p:List Int) (k x:Kd) (t:Th),ql k p=YW x->jo z k t->ki k p (jo z x) t
 | [],k,x,t,h,hf=>by simp only [ql] at h;cases h;rw [AR];exact hf
 | s::p,k,x,t,h,hf=>by
  simp only [ql] at h
  cases k with
  | either a b=>
   simp only [jd] at h
   rcases qa hf with ⟨u,rfl,hu⟩ | ⟨u,rfl,hu⟩
   ·unfold ki
    split
    ·rename_i h0;rw [jn h0] at h;exact dj z p a x u h hu
    ·trivial
   ·unfold ki
    split
    ·trivial
    ·rename_i h0
     rw [qz h0] at h
     split at h
     ·exact dj z p b x u h hu
     ·cases h
  | both a b=>
   simp only [jd] at h
   obtain ⟨u,v,rfl,hu,hv⟩:=qe hf
   unfold ki
   split
   ·rename_i h0;rw [jn h0] at h;exact dj z p a x u h hu
   ·rename_i h0
    rw [qz h0] at h
    split at h
    ·exact dj z p b x v h hv
    ·cases h
  | none=>cases h
  | one=>cases h
  | name _=>cases h
theorem AV(f:Th->Th)(P P':Th->Prop)(hf:∀ t,P t->P' (f t)):∀ (p:List Int) (k:Kd) (t:Th),ki k p P t->ki k p P' (yq k p f t)
 | [],k,t,h=>by rw [AR] at h ⊢;rw [m6];exact hf t h
 | s::p,k,t,h=>by
  cases k with
  | either a b=>
   cases t with
   | left x=>
    simp only [yq]
    by_cases h0:s=0
    ·simp only [ki,jn h0] at h ⊢;exact AV f P P' hf p a x h
    ·simp only [ki,qz h0]
   | right x=>
    simp only [yq]
    by_cases h0:s=0
    ·simp only [ki,jn h0]
    ·simp only [ki,qz h0] at h ⊢;exact AV f P P' hf p b x h
   | unit=>exact h.elim
   | num _=>exact h.elim
   | pair _ _=>exact h.elim
  | both a b=>
   cases t with
   | pair x y=>
    simp only [yq]
    by_cases h0:s=0
    ·simp only [ki,jn h0] at h ⊢;exact AV f P P' hf p a x h
    ·simp only [ki,qz h0] at h ⊢;exact AV f P P' hf p b y h
   | unit=>exact h.elim
   | num _=>exact h.elim
   | left _=>exact h.elim
   | right _=>exact h.elim
  | none=>cases t<;>exact h.elim
  | one=>cases t<;>exact h.elim
  | name _=>cases t<;>exact h.elim
theorem ah(f g:Th->Th)(P:Th->Prop)(hf:∀ t,P t->g (f t)=t):∀ (p:List Int) (k:Kd) (t:Th),ki k p P t->yq k p g (yq k p f t)=t
 | [],k,t,h=>by rw [AR] at h;rw [m6,m6];exact hf t h
 | s::p,k,t,h=>by
  cases k with
  | either a b=>
   cases t with
   | left x=>
    by_cases h0:s=0
    ·simp only [ki,jn h0] at h;simp only [yq,jn h0,ah f g P hf p a x h]
    ·simp only [yq,qz h0]
   | right x=>
    by_cases h0:s=0
    ·simp only [yq,jn h0]
    ·simp only [ki,qz h0] at h;simp only [yq,qz h0,ah f g P hf p b x h]
   | unit=>exact h.elim
   | num _=>exact h.elim
   | pair _ _=>exact h.elim
  | both a b=>
   cases t with
   | pair x y=>
    by_cases h0:s=0
    ·simp only [ki,jn h0] at h;simp only [yq,jn h0,ah f g P hf p a x h]
    ·simp only [ki,qz h0] at h;simp only [yq,qz h0,ah f g P hf p b y h]
   | unit=>exact h.elim
   | num _=>exact h.elim
   | left _=>exact h.elim
   | right _=>exact h.elim
  | none=>cases t<;>exact h.elim
  | one=>cases t<;>exact h.elim
  | name _=>cases t<;>exact h.elim
theorem DT{z:Sz}{w:Z3}{x y:Kd}{t:Th}(h:wg w x=YW y)(hf:jo z x t):Ay w x (xf w x t)=t:=by
 rcases n5 w with rfl | rfl | rfl | rfl | hno
 ·simp only [xf,Ay,beq_self_eq_true,if_true]
  cases t<;>rfl
 ·rw [yg] at h
  simp only [xf,Ay,Od,Z4,if_false,beq_self_eq_true,if_true]
  unfold kh at h
  split at h
  ·rcases qa hf with ⟨u,rfl,hu⟩ | ⟨u,rfl,hu⟩
   ·rcases qa hu with ⟨v,rfl,hv⟩ | ⟨v,rfl,hv⟩<;>rfl
   ·rfl
  ·obtain ⟨u,v,rfl,hu,hv⟩:=qe hf
   obtain ⟨u1,u2,rfl,_,_⟩:=qe hu
   rfl
  ·cases h
 ·rw [wx] at h
  simp only [xf,Ay,Oh,Og,Z4,if_false,beq_self_eq_true,if_true]
  unfold yt at h
  split at h
  ·obtain ⟨u,v,rfl,hu,hv⟩:=qe hf
   rcases qa hv with ⟨q,rfl,_⟩ | ⟨q,rfl,_⟩<;>rfl
  ·cases h
 ·rw [yd] at h
  simp only [xf,Ay,Oc,Of,LZ,Z4,if_false]
  unfold ay at h
  split at h
  ·rcases qa hf with ⟨u,rfl,hu⟩ | ⟨u,rfl,hu⟩
   ·exact (vt hu).elim
   ·rfl
  ·obtain ⟨u,v,rfl,hu,hv⟩:=qe hf
   exact (vt hu).elim
  ·obtain ⟨u,v,rfl,hu,hv⟩:=qe hf
   rw [C0 hu]
  ·cases h
 ·rw [ue w x hno] at h;cases h
noncomputable def nE:Kd->Nat
 | .either a b=>nE a+nE b
 | .both a b=>nE a * nE b
 | _=>1
noncomputable def sE:Kd->Nat
 | .either a b=>sE a+sE b
 | .both a b=>sE a * nE b+sE b * nE a
 | _=>1
theorem AI:∀ k:Kd,1<=nE k
 | .none=>Ze _
 | .one=>Ze _
 | .name _=>Ze _
 | .either a b=>by have:=AI a;simp only [nE];omega
 | .both a b=>fG (AI a) (AI b)
theorem vv:∀ k:Kd,k.lg<=sE k
 | .none=>Ze _
 | .one=>Ze _
 | .name _=>Ze _
 | .either a b=>by have:=vv a;have:=vv b;simp only [sE,Kd.lg];omega
 | .both a b=>by
  have h1:=vv a;have h2:=vv b
  have h3:sE a * 1<=sE a * nE b:=aS _ (AI b)
  have h4:sE b * 1<=sE b * nE a:=aS _ (AI a)
  simp only [sE,Kd.lg]
  omega
theorem Vh(w:Z3)(x y:Kd)(h:wg w x=YW y):nE y<=nE x/\sE y<=sE x:=by
 rcases n5 w with rfl | rfl | rfl | rfl | hno
 ·rw [vi] at h
  cases x<;>simp [rg] at h<;>subst h<;>simp only [nE,sE]
  ·omega
  ·exact ⟨iL (dO _ _),by omega⟩
 ·rw [yg] at h
  unfold kh at h
  split at h<;>cases h<;>simp only [nE,sE]
  ·omega
  ·simp only [bQ,fE,Nat.mul_assoc,dO,Nat.mul_left_comm]
   omega
 ·rw [wx] at h
  unfold yt at h
  split at h<;>cases h
  simp only [nE,sE,bQ,fE,Nat.mul_assoc,dO,Nat.mul_left_comm]
  omega
 ·rw [yd] at h
  unfold ay at h
  split at h<;>cases h<;>simp only [nE,sE]
  ·omega
  ·have:=AI (by assumption)
   omega
  ·omega
 ·rw [ue w x hno] at h;cases h
theorem IS:∀ (p:List Int) (k x y:Kd),ql k p=YW x->nE y<=nE x->sE y<=sE x->nE (wb k p y)<=nE k/\sE (wb k p y)<=sE k
 | [],k,x,y,h,h1,h2=>by simp only [ql] at h;cases h;simp only [wb];exact ⟨h1,h2⟩
 | s::p,k,x,y,h,h1,h2=>by
  simp only [ql] at h
  cases k with
  | either a b=>
   simp only [jd] at h
   simp only [wb]
   by_cases h0:s=0
   ·rw [jn h0] at h ⊢
    have:=IS p a x y h h1 h2
    simp only [nE,sE];omega
   ·rw [qz h0] at h ⊢
    split at h
    ·have:=IS p b x y h h1 h2
     simp only [nE,sE];omega
    ·cases h
  | both a b=>
   simp only [jd] at h
   simp only [wb]
   by_cases h0:s=0
   ·rw [jn h0] at h ⊢
    have q:=IS p a x y h h1 h2
    simp only [nE,sE]
    exact ⟨cA _ q.1,Nat.add_le_add (cA _ q.2) (aS _ q.1)⟩
   ·rw [qz h0] at h ⊢
    split at h
    ·have q:=IS p b x y h h1 h2
     simp only [nE,sE]
     exact ⟨aS _ q.1,Nat.add_le_add (aS _ q.1) (cA _ q.2)⟩
    ·cases h
  | none=>cases h
  | one=>cases h
  | name _=>cases h
theorem mq{k k':Kd}{w:Z3}{p:List Int}(h:j7 k w p=YW k'):∃ x y,ql k p=YW x/\wg w x=YW y/\k'=wb k p y:=by
 unfold j7 at h
 cases e:ql k p with
 | none=>rw [e] at h;cases h
 | some x=>
  rw [e] at h
  simp only [ZH] at h
  cases ey:wg w x with
  | none=>rw [ey] at h;cases h
  | some y=>rw [ey] at h;cases h;exact ⟨x,y,rfl,ey,rfl⟩
theorem Ox{k k':Kd}{w:Z3}{p:List Int}(h:j7 k w p=YW k'):nE k'<=nE k/\sE k'<=sE k:=by
 obtain ⟨x,y,h1,h2,rfl⟩:=mq h
 have:=Vh w x y h2
 exact IS p k x y h1 this.1 this.2
noncomputable def TN:Nat->Nat
 | 1=>1 | 2=>2 | 3=>3 | 4=>4 | 5=>6 | 6=>9 | 7=>12 | _=>0
noncomputable def TS:Nat->Nat
 | 1=>1 | 2=>2 | 3=>4 | 4=>8 | 5=>14 | 6=>24 | 7=>40 | _=>0
theorem Y0:∀ i:Fin 8,∀ j:Fin 8,1<=i.val->1<=j.val->i.val+j.val<=7->TN i.val+TN j.val<=TN (i.val+j.val)/\TN i.val * TN j.val<=TN (i.val+j.val)/\TS i.val+TS j.val<=TS (i.val+j.val)/\TS i.val * TN j.val+TS j.val * TN i.val<=TS (i.val+j.val):=by decide
theorem P4:∀ k:Kd,k.lg<=7->nE k<=TN k.lg/\sE k<=TS k.lg
 | .none,_=>⟨Ze _,Ze _⟩
 | .one,_=>⟨Ze _,Ze _⟩
 | .name _,_=>⟨Ze _,Ze _⟩
 | .either a b,h=>by
  have pa:=a.pos;have pb:=b.pos
  simp only [Kd.lg] at h ⊢
  obtain ⟨a1,a2⟩:=P4 a (by exact Zq ‹_›)
  obtain ⟨b1,b2⟩:=P4 b (by exact Z2 ‹_›)
  have t:=Y0 ⟨a.lg,by omega⟩ ⟨b.lg,by omega⟩ pa pb h
  simp only at t
  simp only [nE,sE]
  omega
 | .both a b,h=>by
  have pa:=a.pos;have pb:=b.pos
  simp only [Kd.lg] at h ⊢
  obtain ⟨a1,a2⟩:=P4 a (by exact Zq ‹_›)
  obtain ⟨b1,b2⟩:=P4 b (by exact Z2 ‹_›)
  have t:=Y0 ⟨a.lg,by omega⟩ ⟨b.lg,by omega⟩ pa pb h
  simp only at t
  simp only [nE,sE]
  have m1:=fG a1 b1
  have m2:=fG a2 b1
  have m3:=fG b2 a1
  exact ⟨Zo m1 t.2.1,Zo (Nat.add_le_add m2 m3) t.2.2.2⟩
theorem N6{z:Sz}{w:Z3}{x y:Kd}{t:Th}(h:wg w x=YW y)(hf:jo z x t):jo z y (xf w x t):=by
 rcases n5 w with rfl | rfl | rfl | rfl | hno
 ·rw [vi] at h
  simp only [xf,beq_self_eq_true,if_true]
  cases x<;>simp [rg] at h<;>subst h
  ·rcases qa hf with ⟨u,rfl,hu⟩ | ⟨u,rfl,hu⟩<;>exact hu
  ·obtain ⟨u,v,rfl,hu,hv⟩:=qe hf
   exact ⟨hv,hu⟩
 ·rw [yg] at h
  simp only [xf,Od,Z4,if_false,beq_self_eq_true,if_true]
  unfold kh at h
  split at h
  ·cases h
   rcases qa hf with ⟨u,rfl,hu⟩ | ⟨u,rfl,hu⟩
   ·rcases qa hu with ⟨v,rfl,hv⟩ | ⟨v,rfl,hv⟩<;>exact hv
   ·exact hu
  ·cases h
   obtain ⟨u,v,rfl,hu,hv⟩:=qe hf
   obtain ⟨u1,u2,rfl,h1,h2⟩:=qe hu
   exact ⟨h1,h2,hv⟩
  ·cases h
 ·rw [wx] at h
  simp only [xf,Oh,Og,Z4,if_false,beq_self_eq_true,if_true]
  unfold yt at h
  split at h
  ·cases h
   obtain ⟨u,v,rfl,hu,hv⟩:=qe hf
   rcases qa hv with ⟨q,rfl,hq⟩ | ⟨q,rfl,hq⟩<;>exact ⟨hu,hq⟩
  ·cases h
 ·rw [yd] at h
  simp only [xf,Oc,Of,LZ,Z4,if_false]
  unfold ay at h
  split at h
  ·cases h
   rcases qa hf with ⟨u,rfl,hu⟩ | ⟨u,rfl,hu⟩
   ·exact (vt hu).elim
   ·exact hu
  ·cases h
   obtain ⟨u,v,rfl,hu,hv⟩:=qe hf
   exact (vt hu).elim
  ·cases h
   obtain ⟨u,v,rfl,hu,hv⟩:=qe hf
   exact hv
  ·cases h
 ·rw [ue w x hno] at h;cases h
theorem A8{z:Sz}{x y:Kd}(f:Th->Th)(hxy:∀ t,jo z x t->jo z y (f t)):∀ (p:List Int) (k:Kd) (t:Th),ql k p=YW x->jo z k t->jo z (wb k p y) (yq k p f t)
 | [],k,t,h,hf=>by simp only [ql] at h;cases h;rw [m6];simp only [wb];exact hxy t hf
 | s::p,k,t,h,hf=>by
  simp only [ql] at h
  cases k with
  | either a b=>
   simp only [jd] at h
   simp only [wb]
   rcases qa hf with ⟨u,rfl,hu⟩ | ⟨u,rfl,hu⟩
   ·simp only [yq]
    by_cases h0:s=0
    ·simp only [jn h0] at h ⊢;exact A8 f hxy p a u h hu
    ·simp only [qz h0] at h ⊢;exact hu
   ·simp only [yq]
    by_cases h0:s=0
    ·simp only [jn h0];exact hu
    ·simp only [qz h0] at h ⊢
     split at h
     ·exact A8 f hxy p b u h hu
     ·cases h
  | both a b=>
   simp only [jd] at h
   simp only [wb]
   obtain ⟨u,v,rfl,hu,hv⟩:=qe hf
   simp only [yq]
   by_cases h0:s=0
   ·simp only [jn h0] at h ⊢;exact ⟨A8 f hxy p a u h hu,hv⟩
   ·simp only [qz h0] at h ⊢
    split at h
    ·exact ⟨hu,A8 f hxy p b v h hv⟩
    ·cases h
  | none=>cases h
  | one=>cases h
  | name _=>cases h
noncomputable def o8:FS:=(zd (qm (o7 (yf (z9 (za 3) (eC (.int 0))) (zv [eC (.str "either"),eC (.str "both")])) (yf (za 4) (zv [eC (.int 0),eC (.int 1)]))) (Aj 2) zl) (zd (zo 3 (z9 (za 3) (qt (eC (.int 1)) (za 4)))) (yz 2 (za 3))))
theorem QO(k:Kd)(s:Int)(xs:List YX)(x0 x1:Option Slot)(hx:xs.length<=1000):
  match jd k s with
  | some c=>o8 [x0,x1,YW (.own xs),YW (.loc (zj k)),YW (.loc (.int s))]=YW (.next [x0,x1,YW (.own (xs++[zj c])),YW (.loc (zj c)),YW (.loc (.int s))])
  | none=>∃ ρ,o8 [x0,x1,YW (.own xs),YW (.loc (zj k)),YW (.loc (.int s))]=YW (.exc 2 ρ):=by
 have hb:xs.length < big:=by unfold big;omega
 have hw:=LS (hd k) (LH k)
 rw [To] at hw
 cases hs:jd k s with
 | some c=>
  obtain ⟨h1,h2,h3,_⟩:=ny hs
  have h4:(0 == s || 1 == s)=true:=by rcases h3 with rfl | rfl<;>rfl
  simp only
  simp only [o8,zd,qm,o7,yf,e2,z9,za,eC,zm,zk,ix,zv,zq,zt,hw,h2,M5,h4,zl,zo,qt,il,h1,fW,yr (qk _),gW,ZQ,ZU,cT,cU,yz,qk,bI,decide_eq_true hb,if_true]
 | none=>
  simp only
  cases hi:Ki k with
  | false=>
   rw [hi] at hw
   exact ⟨_,by simp only [o8,zd,qm,o7,yf,e2,z9,za,eC,zm,zk,ix,zv,zq,zt,hw,fW,iV,ZQ,ZU,Aj];rfl⟩
  | true=>
   rw [hi] at hw
   obtain ⟨a,b,e,hst,_⟩:=Mz hi
   rw [hst] at hs
   have h4:(0 == s || 1 == s)=false:=by
    split at hs
    ·cases hs
    ·split at hs
     ·cases hs
     ·simp;omega
   exact ⟨_,by simp only [o8,zd,qm,o7,yf,e2,z9,za,eC,zm,zk,ix,zv,zq,zt,hw,M5,h4,fW,iV,gW,ZQ,ZU,Aj];rfl⟩
theorem M0(x0 x1:Option Slot):∀ (p:List Int) (k:Kd) (xs:List YX) (x4:Option Slot),xs.length+p.length<=1000->
  match j0 k p with
  | some t=>∃ x3' x4',qy (z8 4) o8 (p.map .int) [x0,x1,YW (.own xs),YW (.loc (zj k)),x4]=YW (.next [x0,x1,YW (.own (xs++t.map zj)),x3',x4'])
  | none=>∃ ρ,qy (z8 4) o8 (p.map .int) [x0,x1,YW (.own xs),YW (.loc (zj k)),x4]=YW (.exc 2 ρ)
 | [],k,xs,x4,_=>by simp only [j0];exact ⟨_,_,by simp [qy];exact ⟨rfl,rfl⟩⟩
 | s::p,k,xs,x4,hx=>by
  simp only [Zj] at hx
  have h:=QO k s xs x0 x1 (by exact Zq ‹_›)
  simp only [j0]
  cases hs:jd k s with
  | none=>
   rw [hs] at h
   obtain ⟨ρ,h⟩:=h
   exact ⟨ρ,M3 (tg:=z8 4) (d:=.int s) rfl h⟩
  | some c=>
   rw [hs] at h
   simp only at h
   have e:qy (z8 4) o8 ((s::p).map .int) [x0,x1,YW (.own xs),YW (.loc (zj k)),x4]=qy (z8 4) o8 (p.map .int) _:=fh (tg:=z8 4) (d:=.int s) rfl h
   rw [e]
   have r:=M0 x0 x1 p c (xs++[zj c]) (YW (.loc (.int s))) (by simp;omega)
   simp only [ZH]
   cases ht:j0 c p with
   | none=>rw [ht] at r;simpa using r
   | some t=>rw [ht] at r;simpa using r
theorem Qz(n:Nat)(k:Kd)(p:List Int)(hp:p.length<=900):fv (n+1) [zj k,zw p]=match j0 k p with
  | some t=>YW (.ok (.list ((k::t).map zj)))
  | none=>YW (.exc 2):=by
 have e:o5=zd (zo 2 (qv [za 0])) (zd (zo 3 (za 0)) (zd (vf 1 (z8 4) o8) (zr (za 2)))):=rfl
 show z7 5 o5 [zj k,zw p]=_
 rw [e]
 have h:=M0 (YW (.par (zj k))) (YW (.par (zw p))) p k [zj k] YY (by simp;omega)
 cases q:j0 k p with
 | none=>
  rw [q] at h
  obtain ⟨ρ,h⟩:=h
  simp only [zw] at h
  simp [z7,zd,zo,qv,zq,zt,za,zk,u7,lf,lfs,qk,vf,zw,xw,h]
 | some t=>
  rw [q] at h
  obtain ⟨x3,x4,h⟩:=h
  simp only [zw] at h
  simp [z7,zd,zo,qv,zq,zt,za,zk,u7,lf,lfs,qk,vf,zw,xw,h,zr]
noncomputable def Td:FS:=(zd (qm (qx (za 0) (eC (.str "swap"))) (zr (eC (.bool true))) zl) (zd (qm (qx (za 0) (eC (.str "group"))) (zr (qx (za 3) (za 2))) zl) (zd (qm (qx (za 0) (eC (.str "spread"))) (zr (yv (qx (za 2) (eC (.str "both"))) (qx (z9 (z9 (za 1) (eC (.int 2))) (eC (.int 0))) (eC (.str "either"))))) zl) (zr (yv (qx (za 0) (eC (.str "drop"))) (o7 (qx (za 3) (eC (.str "none"))) (yv (qx (za 2) (eC (.str "both"))) (qx (za 3) (eC (.str "one"))))))))))
theorem RY(n:Nat)(w:Z3)(k:Kd):CY (n+1) [.str w,zj k]=YW (.ok (.bool (wg w k).isSome)):=by
 show z7 4 He [.str w,zj k]=_
 have hw:=LS (hd k) (LH k)
 rw [To] at hw
 have eb:He=zd (zo 2 (z9 (za 1) (eC (.int 0)))) (zd (qm (yf (za 2) (zv [eC (.str "either"),eC (.str "both")])) (zr (eC (.bool false))) zl) (zd (zo 3 (z9 (z9 (za 1) (eC (.int 1))) (eC (.int 0)))) Td)):=rfl
 have st:∀ T:FS,zd (zo 2 (z9 (za 1) (eC (.int 0)))) T [YW (.par (.str w)),YW (.par (zj k)),YY,YY]=T [YW (.par (.str w)),YW (.par (zj k)),YW (.loc (.str (hd k))),YY]:=λT=>by
  refine jt ?_
  simp [zo,z9,e2,za,eC,zm,zk,ix,sv]
 have tst:yf (za 2) (zv [eC (.str "either"),eC (.str "both")]) [YW (.par (.str w)),YW (.par (zj k)),YW (.loc (.str (hd k))),YY]=YW (.ok 2 (.bool (!Ki k))):=by
  simp only [yf,e2,za,zv,zq,eC,zt,zm,hw,ZQ,ZU,fW,if_true]
 refine AW (b:=He) ?_
 rw [eb]
 refine (st _).trans ?_
 cases hi:Ki k with
 | false=>
  rw [hi] at tst
  rw [bg tst,Gm w k hi]
  rfl
 | true=>
  rw [hi] at tst
  rw [q8 tst]
  obtain ⟨a,b,e,hk⟩:∃ a b,zj k= .tuple [.str (hd k),zj a,zj b]/\(k= .either a b∨k= .both a b):=by
   cases k with
   | either a b=>exact ⟨a,b,rfl,.inl rfl⟩
   | both a b=>exact ⟨a,b,rfl,.inr rfl⟩
   | none=>cases hi
   | one=>cases hi
   | name _=>cases hi
  have d1:xr (zj k) (.int 1)=YW (zj a):=by rw [e];exact xg _ _ _
  have d2:xr (zj k) (.int 2)=YW (zj b):=by rw [e];exact Cb _ _ _ _
  have s3:∀ T:FS,zd (zo 3 (z9 (z9 (za 1) (eC (.int 1))) (eC (.int 0)))) T [YW (.par (.str w)),YW (.par (zj k)),YW (.loc (.str (hd k))),YY]=T [YW (.par (.str w)),YW (.par (zj k)),YW (.loc (.str (hd k))),YW (.loc (.str (hd a)))]:=λT=>by
   refine jt ?_
   simp [zo,z9,e2,za,eC,zm,zk,d1,ix,sv]
  refine (s3 _).trans ?_
  have v0:za 0 [YW (.par (.str w)),YW (.par (zj k)),YW (.loc (.str (hd k))),YW (.loc (.str (hd a)))]=YW (.ok 0 (.str w)):=rfl
  have v1:za 1 [YW (.par (.str w)),YW (.par (zj k)),YW (.loc (.str (hd k))),YW (.loc (.str (hd a)))]=YW (.ok 0 (zj k)):=rfl
  have v2:za 2 [YW (.par (.str w)),YW (.par (zj k)),YW (.loc (.str (hd k))),YW (.loc (.str (hd a)))]=YW (.ok 1 (.str (hd k))):=rfl
  have v3:za 3 [YW (.par (.str w)),YW (.par (zj k)),YW (.loc (.str (hd k))),YW (.loc (.str (hd a)))]=YW (.ok 1 (.str (hd a))):=rfl
  generalize [YW (Slot.par (.str w)),YW (.par (zj k)),YW (.loc (.str (hd k))),YW (.loc (.str (hd a)))]=R at v0 v1 v2 v3 ⊢
  have vC:∀ s:Z3,eC (.str s) R=YW (.ok 2 (.str s)):=λs=>rfl
  have b0:=Pt (Pt v1 (i:=2) d2) (i:=0) (ix b)
  unfold Td
  rcases n5 w with rfl | rfl | rfl | rfl | ⟨h1,h2,h3,h4⟩
  ·rw [bg (ck v0 (vC _) (beq_self_eq_true _)),vi]
   rcases hk with rfl | rfl<;>rfl
  ·rw [q8 (ck v0 (vC _) Od),bg (ck v0 (vC _) (beq_self_eq_true _)),yg]
   have:(kh k).isSome=(hd a == hd k):=by
    rcases hk with rfl | rfl
    ·cases a<;>simp only [kh,hd,eA,V1,V4,Wa,KW]<;>simp
    ·cases a<;>simp only [kh,hd,eA,X4,Xq,XH,Gv]<;>simp
   rw [this]
   exact EC (ck v3 v2 rfl) rfl
  ·rw [q8 (ck v0 (vC _) Oh),q8 (ck v0 (vC _) Og),bg (ck v0 (vC _) (beq_self_eq_true _)),wx]
   have:(yt k).isSome=(hd k == "both" && hd b == "either"):=by
    rcases hk with rfl | rfl
    ·simp only [yt,hd,eA,Gv,iN]
    ·cases b<;>simp only [yt,hd,eA,V1,V4,Wa,KW]<;>simp
   rw [this]
   cases hb:hd k == "both" with
   | false=>exact EC (AC (ck v2 (vC _) hb)) rfl
   | true=>exact EC ((ak (ck v2 (vC _) hb)).trans (ck b0 (vC _) (bI _).symm)) rfl
  ·rw [q8 (ck v0 (vC _) Oc),q8 (ck v0 (vC _) Of),q8 (ck v0 (vC _) LZ),yd]
   have:(ay k).isSome=(hd a == "none" || (hd k == "both" && hd a == "one")):=by
    rcases hk with rfl | rfl
    ·cases a<;>simp only [ay,hd,eA,Uz,Vb,Um,V0,Gv,iN,Bool.or_false]<;>simp
    ·cases a<;>simp only [ay,hd,eA,Uz,Wz,Vb,W7,Um,V0,XF,Wx]<;>simp
   rw [this]
   refine EC ((ak (ck v0 (vC _) (beq_self_eq_true _))).trans ?_) rfl (l:=2)
   cases ha:hd a == "none" with
   | true=>exact XA (ck v3 (vC _) ha)
   | false=>
    refine (X6 (ck v3 (vC _) ha)).trans ?_
    rw [gY]
    cases hb:hd k == "both" with
    | false=>exact AC (ck v2 (vC _) hb)
    | true=>exact (ak (ck v2 (vC _) hb)).trans (ck v3 (vC _) (bI _).symm)
  ·rw [q8 (ck v0 (vC _) h1),q8 (ck v0 (vC _) h2),q8 (ck v0 (vC _) h3),ue w k ⟨h1,h2,h3,h4⟩]
   exact EC (AC (ck v0 (vC _) h4)) rfl
theorem CD(n:Nat):yu (n+1)= .int n::yu n:=by
 unfold yu
 rw [List.range_succ_eq_map]
 simp only [ZC,List.map_map]
 congr 1
 ·simp
 ·apply cG
  intro k _
  simp only [Function.comp]
  congr 1
  push_cast
  omega
theorem ic{α:Type}{xs:List α}{k:Nat}{v:α}(h:xs[k]? =YW v):vg xs (k:Int)=YW v:=by
 have hk:k < xs.length:=(Zi.mp h).1
 unfold vg BE
 rw [jn (by omega),jn (by omega)]
 simpa using h
theorem EX:∀ ks:List Kd,lfs (ks.map zj)=true
 | []=>rfl
 | k::ks=>by simp [lfs,qk,EX ks]
theorem Oz(n:Nat)(k:Kd)(w:Z3)(p:List Int)(hp:p.length<=900):jb (n+2) [zj k,jy w p]=match j0 k p with
  | some t=>if (wg w ((k::t).getLast (by simp))).isSome then YW (.ok (.list ((k::t).map zj))) else YW (.exc 2)
  | none=>YW (.exc 2):=by
 show z7 3 (fk (CY (n+1)) (fv (n+1))) [zj k,jy w p]=_
 have ha:=Qz n k p hp
 cases ht:j0 k p with
 | none=>
  rw [ht] at ha
  simp only at ha
  simp [z7,fk,zd,zo,zg,zq,za,z9,e2,eC,zm,zt,zk,jy,xg,ha,jx]
 | some t=>
  rw [ht] at ha
  simp only at ha
  have hg:=RY n w ((k::t).getLast (by simp))
  have hl:xr (.list (((k::t):List Kd).map zj)) (.int (-1))=YW (zj ((k::t).getLast (by simp))):=Xp _ _ (by rw [gM,bW (l:=k::t) (by simp)];rfl)
  have hf:=EX (k::t)
  simp only
  generalize hL:(k::t).map zj=L at ha hl hf
  generalize hZ:(k::t).getLast (by simp)=Z at hl hg
  cases hz:(wg w Z).isSome with
  | true=>
   rw [hz] at hg
   simp [z7,fk,zd,zo,zg,zq,za,z9,e2,eC,zm,zt,zk,jy,bc,xg,ha,jx,gz hf,qm,Aw,i8,e1,IW,hl,hg,zl,zr]
  | false=>
   rw [hz] at hg
   simp [z7,fk,zd,zo,zg,zq,za,z9,e2,eC,zm,zt,zk,jy,bc,xg,ha,jx,gz hf,qm,Aw,i8,e1,IW,hl,hg,zl,zr,Aj]
noncomputable def ik:Kd->Int->Th->Option Th
 | .either _ _,s,.left x=>if s=0 then YW x else YY
 | .either _ _,s,.right x=>if s=0 then YY else YW x
 | .both _ _,s,.pair x y=>YW (if s=0 then x else y)
 | _,_,_=>YY
noncomputable def cy:Kd->List Int->Th->List Th
 | _,[],_=>[]
 | k,s::p,t=>match jd k s,ik k s t with
  | some c,YW u=>u::cy c p u
  | _,_=>[]
noncomputable def ui:FS:=(zd (qm (qx (z9 (z9 (za 0) (za 5)) (eC (.int 0))) (eC (.str "both"))) (zo 4 (z9 (za 4) (za 6))) (qm (qx (z9 (za 4) (eC (.int 0))) (z9 (eC (.tuple [.str "left",.str "right"])) (za 6))) (zo 4 (z9 (za 4) (eC (.int 1)))) (zr (za 3)))) (yz 3 (za 4)))
theorem CT{k c:Kd}{s:Int}{p:List Int}{P:Th->Prop}{t:Th}(hs:jd k s=YW c)(h:ki k (s::p) P t):
  (∃ a b,k= .both a b/\∃ x y,t= .pair x y/\ik k s t=YW (if s=0 then x else y)/\ki c p P (if s=0 then x else y))∨
  (∃ a b,k= .either a b/\((∃ x,t= .left x/\((s=0/\ik k s t=YW x/\ki c p P x)∨(s=1/\ik k s t=YY)))∨(∃ x,t= .right x/\((s=0/\ik k s t=YY)∨(s=1/\ik k s t=YW x/\ki c p P x))))):=by
 have h01:=(ny hs).2.2.1
 cases k with
 | both a b=>
  left
  cases t with
  | pair x y=>
   refine ⟨a,b,rfl,x,y,rfl,rfl,?_⟩
   simp only [jd] at hs
   simp only [ki] at h
   rcases h01 with rfl | rfl
   ·simp at hs h ⊢;subst hs;exact h
   ·simp at hs h ⊢;subst hs;exact h
  | unit=>exact h.elim
  | num _=>exact h.elim
  | left _=>exact h.elim
  | right _=>exact h.elim
 | either a b=>
  right
  refine ⟨a,b,rfl,?_⟩
  cases t with
  | left x=>
   left
   refine ⟨x,rfl,?_⟩
   simp only [jd] at hs
   simp only [ki] at h
   rcases h01 with rfl | rfl
   ·simp at hs h;subst hs;exact .inl ⟨rfl,rfl,h⟩
   ·exact .inr ⟨rfl,rfl⟩
  | right x=>
   right
   refine ⟨x,rfl,?_⟩
   simp only [jd] at hs
   simp only [ki] at h
   rcases h01 with rfl | rfl
   ·exact .inl ⟨rfl,rfl⟩
   ·simp at hs h;subst hs;exact .inr ⟨rfl,rfl,h⟩
  | unit=>exact h.elim
  | num _=>exact h.elim
  | pair _ _=>exact h.elim
 | none=>cases hs
 | one=>cases hs
 | name _=>cases hs
theorem Ts:xr (.tuple [.str "left",.str "right"]) (.int 0)=YW (.str "left"):=rfl
theorem SZ:xr (.tuple [.str "left",.str "right"]) (.int 1)=YW (.str "right"):=rfl
theorem Mg(L:List YX)(x1 x2:Option Slot)(P:Th->Prop):∀ (p:List Int) (k:Kd) (t:Th) (ts:List Kd) (acc:List YX) (j:Nat) (x5 x6:Option Slot),j0 k p=YW ts->ki k p P t->
  (∀ i kd,(k::ts)[i]? =YW kd->L[j+i]? =YW (zj kd))->acc.length+p.length<=1000->
  (∃ y4 y5 y6,qy (f7 5 6) ui (yk j (p.map .int)) [YW (.par (.list L)),x1,x2,YW (.own acc),YW (.loc (zh t)),x5,x6]=YW (.next [YW (.par (.list L)),x1,x2,YW (.own (acc++(cy k p t).map zh)),y4,y5,y6])/\(cy k p t).length=p.length)∨
  (qy (f7 5 6) ui (yk j (p.map .int)) [YW (.par (.list L)),x1,x2,YW (.own acc),YW (.loc (zh t)),x5,x6]=YW (.ret (.list (acc++(cy k p t).map zh)))/\(cy k p t).length < p.length)
 | [],k,t,ts,acc,j,x5,x6,_,_,_,_=>.inl ⟨_,x5,x6,by simp [yk,qy,cy];rfl,by simp [cy]⟩
 | s::p,k,t,ts,acc,j,x5,x6,ht,hf,hL,lq=>by
  simp only [Zj] at lq
  have hb:acc.length < big:=by unfold big;omega
  simp only [j0] at ht
  cases hs:jd k s with
  | none=>rw [hs] at ht;cases ht
  | some c=>
   rw [hs] at ht
   simp only [ZH] at ht
   cases hc:j0 c p with
   | none=>rw [hc] at ht;cases ht
   | some ts'=>
    rw [hc] at ht
    cases ht
    have h0:xr (.list L) (.int (j:Int))=YW (zj k):=ic (by simpa using hL 0 k rfl)
    have hrest:∀ i kd,(c::ts')[i]? =YW kd->L[(j+1)+i]? =YW (zj kd):=λi kd h=>by
     have:=hL (i+1) kd (by simpa using h)
     rwa [show j+1+i=j+(i+1) by exact Nat.add_right_comm _ _ _]
    have hhd:=ix k
    have step:∀ u:Th,ik k s t=YW u->ki c p P u->
      ui [YW (.par (.list L)),x1,x2,YW (.own acc),YW (.loc (zh t)),YW (.loc (.int (j:Int))),YW (.loc (.int s))]=YW (.next [YW (.par (.list L)),x1,x2,YW (.own (acc++[zh u])),YW (.loc (zh u)),YW (.loc (.int (j:Int))),YW (.loc (.int s))])->
      (∃ y4 y5 y6,qy (f7 5 6) ui (yk j ((s::p).map .int)) [YW (.par (.list L)),x1,x2,YW (.own acc),YW (.loc (zh t)),x5,x6]=YW (.next [YW (.par (.list L)),x1,x2,YW (.own (acc++(cy k (s::p) t).map zh)),y4,y5,y6])/\(cy k (s::p) t).length=(s::p).length)∨
      (qy (f7 5 6) ui (yk j ((s::p).map .int)) [YW (.par (.list L)),x1,x2,YW (.own acc),YW (.loc (zh t)),x5,x6]=YW (.ret (.list (acc++(cy k (s::p) t).map zh)))/\(cy k (s::p) t).length < (s::p).length):=λu hu hfu e=>by
     have e1':cy k (s::p) t=u::cy c p u:=by simp only [cy,hs,hu]
     have go:qy (f7 5 6) ui (yk j ((s::p).map .int)) [YW (.par (.list L)),x1,x2,YW (.own acc),YW (.loc (zh t)),x5,x6]=qy (f7 5 6) ui (yk (j+1) (p.map .int)) _:=fh (tg:=f7 5 6) (d:=.tuple [.int (j:Int),.int s]) rfl e
     rw [go,e1']
     rcases Mg L x1 x2 P p c u ts' (acc++[zh u]) (j+1) (YW (.loc (.int (j:Int)))) (YW (.loc (.int s))) hc hfu hrest (by simp;omega) with ⟨y4,y5,y6,q,l⟩ | ⟨q,l⟩
     ·exact .inl ⟨y4,y5,y6,by rw [q];simp,by simp [l]⟩
     ·exact .inr ⟨by rw [q];simp,by simp;omega⟩
    have stop:ik k s t=YY->ui [YW (.par (.list L)),x1,x2,YW (.own acc),YW (.loc (zh t)),YW (.loc (.int (j:Int))),YW (.loc (.int s))]=YW (.ret (.list acc))->
      (qy (f7 5 6) ui (yk j ((s::p).map .int)) [YW (.par (.list L)),x1,x2,YW (.own acc),YW (.loc (zh t)),x5,x6]=YW (.ret (.list (acc++(cy k (s::p) t).map zh)))/\(cy k (s::p) t).length < (s::p).length):=λhu e=>by
     have e1':cy k (s::p) t=[]:=by simp only [cy,hs,hu]
     rw [e1']
     refine ⟨?_,by simp⟩
     have go:qy (f7 5 6) ui (yk j ((s::p).map .int)) [YW (.par (.list L)),x1,x2,YW (.own acc),YW (.loc (zh t)),x5,x6]=_:=QX (tg:=f7 5 6) (d:=.tuple [.int (j:Int),.int s]) rfl e
     rw [go]
     simp
    rcases CT hs hf with ⟨a,b,rfl,x,y,rfl,hu,hfu⟩ | ⟨a,b,rfl,⟨x,rfl,h | h⟩ | ⟨x,rfl,h | h⟩⟩
    ·refine step _ hu hfu ?_
     have h01:=(ny hs).2.2.1
     rcases h01 with rfl | rfl
     ·simp [ui,zd,qm,qx,e2,z9,za,eC,zm,zk,h0,hhd,hd,uh,zo,zh,bc,yr,fj,yz,hb]
     ·simp [ui,zd,qm,qx,e2,z9,za,eC,zm,zk,h0,hhd,hd,uh,zo,zh,xg,yr,fj,yz,hb]
    ·obtain ⟨rfl,hu,hfu⟩:=h
     refine step _ hu hfu ?_
     simp [ui,zd,qm,qx,e2,z9,za,eC,zm,zk,h0,hhd,hd,uh,Gv,Ts,zo,zh,bc,xg,yr,fj,yz,hb]
    ·obtain ⟨rfl,hu⟩:=h
     refine .inr (stop hu ?_)
     simp [ui,zd,qm,qx,e2,z9,za,eC,zm,zk,h0,hhd,hd,uh,Gv,SZ,WH,zh,bc,xg,zr]
    ·obtain ⟨rfl,hu⟩:=h
     refine .inr (stop hu ?_)
     simp [ui,zd,qm,qx,e2,z9,za,eC,zm,zk,h0,hhd,hd,uh,Gv,Ts,V5,zh,bc,xg,zr]
    ·obtain ⟨rfl,hu,hfu⟩:=h
     refine step _ hu hfu ?_
     simp [ui,zd,qm,qx,e2,z9,za,eC,zm,zk,h0,hhd,hd,uh,Gv,SZ,zo,zh,bc,xg,yr,fj,yz,hb]
theorem DL(n:Nat)(k:Kd)(t:Th)(p:List Int)(ts:List Kd)(P:Th->Prop)(ht:j0 k p=YW ts)(hf:ki k p P t)(hp:p.length<=900):
  vc (n+1) [.list ((k::ts).map zj),zw p,zh t]=YW (.ok (.list ((t::cy k p t).map zh))):=by
 have e:m9=zd (zo 3 (qv [za 2])) (zd (zo 4 (za 2)) (zd (CN 1 (f7 5 6) ui) (zr (za 3)))):=rfl
 show z7 7 m9 [.list ((k::ts).map zj),zw p,zh t]=_
 rw [e]
 have h:=Mg ((k::ts).map zj) (YW (.par (zw p))) (YW (.par (zh t))) P p k t ts [zh t] 0 YY YY ht hf (λi kd h=>by rw [Nat.zero_add,ZG,h];rfl) (by simp;omega)
 generalize (k::ts).map zj=L at h
 simp only [zw] at h
 rcases h with ⟨y4,y5,y6,q,_⟩ | ⟨q,_⟩
 ·simp [z7,zd,zo,qv,zq,zt,za,zk,u7,lf,lfs,fj,CN,zw,xw,q,zr]
 ·simp [z7,zd,zo,qv,zq,zt,za,zk,u7,lf,lfs,fj,CN,zw,xw,q,zr]
theorem LX(P:Th->Prop):∀ (p:List Int) (k:Kd) (t:Th) (ts:List Kd) (j:Nat),j0 k p=YW ts->(cy k p t).length=p.length->j < p.length->
  ∃ kj s kc tj tc,(k::ts)[j]? =YW kj/\p[j]? =YW s/\(k::ts)[j+1]? =YW kc/\jd kj s=YW kc/\(t::cy k p t)[j]? =YW tj/\(t::cy k p t)[j+1]? =YW tc/\ik kj s tj=YW tc
 | [],k,t,ts,j,_,_,hj=>by simp at hj
 | s::p,k,t,ts,j,ht,hl,hj=>by
  simp only [j0] at ht
  cases hs:jd k s with
  | none=>rw [hs] at ht;cases ht
  | some c=>
   rw [hs] at ht
   simp only [ZH] at ht
   cases hc:j0 c p with
   | none=>rw [hc] at ht;cases ht
   | some ts'=>
    rw [hc] at ht
    cases ht
    cases hu:ik k s t with
    | none=>simp [cy,hs,hu] at hl
    | some u=>
     have e:cy k (s::p) t=u::cy c p u:=by simp only [cy,hs,hu]
     rw [e] at hl ⊢
     cases j with
     | zero=>exact ⟨k,s,c,t,u,rfl,rfl,rfl,hs,rfl,rfl,hu⟩
     | succ j=>
      obtain ⟨kj,s',kc,tj,tc,h1,h2,h3,h4,h5,h6,h7⟩:=LX P p c u ts' j hc (by simpa using hl) (by simpa using hj)
      exact ⟨kj,s',kc,tj,tc,by simpa using h1,by simpa using h2,by simpa using h3,h4,by simpa using h5,by simpa using h6,h7⟩
theorem J0(P:Th->Prop):∀ (p:List Int) (k:Kd) (t:Th) (ts:List Kd),j0 k p=YW ts->ki k p P t->(cy k p t).length=p.length->∃ u,(t::cy k p t)[p.length]? =YW u/\P u
 | [],k,t,ts,_,hf,_=>⟨t,rfl,by rwa [AR] at hf⟩
 | s::p,k,t,ts,ht,hf,hl=>by
  simp only [j0] at ht
  cases hs:jd k s with
  | none=>rw [hs] at ht;cases ht
  | some c=>
   rw [hs] at ht
   simp only [ZH] at ht
   cases hc:j0 c p with
   | none=>rw [hc] at ht;cases ht
   | some ts'=>
    cases hu:ik k s t with
    | none=>simp [cy,hs,hu] at hl
    | some u=>
     have e:cy k (s::p) t=u::cy c p u:=by simp only [cy,hs,hu]
     rw [e] at hl ⊢
     have hfu:ki c p P u:=by
      rcases CT hs hf with ⟨a,b,rfl,x,y,rfl,h,hfu⟩ | ⟨a,b,rfl,⟨x,rfl,h | h⟩ | ⟨x,rfl,h | h⟩⟩
      ·rw [hu] at h;cases h;exact hfu
      ·rw [hu] at h;cases h.2.1;exact h.2.2
      ·rw [hu] at h;cases h.2
      ·rw [hu] at h;cases h.2
      ·rw [hu] at h;cases h.2.1;exact h.2.2
     obtain ⟨v,h1,h2⟩:=J0 P p c u ts' hc hfu (by simpa using hl)
     exact ⟨v,by simpa using h1,h2⟩
theorem Gy(f:Th->Th)(P:Th->Prop):∀ (p:List Int) (k:Kd) (t:Th) (ts:List Kd),j0 k p=YW ts->ki k p P t->(cy k p t).length < p.length->yq k p f t=t
 | [],k,t,ts,_,_,hl=>by simp at hl
 | s::p,k,t,ts,ht,hf,hl=>by
  simp only [j0] at ht
  cases hs:jd k s with
  | none=>rw [hs] at ht;cases ht
  | some c=>
   rw [hs] at ht
   simp only [ZH] at ht
   cases hc:j0 c p with
   | none=>rw [hc] at ht;cases ht
   | some ts'=>
    have h01:=(ny hs).2.2.1
    have reK:∀ u,ik k s t=YW u->ki c p P u->yq c p f u=u:=λu hu hfu=>by
     have e:cy k (s::p) t=u::cy c p u:=by simp only [cy,hs,hu]
     rw [e] at hl
     exact Gy f P p c u ts' hc hfu (by simpa using hl)
    rcases CT hs hf with ⟨a,b,rfl,x,y,rfl,hu,hfu⟩ | ⟨a,b,rfl,⟨x,rfl,h | h⟩ | ⟨x,rfl,h | h⟩⟩
    ·have:=reK _ hu hfu
     simp only [jd] at hs
     rcases h01 with rfl | rfl
     ·simp at hs this;subst hs;simp [yq,this]
     ·simp at hs this;subst hs;simp [yq,this]
    ·obtain ⟨rfl,hu,hfu⟩:=h
     have:=reK _ hu hfu
     simp [jd] at hs
     subst hs
     simp [yq,this]
    ·obtain ⟨rfl,hu⟩:=h
     simp [yq]
    ·obtain ⟨rfl,hu⟩:=h
     simp [yq]
    ·obtain ⟨rfl,hu,hfu⟩:=h
     have:=reK _ hu hfu
     simp [jd] at hs
     subst hs
     simp [yq,this]
theorem NX(f:Th->Th){k c:Kd}{s:Int}{t u:Th}(q:List Int)(hs:jd k s=YW c)(hu:ik k s t=YW u):
  ∃ A B,zh t= .tuple [A,B]/\lf A=true/\lf B=true/\zh (yq k (s::q) f t)=if (hd k == "both" && s == 0)=true then .tuple [zh (yq c q f u),B] else .tuple [A,zh (yq c q f u)]:=by
 have h01:=(ny hs).2.2.1
 cases k with
 | both a b=>
  cases t with
  | pair x y=>
   refine ⟨_,_,rfl,fj _,fj _,?_⟩
   simp only [jd] at hs
   simp only [ik] at hu
   rcases h01 with rfl | rfl
   ·simp at hs hu;subst hs hu;simp [yq,hd,zh]
   ·simp at hs hu;subst hs hu;simp [yq,hd,zh]
  | unit=>cases hu
  | num _=>cases hu
  | left _=>cases hu
  | right _=>cases hu
 | either a b=>
  cases t with
  | left x=>
   refine ⟨_,_,rfl,rfl,fj _,?_⟩
   simp only [jd] at hs
   simp only [ik] at hu
   rcases h01 with rfl | rfl
   ·simp at hs hu;subst hs hu;simp [yq,hd,zh,Gv]
   ·simp at hu
  | right x=>
   refine ⟨_,_,rfl,rfl,fj _,?_⟩
   simp only [jd] at hs
   simp only [ik] at hu
   rcases h01 with rfl | rfl
   ·simp at hu
   ·simp at hs hu;subst hs hu;simp [yq,hd,zh,Gv]
  | unit=>cases hu
  | num _=>cases hu
  | pair _ _=>cases hu
 | none=>cases hs
 | one=>cases hs
 | name _=>cases hs
noncomputable def Fs:FS:=(zd (zo 8 (z9 (za 5) (za 7))) (zd (zo 9 (yv (qx (z9 (z9 (za 0) (za 7)) (eC (.int 0))) (eC (.str "both"))) (qx (z9 (za 4) (za 7)) (eC (.int 0))))) (zo 6 (Ag (za 9) (zv [za 6,z9 (za 8) (eC (.int 1))]) (zv [z9 (za 8) (eC (.int 0)),za 6])))))
theorem M1(f:Th->Th)(k:Kd)(t:Th)(p:List Int)(ts:List Kd)(ht:j0 k p=YW ts)(hl:(cy k p t).length=p.length)(x1 x2 x3:Option Slot):∀ (j:Nat) (kj:Kd) (tj:Th) (x7 x8 x9:Option Slot),j<=p.length->(k::ts)[j]? =YW kj->(t::cy k p t)[j]? =YW tj->
  ∃ y7 y8 y9,qy (z8 7) Fs (yu j) [YW (.par (.list ((k::ts).map zj))),x1,x2,x3,YW (.loc (zw p)),YW (.own ((t::cy k p t).map zh)),YW (.loc (zh (yq kj (p.drop j) f tj))),x7,x8,x9]=
   YW (.next [YW (.par (.list ((k::ts).map zj))),x1,x2,x3,YW (.loc (zw p)),YW (.own ((t::cy k p t).map zh)),YW (.loc (zh (yq k p f t))),y7,y8,y9])
 | 0,kj,tj,x7,x8,x9,_,hk,hj=>by
  simp at hk hj
  subst hk hj
  exact ⟨x7,x8,x9,rfl⟩
 | j+1,kj,tj,x7,x8,x9,hjl,hk,hj=>by
  obtain ⟨k0,s,kc,t0,tc,h1,h2,h3,h4,h5,h6,h7⟩:=LX (λ_=>True) p k t ts j ht hl (by assumption)
  rw [hk] at h3
  rw [hj] at h6
  cases h3
  cases h6
  have hd':p.drop j=s::p.drop (j+1):=by
   obtain ⟨hl,he⟩:=Zi.mp h2
   rw [dA hl,he]
  obtain ⟨A,B,e1',la,lb,e2'⟩:=NX f (p.drop (j+1)) h4 h7
  have q3:xr (.list ((k::ts).map zj)) (.int (j:Int))=YW (zj k0):=ic (by rw [ZG,h1];rfl)
  have q4:xr (zw p) (.int (j:Int))=YW (.int s):=ic (by rw [ZG,h2];rfl)
  have q5:xr (.list ((t::cy k p t).map zh)) (.int (j:Int))=YW (zh t0):=ic (by rw [ZG,h5];rfl)
  obtain ⟨y7,y8,y9,r⟩:=M1 f k t p ts ht hl x1 x2 x3 j k0 t0 (YW (.loc (.int (j:Int)))) (YW (.loc (zh t0))) (YW (.loc (.bool (hd k0 == "both" && s == 0)))) (by exact ZX ‹_›) h1 h5
  refine ⟨y7,y8,y9,?_⟩
  rw [CD]
  rw [<- r,hd',e2']
  have lf1:=fj t0
  rw [e1'] at q5 lf1
  have lf2:=fj (yq kj (p.drop (j+1)) f tj)
  have hhd:=ix k0
  clear r
  generalize (k::ts).map zj=L at q3 ⊢
  generalize (t::cy k p t).map zh=M at q5 ⊢
  generalize zh (yq kj (p.drop (j+1)) f tj)=E at lf2 ⊢
  refine fh (ρ1:=[YW (.par (.list L)),x1,x2,x3,YW (.loc (zw p)),YW (.own M),YW (.loc E),YW (.loc (.int (j:Int))),x8,x9]) rfl ?_
  have eb:∀ (l:Nat) (b:Bool),u7 l (.bool b)=YW (.loc (.bool b)):=λ_ _=>rfl
  rw [e1']
  cases hb:hd k0 == "both" with
  | false=>simp [Fs,zd,zo,z9,e2,za,eC,zm,zk,q5,lf1,yr,yv,qx,q3,hhd,uh,hb,eb,Ag,zv,zq,zt,bc,xg,la,lb,lf2,lf,lfs]
  | true=>
   by_cases hs:s=0
   ·subst hs
    simp [Fs,zd,zo,z9,e2,za,eC,zm,zk,q5,lf1,yr,yv,qx,q3,q4,hhd,uh,nu,hb,eb,Ag,zv,zq,zt,bc,xg,la,lb,lf2,lf,lfs]
   ·have hs':(s == 0)=false:=by simp [hs]
    simp [Fs,zd,zo,z9,e2,za,eC,zm,zk,q5,lf1,yr,yv,qx,q3,q4,hhd,uh,nu,hs,hs',hb,eb,Ag,zv,zq,zt,bc,xg,la,lb,lf2,lf,lfs]
theorem LM:∀ ts:List Th,lfs (ts.map zh)=true
 | []=>rfl
 | t::ts=>by simp [lfs,fj,LM ts]
theorem Rp(ks:List Kd):xx (.list (ks.map zj))=YW (.int (ks.length:Int)):=by simp [xx]
theorem QJ(ks:List Th):xx (.list (ks.map zh))=YW (.int (ks.length:Int)):=by simp [xx]
theorem D3(n:Nat)(f:Th->Th)(k:Kd)(t:Th)(w:Z3)(p:List Int)(ts:List Kd)(P:Th->Prop)(a:Nat)(g:FC)(ht:j0 k p=YW ts)(hf:ki k p P t)(hp:p.length<=900)
  (hg:List.lookup a [(w8,yj (n+2)),(wu,vb (n+2))]=YW g) (hP:∀ u,P u->g [.str w,zj ((k::ts).getLast (by simp)),zh u]=YW (.ok (zh (f u)))):
  wc (n+3) [.list ((k::ts).map zj),jy w p,zh t,Mr a]=YW (.ok (zh (yq k p f t))):=by
 have e:B4 (yj (n+2)) (vb (n+2)) (vc (n+2))=(zd (zo 4 (z9 (za 1) (eC (.int 1)))) (zd (zo 5 (zg (vc (n+2)) [za 0,za 4,za 2])) (zd (qm (pq (jr (za 5)) (jr (za 0))) (zr (za 2)) zl) (zd (zo 6 (EG 3 [(w8,yj (n+2)),(wu,vb (n+2))] [z9 (za 1) (eC (.int 0)),z9 (za 0) (i8 (eC (.int 1))),z9 (za 5) (i8 (eC (.int 1)))])) (zd (bz (i0 (u4 (jr (za 4)) (eC (.int 1)))) (z8 7) Fs) (zr (za 6))))))):=rfl
 show z7 10 (B4 (yj (n+2)) (vb (n+2)) (vc (n+2))) [.list ((k::ts).map zj),jy w p,zh t,Mr a]=_
 rw [e]
 have ha:=DL (n+1) k t p ts P ht hf hp
 have lq:=CC p k ts ht
 have hle:(cy k p t).length<=p.length:=by
  clear hP hg ha e hf hp lq
  induction p generalizing k t ts with
  | nil=>simp [cy]
  | cons s p ih=>
   simp only [j0] at ht
   cases hs:jd k s with
   | none=>rw [hs] at ht;cases ht
   | some c=>
    rw [hs] at ht
    simp only [ZH] at ht
    cases hc:j0 c p with
    | none=>rw [hc] at ht;cases ht
    | some ts'=>
     cases hu:ik k s t with
     | none=>simp [cy,hs,hu]
     | some u=>have:=ih c u ts' hc;simp [cy,hs,hu];exact this
 have l1:=Rp (k::ts)
 have l2:=QJ (t::cy k p t)
 have hM:=LM (t::cy k p t)
 by_cases hlt:(cy k p t).length < p.length
 ·rw [Gy f P p k t ts ht hf hlt]
  have hc:((((t::cy k p t).length:Nat):Int) < (((k::ts).length:Nat):Int)):=by simp only [Zj];omega
  generalize (k::ts).map zj=L at ha l1
  generalize (t::cy k p t).map zh=M at ha l2 hM
  have hlp:=jg p
  generalize (((t::cy k p t).length:Nat):Int)=i1 at l2 hc
  generalize (((k::ts).length:Nat):Int)=i2 at l1 hc
  simp [z7,zd,zo,z9,e2,za,eC,zm,zk,jy,xg,yr,hlp,zg,zq,zt,ha,jx,gz hM,qm,pq,jr,e1,l1,l2,Ih,hc,zr,fj]
 ·have hcl:(cy k p t).length=p.length:=by omega
  obtain ⟨u,hu,hPu⟩:=J0 P p k t ts ht hf hcl
  have hgu:=hP u hPu
  have hc:¬ ((((t::cy k p t).length:Nat):Int) < (((k::ts).length:Nat):Int)):=by simp only [Zj];omega
  have hlast:(k::ts)[p.length]? =YW ((k::ts).getLast (by simp)):=by
   rw [<- lq,<- bW,dC];simp
  have z1:xr (.list (((k::ts):List Kd).map zj)) (.int (-1))=YW (zj ((k::ts).getLast (by simp))):=Xp _ _ (by rw [gM,bW (l:=k::ts) (by simp)];rfl)
  have z2:xr (.list ((t::cy k p t).map zh)) (.int (-1))=YW (zh u):=Xp _ _ (by rw [gM,dC,show (t::cy k p t).length - 1=p.length by simp [hcl],hu];rfl)
  obtain ⟨y7,y8,y9,r⟩:=M1 f k t p ts ht hcl (YW (.par (jy w p))) (YW (.par (zh t))) (YW (.par (Mr a))) p.length _ u YY YY YY (Ze _) hlast hu
  rw [List.drop_length,m6] at r
  have hb:((p.length:Int) - 1).natAbs<=big:=by unfold big;omega
  have hn:((p.length:Int) - 1+1).toNat=p.length:=by omega
  have hlenP:xx (zw p)=YW (.int (p.length:Int)):=by simp [xx,zw]
  have hlp:=jg p
  generalize (k::ts).map zj=L at ha l1 z1 r
  generalize (t::cy k p t).map zh=M at ha l2 hM z2 r
  generalize (((t::cy k p t).length:Nat):Int)=i1 at l2 hc
  generalize (((k::ts).length:Nat):Int)=i2 at l1 hc
  generalize zj ((k::ts).getLast (by simp))=Z at z1 hgu
  simp only [jy,Mr] at r
  simp [z7,zd,zo,z9,e2,za,eC,zm,zk,jy,bc,xg,yr,hlp,zg,zq,zt,ha,jx,gz hM,qm,pq,jr,e1,l1,l2,Ih,hc,zl,zr,fj,EG,Mr,hg,i8,IW,z1,z2,hgu,bz,i0,u4,hlenP,Kf,hb,hn,r]
theorem si(n:Nat)(a b c:YX)(ha:lf a=true)(hb:lf b=true)(hc:lf c=true):xi (n+1) [.tuple [a,.tuple [b,c]]]=YW (.ok (.tuple [b,.tuple [a,c]])):=by
 show z7 1 De _=_
 simp [z7,De,zr,zv,zq,z9,e2,za,eC,zt,zm,zk,bc,xg,lf,lfs,ha,hb,hc]
theorem Qh(n:Nat)(a b c:YX)(ha:lf a=true)(hb:lf b=true)(hc:lf c=true):vy (n+1) [.tuple [.tuple [a,b],c]]=YW (.ok (.tuple [a,.tuple [b,c]])):=by
 show z7 1 mn _=_
 simp [z7,mn,zr,zv,zq,z9,e2,za,eC,zt,zm,zk,bc,xg,lf,lfs,ha,hb,hc]
theorem Qj(n:Nat)(a b c:YX)(ha:lf a=true)(hb:lf b=true)(hc:lf c=true):yy (n+1) [.tuple [a,.tuple [b,c]]]=YW (.ok (.tuple [.tuple [a,b],c])):=by
 show z7 1 di _=_
 simp [z7,di,zr,zv,zq,z9,e2,za,eC,zt,zm,zk,bc,xg,lf,lfs,ha,hb,hc]
theorem IZ(n:Nat)(a b:YX)(ha:lf a=true)(hb:lf b=true):vq (n+1) [.bool true,.tuple [a,b]]=YW (.ok (.tuple [b,a])):=by
 show z7 2 du _=_
 simp [z7,du,zd,qm,zr,zv,zq,z9,e2,za,eC,zt,zm,zk,bc,xg,lf,lfs,ha,hb]
theorem Jm(n:Nat)(a:YX)(ha:lf a=true):vq (n+1) [.bool false,.tuple [.str "left",a]]=YW (.ok (.tuple [.str "right",a])):=by
 show z7 2 du _=_
 simp [z7,du,zd,qm,zl,zr,zv,zq,z9,e2,za,eC,Ag,qx,uh,zt,zm,zk,bc,xg,lf,lfs,ha]
theorem Jl(n:Nat)(a:YX)(ha:lf a=true):vq (n+1) [.bool false,.tuple [.str "right",a]]=YW (.ok (.tuple [.str "left",a])):=by
 show z7 2 du _=_
 simp [z7,du,zd,qm,zl,zr,zv,zq,z9,e2,za,eC,Ag,qx,uh,V5,zt,zm,zk,bc,xg,lf,lfs,ha]
theorem NW(n:Nat)(a:YX)(ha:lf a=true):yh (n+1) [.tuple [.str "right",a]]=YW (.ok (.tuple [.str "right",.tuple [.str "right",a]])):=by
 show z7 2 v8 _=_
 simp [z7,v8,zd,qm,zl,zr,zv,zq,z9,e2,za,eC,Ag,qx,uh,zt,zm,zk,bc,xg,lf,lfs,ha]
theorem KO(n:Nat)(a:YX)(ha:lf a=true):yh (n+1) [.tuple [.str "left",.tuple [.str "left",a]]]=YW (.ok (.tuple [.str "left",a])):=by
 show z7 2 v8 _=_
 simp [z7,v8,zd,qm,zl,zo,u7,zr,zv,zq,z9,e2,za,eC,Ag,qx,uh,WH,zt,zm,zk,bc,xg,lf,lfs,ha]
theorem Kx(n:Nat)(a:YX)(ha:lf a=true):yh (n+1) [.tuple [.str "left",.tuple [.str "right",a]]]=YW (.ok (.tuple [.str "right",.tuple [.str "left",a]])):=by
 show z7 2 v8 _=_
 simp [z7,v8,zd,qm,zl,zo,u7,zr,zv,zq,z9,e2,za,eC,Ag,qx,uh,WH,V5,zt,zm,zk,bc,xg,lf,lfs,ha]
theorem MV(n:Nat)(a:YX)(ha:lf a=true):wj (n+1) [.tuple [.str "left",a]]=YW (.ok (.tuple [.str "left",.tuple [.str "left",a]])):=by
 show z7 2 yx _=_
 simp [z7,yx,zd,qm,zl,zr,zv,zq,z9,e2,za,eC,Ag,qx,uh,zt,zm,zk,bc,xg,lf,lfs,ha]
theorem Lq(n:Nat)(a:YX)(ha:lf a=true):wj (n+1) [.tuple [.str "right",.tuple [.str "right",a]]]=YW (.ok (.tuple [.str "right",a])):=by
 show z7 2 yx _=_
 simp [z7,yx,zd,qm,zl,zo,u7,zr,zv,zq,z9,e2,za,eC,Ag,qx,uh,V5,zt,zm,zk,bc,xg,lf,lfs,ha]
theorem K6(n:Nat)(a:YX)(ha:lf a=true):wj (n+1) [.tuple [.str "right",.tuple [.str "left",a]]]=YW (.ok (.tuple [.str "left",.tuple [.str "right",a]])):=by
 show z7 2 yx _=_
 simp [z7,yx,zd,qm,zl,zo,u7,zr,zv,zq,z9,e2,za,eC,Ag,qx,uh,WH,V5,zt,zm,zk,bc,xg,lf,lfs,ha]
theorem WS{b:FS}{d0 d1 d2 r:YX}(h:b [YW (.par d0),YW (.par d1),YW (.par d2),YY]=YW (.ret r)):z7 4 b [d0,d1,d2]=YW (.ok r):=by
 show (match b [YW (.par d0),YW (.par d1),YW (.par d2),YY] with
  | some (.ret d)=>YW (RC.ok d)
  | some (.next _)=>YW (.ok .none)
  | some (.exc c _)=>YW (.exc c)
  | _=>YY)=_
 rw [h]
theorem Iy{x:Kd}{w t:YX}(T:FS):zd (zo 3 (qx (z9 (za 1) (eC (.int 0))) (eC (.str "both")))) T [YW (.par w),YW (.par (zj x)),YW (.par t),YY]=T [YW (.par w),YW (.par (zj x)),YW (.par t),YW (.loc (.bool (hd x == "both")))]:=by
 refine jt ?_
 simp [zo,qx,e2,z9,za,eC,zm,zk,ix,uh,O9]
theorem Va(A:FE)(ρ ρ':f9):zr A ρ≠YW (.next ρ'):=by
 unfold zr zk
 split
 ·simp
 ·simp
 ·dsimp only;split<;>simp
theorem Bf{w v:Z3}{x1 x2 x3:Option Slot}{A:FE}(T:FS):zd (qm (qx (za 0) (eC (.str v))) (zr A) zl) T [YW (.par (.str w)),x1,x2,x3]=if (w == v)=true then zr A [YW (.par (.str w)),x1,x2,x3] else T [YW (.par (.str w)),x1,x2,x3]:=by
 cases h:w == v<;>simp [zd,qm,qx,e2,za,eC,zm,zk,uh,h,zl]
 have hn:=Va A [YW (.par (.str w)),x1,x2,x3]
 cases q:zr A [YW (.par (.str w)),x1,x2,x3] with
 | none=>rfl
 | some r=>
  cases r with
  | next ρ'=>exact absurd q (hn ρ')
  | ret _=>rfl
  | exc _ _=>rfl
  | brk _=>rfl
  | cont _=>rfl
  | retL _ _=>rfl
theorem mf{g:FC}{ρ:f9}{d r:YX}(e:za 2 ρ=YW (.ok 0 d))(h:g [d]=YW (.ok r))(hl:lf r=true):zr (zg g [za 2]) ρ=YW (.ret r):=by
 simp [zr,zg,zq,e,zt,zk,h,jx,hl]
theorem G2{g:FC}{ρ:f9}{b:Bool}{d r:YX}(e3:za 3 ρ=YW (.ok 1 (.bool b)))(e:za 2 ρ=YW (.ok 0 d))(h:g [.bool b,d]=YW (.ok r))(hl:lf r=true):zr (zg g [za 3,za 2]) ρ=YW (.ret r):=by
 simp [zr,zg,zq,e,e3,zt,zk,h,jx,hl]
theorem Lx{ρ:f9}{b:Bool}{A B:FE}(e3:za 3 ρ=YW (.ok 1 (.bool b))):zr (Ag (za 3) A B) ρ=if b=true then zr A ρ else zr B ρ:=by
 cases b<;>simp [zr,Ag,e3,zm]
theorem Rm(n:Nat)(w:Z3)(x:Kd)(t r:YX)(hl:lf r=true)
  (h1:w= "swap"->vq (n+1) [.bool (hd x == "both"),t]=YW (.ok r)) (h2:w= "group"->(if (hd x == "both")=true then vy (n+1) [t] else yh (n+1) [t])=YW (.ok r))
  (h3:w= "spread"->xi (n+1) [t]=YW (.ok r)) (h4:w= "drop"->xr t (.int 1)=YW r) (h5:¬ ((w == "swap")=false/\(w == "group")=false/\(w == "spread")=false/\(w == "drop")=false)):
  yj (n+2) [.str w,zj x,t]=YW (.ok r):=by
 refine WS (b:=tv (xi (n+1)) (vy (n+1)) (yh (n+1)) (vq (n+1))) ?_
 unfold tv
 rw [Iy,Bf,Bf,Bf]
 rcases n5 w with rfl | rfl | rfl | rfl | hno
 ·rw [jn (by simp)]
  exact G2 rfl rfl (h1 rfl) hl
 ·rw [qz (by rw [Od];simp),jn (by simp),Lx (b:=hd x == "both") rfl]
  have:=h2 rfl
  split at this
  ·rename_i hb;rw [jn hb];exact mf rfl this hl
  ·rename_i hb;rw [qz hb];exact mf rfl this hl
 ·rw [qz (by rw [Oh];simp),qz (by rw [Og];simp),jn (by simp)]
  exact mf rfl (h3 rfl) hl
 ·rw [qz (by rw [Oc];simp),qz (by rw [Of];simp),qz (by rw [LZ];simp)]
  have:=h4 rfl
  simp [zr,z9,e2,za,eC,zm,zk,this,hl]
 ·exact absurd hno h5
theorem QP(n:Nat)(w:Z3)(x:Kd)(t r:YX)(hl:lf r=true)(hlt:lf t=true)
  (h1:w= "swap"->vq (n+1) [.bool (hd x == "both"),t]=YW (.ok r)) (h2:w= "group"->(if (hd x == "both")=true then yy (n+1) [t] else wj (n+1) [t])=YW (.ok r))
  (h3:w= "spread"->xi (n+1) [t]=YW (.ok r)) (h4:w= "drop"->(if (hd x == "both")=true then .tuple [.tuple [],t] else .tuple [.str "right",t])=r) (h5:¬ ((w == "swap")=false/\(w == "group")=false/\(w == "spread")=false/\(w == "drop")=false)):
  vb (n+2) [.str w,zj x,t]=YW (.ok r):=by
 refine WS (b:=AD (xi (n+1)) (yy (n+1)) (wj (n+1)) (vq (n+1))) ?_
 unfold AD
 rw [Iy,Bf,Bf,Bf]
 rcases n5 w with rfl | rfl | rfl | rfl | hno
 ·rw [jn (by simp)]
  exact G2 rfl rfl (h1 rfl) hl
 ·rw [qz (by rw [Od];simp),jn (by simp),Lx (b:=hd x == "both") rfl]
  have:=h2 rfl
  split at this
  ·rename_i hb;rw [jn hb];exact mf rfl this hl
  ·rename_i hb;rw [qz hb];exact mf rfl this hl
 ·rw [qz (by rw [Oh];simp),qz (by rw [Og];simp),jn (by simp)]
  exact mf rfl (h3 rfl) hl
 ·rw [qz (by rw [Oc];simp),qz (by rw [Of];simp),qz (by rw [LZ];simp),Lx (b:=hd x == "both") rfl]
  have:=h4 rfl
  split at this
  ·rename_i hb;rw [jn hb];subst this;simp [zr,zv,zq,za,zt,zk,lf,lfs,hlt]
  ·rename_i hb;rw [qz hb];subst this;simp [zr,zv,zq,za,eC,zt,zk,lf,lfs,hlt]
 ·exact absurd hno h5
theorem BR(a b:Kd):(hd (.both a b) == "both")=true:=by simp [hd]
theorem p9(a b:Kd):(hd (.either a b) == "both")=false:=Gv
theorem Wt{z:Sz}(n:Nat)(w:Z3)(x y:Kd)(t:Th)(h:wg w x=YW y)(hf:jo z x t):yj (n+2) [.str w,zj x,zh t]=YW (.ok (zh (xf w x t))):=by
 have L:=fj
 refine Rm n w x (zh t) _ (L _) (λe=>?_) (λe=>?_) (λe=>?_) (λe=>?_) (λe=>by rw [ue w x e] at h;cases h)
 ·subst e
  rw [vi] at h
  simp only [xf,beq_self_eq_true,if_true]
  cases x with
  | either a b=>
   rw [p9]
   rcases qa hf with ⟨u,rfl,hu⟩ | ⟨u,rfl,hu⟩
   ·exact Jm n _ (L u)
   ·exact Jl n _ (L u)
  | both a b=>
   rw [BR]
   obtain ⟨u,v,rfl,hu,hv⟩:=qe hf
   exact IZ n _ _ (L u) (L v)
  | none=>cases h
  | one=>cases h
  | name _=>cases h
 ·subst e
  rw [yg] at h
  simp only [xf,Od,Z4,if_false,beq_self_eq_true,if_true]
  unfold kh at h
  split at h
  ·rw [p9,qz (by decide)]
   rcases qa hf with ⟨u,rfl,hu⟩ | ⟨u,rfl,hu⟩
   ·rcases qa hu with ⟨v,rfl,hv⟩ | ⟨v,rfl,hv⟩
    ·exact KO n _ (L v)
    ·exact Kx n _ (L v)
   ·exact NW n _ (L u)
  ·rw [BR,jn rfl]
   obtain ⟨u,v,rfl,hu,hv⟩:=qe hf
   obtain ⟨u1,u2,rfl,_,_⟩:=qe hu
   exact Qh n _ _ _ (L u1) (L u2) (L v)
  ·cases h
 ·subst e
  rw [wx] at h
  simp only [xf,Oh,Og,Z4,if_false,beq_self_eq_true,if_true]
  unfold yt at h
  split at h
  ·obtain ⟨u,v,rfl,hu,hv⟩:=qe hf
   rcases qa hv with ⟨q,rfl,_⟩ | ⟨q,rfl,_⟩
   ·exact si n (zh u) (.str "left") (zh q) (L u) rfl (L q)
   ·exact si n (zh u) (.str "right") (zh q) (L u) rfl (L q)
  ·cases h
 ·subst e
  rw [yd] at h
  simp only [xf,Oc,Of,LZ,Z4,if_false]
  unfold ay at h
  split at h
  ·rcases qa hf with ⟨u,rfl,hu⟩ | ⟨u,rfl,hu⟩
   ·exact (vt hu).elim
   ·exact xg _ _ _
  ·obtain ⟨u,v,rfl,hu,hv⟩:=qe hf
   exact (vt hu).elim
  ·obtain ⟨u,v,rfl,hu,hv⟩:=qe hf
   exact xg _ _ _
  ·cases h
theorem VI{z:Sz}(n:Nat)(w:Z3)(x y:Kd)(t:Th)(h:wg w x=YW y)(hf:jo z x t):vb (n+2) [.str w,zj x,zh (xf w x t)]=YW (.ok (zh t)):=by
 have L:=fj
 refine QP n w x (zh (xf w x t)) _ (L _) (L _) (λe=>?_) (λe=>?_) (λe=>?_) (λe=>?_) (λe=>by rw [ue w x e] at h;cases h)
 ·subst e
  rw [vi] at h
  simp only [xf,beq_self_eq_true,if_true]
  cases x with
  | either a b=>
   rw [p9]
   rcases qa hf with ⟨u,rfl,hu⟩ | ⟨u,rfl,hu⟩
   ·exact Jl n _ (L u)
   ·exact Jm n _ (L u)
  | both a b=>
   rw [BR]
   obtain ⟨u,v,rfl,hu,hv⟩:=qe hf
   exact IZ n _ _ (L v) (L u)
  | none=>cases h
  | one=>cases h
  | name _=>cases h
 ·subst e
  rw [yg] at h
  simp only [xf,Od,Z4,if_false,beq_self_eq_true,if_true]
  unfold kh at h
  split at h
  ·rw [p9,qz (by decide)]
   rcases qa hf with ⟨u,rfl,hu⟩ | ⟨u,rfl,hu⟩
   ·rcases qa hu with ⟨v,rfl,hv⟩ | ⟨v,rfl,hv⟩
    ·exact MV n _ (L v)
    ·exact K6 n _ (L v)
   ·exact Lq n _ (L u)
  ·rw [BR,jn rfl]
   obtain ⟨u,v,rfl,hu,hv⟩:=qe hf
   obtain ⟨u1,u2,rfl,_,_⟩:=qe hu
   exact Qj n _ _ _ (L u1) (L u2) (L v)
  ·cases h
 ·subst e
  rw [wx] at h
  simp only [xf,Oh,Og,Z4,if_false,beq_self_eq_true,if_true]
  unfold yt at h
  split at h
  ·obtain ⟨u,v,rfl,hu,hv⟩:=qe hf
   rcases qa hv with ⟨q,rfl,_⟩ | ⟨q,rfl,_⟩
   ·exact si n (.str "left") (zh u) (zh q) rfl (L u) (L q)
   ·exact si n (.str "right") (zh u) (zh q) rfl (L u) (L q)
  ·cases h
 ·subst e
  rw [yd] at h
  simp only [xf,Oc,Of,LZ,Z4,if_false]
  unfold ay at h
  split at h
  ·rcases qa hf with ⟨u,rfl,hu⟩ | ⟨u,rfl,hu⟩
   ·exact (vt hu).elim
   ·rw [p9,qz (by decide)];rfl
  ·obtain ⟨u,v,rfl,hu,hv⟩:=qe hf
   exact (vt hu).elim
  ·obtain ⟨u,v,rfl,hu,hv⟩:=qe hf
   rw [C0 hu,BR,jn rfl];rfl
  ·cases h
theorem Ug:(wu == w8)=false:=by decide
noncomputable def Ax(k:Kd)(w:Z3)(p:List Int)(t:Th):Th:=match ql k p with
 | some x=>yq k p (xf w x) t
 | none=>t
theorem Oo(n:Nat)(w:Z3)(k k':Kd)(h:wg w k=YW k'):gq (n+1) [.str w,zj k]=YW (.ok (zj k')):=by
 show z7 5 b9 [.str w,zj k]=_
 have lfe:∀ k,lf (zj k)=true:=qk
 rcases n5 w with rfl | rfl | rfl | rfl | hno
 ·rw [vi] at h
  cases k<;>simp [rg] at h<;>subst h<;>
   simp [z7,b9,zd,zo,z9,e2,za,eC,zm,zk,zj,bc,xg,Cb,yr,sv,qk,qm,qx,uh,zr,zv,zq,zt,lf,lfs]
 ·rw [yg] at h
  unfold kh at h
  split at h<;>cases h<;>
   simp [z7,b9,zd,zo,z9,e2,za,eC,zm,zk,zj,bc,xg,Cb,yr,sv,qk,qm,qx,uh,Od,zl,zr,zv,zq,zt,lf,lfs]
 ·rw [wx] at h
  unfold yt at h
  split at h<;>cases h
  simp [z7,b9,zd,zo,z9,e2,za,eC,zm,zk,zj,bc,xg,Cb,yr,sv,qk,qm,qx,uh,Oh,Og,zl,zr,zv,zq,zt,lf,lfs]
 ·rw [yd] at h
  unfold ay at h
  split at h<;>cases h<;>
   simp [z7,b9,zd,zo,z9,e2,za,eC,zm,zk,zj,bc,xg,Cb,yr,sv,qk,qm,qx,uh,Oc,Of,LZ,zl,zr,Ag,yv,Gv,Um,zv,zq,zt,lf,lfs]
 ·rw [ue w k hno] at h;cases h
noncomputable def Ho:FS:=(zd (zo 5 (z9 (za 0) (za 4))) (zo 3 (Ag (qx (z9 (za 2) (za 4)) (eC (.int 0))) (zv [z9 (za 5) (eC (.int 0)),za 3,z9 (za 5) (eC (.int 2))]) (zv [z9 (za 5) (eC (.int 0)),z9 (za 5) (eC (.int 1)),za 3]))))
theorem Q5{k c:Kd}{s:Int}(p:List Int)(x:Kd)(h:jd k s=YW c):∃ a b,zj k= .tuple [.str (hd k),zj a,zj b]/\
  zj (wb k (s::p) x)=if s=0 then .tuple [.str (hd k),zj (wb c p x),zj b] else .tuple [.str (hd k),zj a,zj (wb c p x)]:=by
 cases k with
 | either a b=>
  refine ⟨a,b,rfl,?_⟩
  simp only [jd] at h
  simp only [wb]
  split at h
  ·rename_i h0;cases h;rw [jn h0,jn h0];rfl
  ·rename_i h0
   split at h
   ·cases h;rw [qz h0,qz h0];rfl
   ·cases h
 | both a b=>
  refine ⟨a,b,rfl,?_⟩
  simp only [jd] at h
  simp only [wb]
  split at h
  ·rename_i h0;cases h;rw [jn h0,jn h0];rfl
  ·rename_i h0
   split at h
   ·cases h;rw [qz h0,qz h0];rfl
   ·cases h
 | none=>cases h
 | one=>cases h
 | name _=>cases h
theorem MO(k x:Kd)(p:List Int)(t:List Kd)(ht:j0 k p=YW t)(x1:Option Slot):∀ (j:Nat) (kj:Kd) (x4 x5:Option Slot),j<=p.length->(k::t)[j]? =YW kj->
  ∃ x4' x5',qy (z8 4) Ho (yu j) [YW (.par (.list ((k::t).map zj))),x1,YW (.loc (zw p)),YW (.loc (zj (wb kj (p.drop j) x))),x4,x5]=
   YW (.next [YW (.par (.list ((k::t).map zj))),x1,YW (.loc (zw p)),YW (.loc (zj (wb k p x))),x4',x5'])
 | 0,kj,x4,x5,_,hk=>by
  simp at hk
  subst hk
  exact ⟨x4,x5,rfl⟩
 | j+1,kj,x4,x5,hj,hk=>by
  obtain ⟨k0,s,kc,h1,h2,h3,h4⟩:=GG p k t j ht (by assumption)
  rw [hk] at h3
  cases h3
  have hd':p.drop j=s::p.drop (j+1):=by
   obtain ⟨hl,he⟩:=Zi.mp h2
   rw [dA hl,he]
  obtain ⟨a,b,e1',e2'⟩:=Q5 (p.drop (j+1)) x h4
  have q1:vg ((k::t).map zj) (j:Int)=YW (zj k0):=ic (by rw [ZG,h1];rfl)
  have q2:vg (p.map eB) (j:Int)=YW (.int s):=ic (by rw [ZG,h2];rfl)
  have q3:xr (.list ((k::t).map zj)) (.int (j:Int))=YW (zj k0):=q1
  have q4:xr (zw p) (.int (j:Int))=YW (.int s):=q2
  obtain ⟨x4',x5',r⟩:=MO k x p t ht x1 j k0 (YW (.loc (.int (j:Int)))) (YW (.loc (zj k0))) (by exact ZX ‹_›) h1
  refine ⟨x4',x5',?_⟩
  rw [CD]
  rw [<- r,hd',e2']
  refine fh (ρ1:=[YW (.par (.list ((k::t).map zj))),x1,YW (.loc (zw p)),YW (.loc (zj (wb kj (p.drop (j+1)) x))),YW (.loc (.int (j:Int))),x5]) rfl ?_
  have lf1:=qk k0
  rw [e1'] at q3 lf1
  clear r q1 q2
  generalize (k::t).map zj=L at q3 ⊢
  by_cases hs:s=0
  ·subst hs
   simp [Ho,zd,zo,z9,e2,za,eC,zm,zk,e1',q3,lf1,yr,qk,Ag,qx,q4,nu,zv,zq,zt,bc,xg,Cb,lf,lfs]
  ·have hs':(s == 0)=false:=by simp [hs]
   simp [Ho,zd,zo,z9,e2,za,eC,zm,zk,e1',q3,lf1,yr,qk,Ag,qx,q4,nu,hs,hs',zv,zq,zt,bc,xg,Cb,lf,lfs]
theorem Vi(n:Nat)(k x:Kd)(w:Z3)(p:List Int)(t:List Kd)(ht:j0 k p=YW t)(hp:p.length<=900)(hx:wg w ((k::t).getLast (by simp))=YW x):
  vk (n+2) [.list ((k::t).map zj),jy w p]=YW (.ok (zj (wb k p x))):=by
 have e:Dh (gq (n+1))=zd (zo 2 (z9 (za 1) (eC (.int 1)))) (zd (zo 3 (zg (gq (n+1)) [z9 (za 1) (eC (.int 0)),z9 (za 0) (i8 (eC (.int 1)))])) (zd (bz (i0 (u4 (jr (za 2)) (eC (.int 1)))) (z8 4) Ho) (zr (za 3)))):=rfl
 show z7 6 (Dh (gq (n+1))) [.list ((k::t).map zj),jy w p]=_
 rw [e]
 have hl:xr (.list (((k::t):List Kd).map zj)) (.int (-1))=YW (zj ((k::t).getLast (by simp))):=Xp _ _ (by rw [gM,bW (l:=k::t) (by simp)];rfl)
 have hk:=Oo n w _ x hx
 have lq:=CC p k t ht
 have hlast:(k::t)[p.length]? =YW ((k::t).getLast (by simp)):=by
  rw [<- lq,<- bW,dC];simp
 obtain ⟨x4',x5',r⟩:=MO k x p t ht (YW (.par (jy w p))) p.length _ YY YY (Ze _) hlast
 rw [List.drop_length] at r
 simp only [wb] at r
 have hb:((p.length:Int) - 1).natAbs<=big:=by unfold big;omega
 have hn:((p.length:Int) - 1+1).toNat=p.length:=by omega
 have hlenP:xx (zw p)=YW (.int (p.length:Int)):=by simp [xx,zw]
 generalize hL:(k::t).map zj=L at hl r
 simp only [jy] at r
 have lfp:=jg p
 simp [z7,zd,zo,z9,e2,za,eC,zm,zk,jy,bc,xg,yr,lfp,zg,zq,zt,i8,e1,IW,hl,hk,jx,qk,bz,i0,u4,jr,hlenP,Kf,hb,hn,r,zr]
abbrev Oe:=List (Z3×List Int)
noncomputable def u3(ts:Oe):List YX:=ts.map λt=>jy t.1 t.2
theorem Yl(w:Z3)(p:List Int):lf (jy w p)=true:=by simp [jy,lf,lfs,jg]
theorem O3:∀ ts:Oe,lfs (u3 ts)=true
 | []=>rfl
 | t::ts=>by
  show (lf (jy t.1 t.2) && lfs (u3 ts))=true
  simp [Yl,O3 ts]
noncomputable def A0:Kd->Oe->Option Kd
 | k,[]=>YW k
 | k,t::r=>(j7 k t.1 t.2).bind λc=>A0 c r
noncomputable def iu:Kd->Oe->Th->Th
 | _,[],u=>u
 | k,t::r,u=>match j7 k t.1 t.2 with
  | some c=>iu c r (Ax k t.1 t.2 u)
  | none=>u
noncomputable def Gn(r:Oe):Prop:=∀ t∈r,t.2.length<=900
theorem G0{z:Sz}{k k':Kd}{w:Z3}{p:List Int}{t:Th}(h:j7 k w p=YW k')(hf:jo z k t):jo z k' (Ax k w p t):=by
 obtain ⟨x,y,h1,h2,rfl⟩:=mq h
 simp only [Ax,h1]
 exact A8 (xf w x) (λu hu=>N6 h2 hu) p k t h1 hf
theorem Nm{k k':Kd}{w:Z3}{p:List Int}(h:j7 k w p=YW k'):∃ ts x y,j0 k p=YW ts/\(k::ts).getLast (by simp)=x/\ql k p=YW x/\wg w x=YW y/\k'=wb k p y:=by
 obtain ⟨x,y,h1,h2,h3⟩:=mq h
 have hx:=h1
 rw [Bw] at hx
 cases ht:j0 k p with
 | none=>rw [ht] at hx;cases hx
 | some ts=>
  rw [ht] at hx
  simp only [aH,ZO] at hx
  exact ⟨ts,x,y,rfl,hx,h1,h2,h3⟩
theorem ID{z:Sz}(n:Nat){k k':Kd}{w:Z3}{p:List Int}{t:Th}(hp:p.length<=900)(h:j7 k w p=YW k')(hf:jo z k t):∃ L,lfs L=true/\jb (n+3) [zj k,jy w p]=YW (.ok (.list L))/\
  vk (n+3) [.list L,jy w p]=YW (.ok (zj k'))/\wc (n+3) [.list L,jy w p,zh t,Mr w8]=YW (.ok (zh (Ax k w p t)))/\wc (n+3) [.list L,jy w p,zh (Ax k w p t),Mr wu]=YW (.ok (zh t)):=by
 obtain ⟨ts,x,y,ht,hl,hx,hy,rfl⟩:=Nm h
 have e1:=Oz (n+1) k w p hp
 rw [ht] at e1
 simp only [hl,hy,Option.isSome_some,if_true] at e1
 have e2:=Vi (n+1) k y w p ts ht hp (by rw [hl];exact hy)
 have hfp:=dj z p k x t hx hf
 have e3:=D3 n (xf w x) k t w p ts (jo z x) w8 (yj (n+2)) ht hfp hp (by simp [List.lookup]) (λu hu=>by rw [hl];exact Wt n w x y u hy hu)
 have e4:=D3 n (Ay w x) k (yq k p (xf w x) t) w p ts (λv=>∃ u,jo z x u/\v=xf w x u) wu (vb (n+2)) ht (AV _ _ _ (λu hu=>⟨u,hu,rfl⟩) p k t hfp) hp (by simp [List.lookup,Ug])
  (λv ⟨u,hu,hv⟩=>by subst hv;rw [hl,DT hy hu];exact VI n w x y u hy hu)
 rw [ah (xf w x) (Ay w x) (jo z x) (λu hu=>DT hy hu) p k t hfp] at e4
 have ef:Ax k w p t=yq k p (xf w x) t:=by simp only [Ax,hx]
 rw [ef]
 exact ⟨_,EX (k::ts),e1,e2,e3,e4⟩
theorem RG(n:Nat){k:Kd}{w:Z3}{p:List Int}(hp:p.length<=900)(hk:j7 k w p=YY):jb (n+3) [zj k,jy w p]=YW (.exc 2):=by
 rw [show n+3=(n+1)+2 from rfl,Oz (n+1) k w p hp]
 unfold j7 at hk
 rw [Bw] at hk
 cases ht:j0 k p with
 | none=>rfl
 | some ts=>
  rw [ht] at hk
  simp only [aH,ZH] at hk
  cases hy:wg w ((k::ts).getLast (by simp)) with
  | none=>simp [hy]
  | some y=>rw [hy] at hk;cases hk
noncomputable def AJ(n:Nat):FS:=(zd (zo 6 (zg (jb n) [za 3,za 5])) (zd (zo 4 (zg (wc n) [za 6,za 5,za 4,eC (Mr w8)])) (zo 3 (zg (vk n) [za 6,za 5]))))
theorem IM{z:Sz}(n:Nat)(x0 x1 x2:Option Slot):∀ (r:Oe) (k:Kd) (t:Th) (x5 x6:Option Slot),Gn r->jo z k t->
  match A0 k r with
  | some c=>∃ y3 y5 y6,qy (z8 5) (AJ (n+3)) (u3 r) [x0,x1,x2,YW (.loc (zj k)),YW (.loc (zh t)),x5,x6]=YW (.next [x0,x1,x2,y3,YW (.loc (zh (iu k r t))),y5,y6])
  | none=>∃ ρ,qy (z8 5) (AJ (n+3)) (u3 r) [x0,x1,x2,YW (.loc (zj k)),YW (.loc (zh t)),x5,x6]=YW (.exc 2 ρ)
 | [],k,t,x5,x6,_,_=>⟨_,x5,x6,rfl⟩
 | u::r,k,t,x5,x6,hs,hf=>by
  have hu:=hs u (by simp)
  simp only [A0]
  cases e:j7 k u.1 u.2 with
  | none=>
   have h:=RG n hu e
   simp only [Option.bind_none]
   refine ⟨_,M3 (tg:=z8 5) (d:=jy u.1 u.2) (ρ1:=[x0,x1,x2,YW (.loc (zj k)),YW (.loc (zh t)),YW (.loc (jy u.1 u.2)),x6]) (ρ':=[x0,x1,x2,YW (.loc (zj k)),YW (.loc (zh t)),YW (.loc (jy u.1 u.2)),x6]) rfl ?_⟩
   simp [AJ,zd,zo,zg,zq,za,zt,zk,h,jx]
  | some c=>
   obtain ⟨L,hl,h1,h2,h3,h4⟩:=ID n hu e hf
   simp only [ZH,iu,e]
   have b:AJ (n+3) [x0,x1,x2,YW (.loc (zj k)),YW (.loc (zh t)),YW (.loc (jy u.1 u.2)),x6]=YW (.next [x0,x1,x2,YW (.loc (zj c)),YW (.loc (zh (Ax k u.1 u.2 t))),YW (.loc (jy u.1 u.2)),YW (.own L)]):=by
    simp [AJ,zd,zo,zg,zq,za,eC,zt,zk,h1,h2,h3,jx,gz hl,yr,qk,fj]
   have go:qy (z8 5) (AJ (n+3)) (u3 (u::r)) [x0,x1,x2,YW (.loc (zj k)),YW (.loc (zh t)),x5,x6]=qy (z8 5) (AJ (n+3)) (u3 r) _:=fh (tg:=z8 5) (d:=jy u.1 u.2) rfl b
   rw [go]
   exact IM n x0 x1 x2 r c _ _ _ (λv hv=>hs v (by simp [hv])) (G0 e hf)
theorem LC{z:Sz}(n:Nat)(k:Kd)(r:Oe)(t:Th)(hs:Gn r)(hf:jo z k t):u6 (n+4) [zj k,.list (u3 r),zh t]=match A0 k r with
  | some _=>YW (.ok (zh (iu k r t)))
  | none=>YW (.exc 2):=by
 have e:CI (vk (n+3)) (wc (n+3)) (jb (n+3))=(zd (zo 3 (za 0)) (zd (zo 4 (za 2)) (zd (vf 1 (z8 5) (AJ (n+3))) (zr (za 4))))):=rfl
 show z7 7 (CI (vk (n+3)) (wc (n+3)) (jb (n+3))) _=_
 rw [e]
 have h:=IM n (YW (.par (zj k))) (YW (.par (.list (u3 r)))) (YW (.par (zh t))) r k t YY YY hs hf
 have hl:=O3 r
 cases q:A0 k r with
 | none=>
  rw [q] at h
  obtain ⟨ρ,h⟩:=h
  generalize u3 r=L at h hl
  simp [z7,zd,zo,za,zk,yr,qk,fj,vf,hl,h]
 | some c=>
  rw [q] at h
  obtain ⟨y3,y5,y6,h⟩:=h
  generalize u3 r=L at h hl
  simp [z7,zd,zo,za,zk,yr,qk,fj,vf,hl,h,zr]
noncomputable def B2(n:Nat):FS:=(zd (zo 6 (zg (jb n) [za 4,za 5])) (zd (my 3 6) (zo 4 (zg (vk n) [za 6,za 5]))))
noncomputable def Mn(n:Nat){z:Sz}:Kd->Oe->Th->List YX->Prop
 | _,[],_,L=>L=[]
 | k,u::r,t,L=>∃ d L',L=d::L'/\wc (n+3) [d,jy u.1 u.2,zh (Ax k u.1 u.2 t),Mr wu]=YW (.ok (zh t))/\∃ c,j7 k u.1 u.2=YW c/\Mn n (z:=z) c r (Ax k u.1 u.2 t) L'
noncomputable def Kk:List YX->Slot
 | []=>.own []
 | d::ds=>.own2 (d::ds)
theorem Ri(ρr:f9)(x0 x1 x2 x4 x5:Option Slot)(xs ys:List YX)(hx:xs.length < big):my 3 6 (x0::x1::x2::YW (Kk xs)::x4::x5::YW (.own ys)::ρr)=YW (.next (x0::x1::x2::YW (Kk (xs++[.list ys]))::x4::x5::YW (.loc (.list ys))::ρr)):=by
 cases xs with
 | nil=>simp [my,Kk];unfold big;exact iH ‹_›
 | cons d ds=>simp [my,Kk] at hx ⊢;exact hx
theorem MM{z:Sz}(n:Nat)(x0 x1 x2:Option Slot)(ρr:f9):∀ (r:Oe) (k:Kd) (t:Th) (acc:List YX) (x5 x6:Option Slot),Gn r->jo z k t->acc.length+r.length<=90000->
  match A0 k r with
  | some c=>∃ L y4 y5 y6,Mn n (z:=z) k r t L/\L.length=r.length/\qy (z8 5) (B2 (n+3)) (u3 r) (x0::x1::x2::YW (Kk acc)::YW (.loc (zj k))::x5::x6::ρr)=YW (.next (x0::x1::x2::YW (Kk (acc++L))::y4::y5::y6::ρr))
  | none=>True
 | [],k,t,acc,x5,x6,_,_,_=>⟨[],_,x5,x6,rfl,rfl,by simp [u3,qy];rfl⟩
 | u::r,k,t,acc,x5,x6,hs,hf,hl=>by
  have hu:=hs u (by simp)
  simp only [Zj] at hl
  simp only [A0]
  cases e:j7 k u.1 u.2 with
  | none=>simp only [Option.bind_none]
  | some c=>
   obtain ⟨P,hP,h1,h2,h3,h4⟩:=ID n hu e hf
   simp only [ZH]
   have hb:acc.length < big:=by unfold big;omega
   have a:=Ri ρr x0 x1 x2 (YW (.loc (zj k))) (YW (.loc (jy u.1 u.2))) acc P hb
   have b:B2 (n+3) (x0::x1::x2::YW (Kk acc)::YW (.loc (zj k))::YW (.loc (jy u.1 u.2))::x6::ρr)=YW (.next (x0::x1::x2::YW (Kk (acc++[.list P]))::YW (.loc (zj c))::YW (.loc (jy u.1 u.2))::YW (.loc (.list P))::ρr)):=by
    simp [B2,zd,zo,zg,zq,za,zt,zk,h1,h2,jx,gz hP,a,yr,qk]
   have go:qy (z8 5) (B2 (n+3)) (u3 (u::r)) (x0::x1::x2::YW (Kk acc)::YW (.loc (zj k))::x5::x6::ρr)=qy (z8 5) (B2 (n+3)) (u3 r) _:=fh (tg:=z8 5) (d:=jy u.1 u.2) rfl b
   have ih:=MM n x0 x1 x2 ρr r c (Ax k u.1 u.2 t) (acc++[.list P]) (YW (.loc (jy u.1 u.2))) (YW (.loc (.list P))) (λv hv=>hs v (by simp [hv])) (G0 e hf) (by simp;omega)
   cases q:A0 c r with
   | none=>trivial
   | some c'=>
    rw [q] at ih
    obtain ⟨L,y4,y5,y6,hT,hL,r'⟩:=ih
    refine ⟨.list P::L,y4,y5,y6,⟨_,L,rfl,h4,c,e,hT⟩,by simp [hL],?_⟩
    rw [go,r']
    simp
noncomputable def Hk(n:Nat):FS:=(zo 7 (zg (wc n) [z9 (za 3) (za 8),z9 (za 1) (za 8),za 7,eC (Mr wu)]))
theorem GO{z:Sz}(n:Nat):∀ (r:Oe) (k:Kd) (t:Th) (L:List YX) (j:Nat),Mn n (z:=z) k r t L->j < r.length->
  ∃ d u,L[j]? =YW d/\r[j]? =YW u/\wc (n+3) [d,jy u.1 u.2,zh (iu k (r.take (j+1)) t),Mr wu]=YW (.ok (zh (iu k (r.take j) t)))
 | [],k,t,L,j,_,hj=>by simp at hj
 | u::r,k,t,L,j,⟨d,L',hL,hd,c,hc,hT⟩,hj=>by
  subst hL
  cases j with
  | zero=>exact ⟨d,u,rfl,rfl,by simpa [iu,hc] using hd⟩
  | succ j=>
   obtain ⟨d',u',h1,h2,h3⟩:=GO n r c _ L' j hT (by simpa using hj)
   exact ⟨d',u',by simpa using h1,by simpa using h2,by simpa [iu,hc] using h3⟩
theorem LO{z:Sz}(n:Nat)(k:Kd)(r:Oe)(t:Th)(L:List YX)(hT:Mn n (z:=z) k r t L)(x0 x2 x4 x5 x6:Option Slot):∀ (j:Nat) (x8:Option Slot),j<=r.length->
  ∃ y8,qy (z8 8) (Hk (n+3)) (yu j) [x0,YW (.par (.list (u3 r))),x2,YW (Kk L),x4,x5,x6,YW (.loc (zh (iu k (r.take j) t))),x8]=YW (.next [x0,YW (.par (.list (u3 r))),x2,YW (Kk L),x4,x5,x6,YW (.loc (zh t)),y8])
 | 0,x8,_=>⟨x8,by simp [yu,qy,iu]⟩
 | j+1,x8,hj=>by
  obtain ⟨d,u,h1,h2,h3⟩:=GO n r k t L j hT (by assumption)
  obtain ⟨y8,e⟩:=LO n k r t L hT x0 x2 x4 x5 x6 j (YW (.loc (.int (j:Int)))) (by exact ZX ‹_›)
  refine ⟨y8,?_⟩
  rw [CD,<- e]
  have q1:xr (.list L) (.int (j:Int))=YW d:=ic h1
  have q2:xr (.list (u3 r)) (.int (j:Int))=YW (jy u.1 u.2):=ic (by simp [u3,h2])
  have q3:∀ ρr,za 3 (x0::YW (.par (.list (u3 r)))::x2::YW (Kk L)::ρr)=YW (.ok 1 (.list L)):=λρr=>by cases L<;>rfl
  refine fh (ρ1:=[x0,YW (.par (.list (u3 r))),x2,YW (Kk L),x4,x5,x6,YW (.loc (zh (iu k (r.take (j+1)) t))),YW (.loc (.int (j:Int)))]) rfl ?_
  generalize u3 r=M at q2 q3 ⊢
  generalize Kk L=S at q3 ⊢
  simp only [Hk,zo,zg,zq,z9,e2,q3,zm]
  simp [za,q1,q2,eC,zm,zt,zk,h3,jx,yr,fj]
theorem Fh{z:Sz}(n:Nat)(k c:Kd)(r:Oe)(t:Th)(hs:Gn r)(hf:jo z k t)(hl:r.length<=80000)(hg:A0 k r=YW c):af (n+4) [zj k,.list (u3 r),zh (iu k r t)]=YW (.ok (zh t)):=by
 have e:CO (wc (n+3)) (vk (n+3)) (jb (n+3))=(zd (zo 3 (qv [])) (zd (zo 4 (za 0)) (zd (vf 1 (z8 5) (B2 (n+3))) (zd (zo 7 (za 2)) (zd (bz (i0 (u4 (jr (za 1)) (eC (.int 1)))) (z8 8) (Hk (n+3))) (zr (za 7))))))):=rfl
 show z7 9 (CO (wc (n+3)) (vk (n+3)) (jb (n+3))) _=_
 rw [e]
 have h:=MM n (YW (.par (zj k))) (YW (.par (.list (u3 r)))) (YW (.par (zh (iu k r t)))) [YY,YY] r k t [] YY YY hs hf (by simp;omega)
 rw [hg] at h
 obtain ⟨L,y4,y5,y6,hT,hL,h⟩:=h
 obtain ⟨y8,h2⟩:=LO n k r t L hT (YW (.par (zj k))) (YW (.par (zh (iu k r t)))) y4 y5 y6 r.length YY (Ze _)
 rw [List.take_length] at h2
 have hlf:=O3 r
 have lq:xx (.list (u3 r))=YW (.int (r.length:Int)):=by simp [xx,u3]
 have hb:((r.length:Int) - 1).natAbs<=big:=by unfold big;omega
 have hn:((r.length:Int) - 1+1).toNat=r.length:=by omega
 rw [dG] at h
 rw [show Kk []=Slot.own [] from rfl] at h
 generalize Kk L=SL at h h2
 generalize u3 r=M at h h2 hlf lq
 generalize B2 (n+3)=BB at h
 generalize Hk (n+3)=KB at h2
 simp [z7,zd,zo,qv,zq,zt,zk,u7,lf,lfs,za,qk,fj,vf,hlf,h,bz,i0,u4,e2,jr,e1,eC,zm,lq,Kf,hb,hn,h2,zr]
noncomputable def e7(z:Sz):Kd->List YX
 | .none=>[]
 | .one=>[.tuple []]
 | .name i=>bu (z.at i).toNat
 | .either a b=>(e7 z a).map (λt=>.tuple [.str "left",t])++(e7 z b).map (λt=>.tuple [.str "right",t])
 | .both a b=>(e7 z a).flatMap λx=>(e7 z b).map λy=>.tuple [x,y]
theorem ET{α β γ:Type}(f:α->β->γ)(ys:List β):∀ xs:List α,(xs.flatMap λx=>ys.map (f x)).length=xs.length * ys.length
 | []=>by simp
 | x::xs=>by rw [gN,Za,Z9,ET f ys xs,Zj,Nat.succ_mul];omega
theorem Ac{z:Sz}(hz:z.In 0 1000000):∀ k:Kd,((e7 z k).length:Int)=dk z k
 | .none=>rfl
 | .one=>rfl
 | .name i=>by
  have:=(Sz.at_in hz i).1
  simp only [e7,dk,bu,Z9,eW]
  omega
 | .either a b=>by
  have:=Ac hz a;have:=Ac hz b
  simp only [e7,dk,Za,Z9]
  omega
 | .both a b=>by
  have ha:=Ac hz a;have hb:=Ac hz b
  simp only [e7,dk]
  rw [ET (λx y=>jB [x,y]),<- ha,<- hb]
  push_cast
  rfl
theorem Qc(n:Nat):lfs (bu n)=true:=by
 unfold bu
 induction ZR n with
 | nil=>rfl
 | cons k ks ih=>simp [lfs,lf,ih]
theorem Hu:∀ (xs ys:List YX),lfs (xs++ys)=(lfs xs && lfs ys)
 | [],_=>by simp [lfs]
 | x::xs,ys=>by simp [lfs,Hu xs ys,Bool.and_assoc]
theorem sk{f:YX->YX}(hf:∀ d,lf d=true->lf (f d)=true):∀ xs:List YX,lfs xs=true->lfs (xs.map f)=true
 | [],_=>rfl
 | x::xs,h=>by
  simp only [lfs,Zn] at h
  simp [lfs,hf x h.1,sk hf xs h.2]
theorem Jp{f:YX->List YX}(hf:∀ d,lf d=true->lfs (f d)=true):∀ xs:List YX,lfs xs=true->lfs (xs.flatMap f)=true
 | [],_=>rfl
 | x::xs,h=>by
  simp only [lfs,Zn] at h
  simp [gN,Hu,hf x h.1,Jp hf xs h.2]
theorem oy(z:Sz):∀ k:Kd,lfs (e7 z k)=true
 | .none=>rfl
 | .one=>rfl
 | .name i=>Qc _
 | .either a b=>by
  simp only [e7]
  rw [Hu,sk (λd h=>by simp [lf,lfs,h]) _ (oy z a),sk (λd h=>by simp [lf,lfs,h]) _ (oy z b)]
  rfl
 | .both a b=>Jp (λx hx=>sk (λy hy=>by simp [lf,lfs,hx,hy]) _ (oy z b)) _ (oy z a)
theorem p8{z:Sz}(hz:z.In 0 3):∀ k:Kd,0<=dk z k/\dk z k<=((4 ^ k.lg:Nat):Int)
 | .none=>by simp [dk,Kd.lg]
 | .one=>by simp [dk,Kd.lg]
 | .name i=>by
  have:=Sz.at_in hz i
  simp only [dk,Kd.lg]
  omega
 | .either a b=>by
  obtain ⟨a0,a1⟩:=p8 hz a
  obtain ⟨b0,b1⟩:=p8 hz b
  have pa:4<=4 ^ a.lg:=Zo (by decide) (bH (by decide) a.pos)
  have pb:4<=4 ^ b.lg:=Zo (by decide) (bH (by decide) b.pos)
  have hm:4 ^ a.lg+4 ^ b.lg<=4 ^ a.lg * 4 ^ b.lg:=by
   have h1:=aS (4 ^ a.lg) pb
   have h2:=cA (4 ^ b.lg) pa
   omega
  simp only [dk,Kd.lg]
  rw [Nat.pow_add]
  omega
 | .both a b=>by
  obtain ⟨a0,a1⟩:=p8 hz a
  obtain ⟨b0,b1⟩:=p8 hz b
  simp only [dk,Kd.lg]
  rw [Nat.pow_add]
  refine ⟨Int.mul_nonneg a0 b0,?_⟩
  rw [Int.natCast_mul]
  exact Int.mul_le_mul a1 b1 b0 (by omega)
theorem dq{z:Sz}(hz:z.In 0 3)(hz6:z.In 0 1000000){k:Kd}(h:k.lg<=8):(e7 z k).length<=65536:=by
 have h1:=Ac hz6 k
 have h2:=(p8 hz k).2
 have h3:4 ^ k.lg<=4 ^ 8:=bH (by decide) h
 have h4:(4:Nat) ^ 8=65536:=by decide
 omega
theorem GE:∀ ds:List YX,lfs ds=true->b7 (zv [eC (.str "left"),za 0]) [] ds=YW (ds.map λt=>.tuple [.str "left",t])
 | [],_=>rfl
 | d::ds,h=>by
  simp only [lfs,Zn] at h
  have e:zv [eC (.str "left"),za 0] [YW (.par d)]=YW (.ok 0 (.tuple [.str "left",d])):=by simp [zv,zq,eC,za,zt]
  unfold b7
  rw [e]
  simp [lf,lfs,h.1,GE ds h.2]
theorem EZ:∀ ds:List YX,lfs ds=true->b7 (zv [eC (.str "right"),za 0]) [] ds=YW (ds.map λt=>.tuple [.str "right",t])
 | [],_=>rfl
 | d::ds,h=>by
  simp only [lfs,Zn] at h
  have e:zv [eC (.str "right"),za 0] [YW (.par d)]=YW (.ok 0 (.tuple [.str "right",d])):=by simp [zv,zq,eC,za,zt]
  unfold b7
  rw [e]
  simp [lf,lfs,h.1,EZ ds h.2]
theorem Gq(x:YX)(hx:lf x=true):∀ ds:List YX,lfs ds=true->b7 (zv [za 1,za 0]) [YW (.par x)] ds=YW (ds.map λt=>.tuple [x,t])
 | [],_=>rfl
 | d::ds,h=>by
  simp only [lfs,Zn] at h
  have e:zv [za 1,za 0] [YW (.par d),YW (.par x)]=YW (.ok 0 (.tuple [x,d])):=by simp [zv,zq,za,zt]
  unfold b7
  rw [e]
  simp [lf,lfs,hx,h.1,Gq x hx ds h.2]
noncomputable def Em:FS:=(ug 4 (ro (mz (za 3)) [5] (zv [za 1,za 0])))
theorem Gx(a b c:Option Slot)(ys:List YX)(hy:lfs ys=true)(hb:ys.length<=70000):∀ (xs fs:List YX) (x:Option Slot),lfs xs=true->fs.length+xs.length * ys.length<=70000->
  ∃ x',qy (z8 5) Em xs [a,b,c,YW (.own ys),YW (.own fs),x]=YW (.next [a,b,c,YW (.own ys),YW (.own (fs++xs.flatMap λx=>ys.map λy=>.tuple [x,y])),x'])
 | [],fs,x,_,_=>⟨x,by simp [qy]⟩
 | d::xs,fs,x,h,hl=>by
  simp only [lfs,Zn] at h
  rw [Zj,Nat.succ_mul] at hl
  have hm:lfs (ys.map λy=>.tuple [d,y])=true:=sk (λy hy=>by simp [lf,lfs,h.1,hy]) _ hy
  have hc:=Gq d h.1 ys hy
  obtain ⟨x',e⟩:=Gx a b c ys hy hb xs (fs++ys.map λy=>.tuple [d,y]) (YW (.loc d)) h.2 (by rw [Za,Z9];omega)
  refine ⟨x',?_⟩
  have t:Em [a,b,c,YW (.own ys),YW (.own fs),YW (.loc d)]=YW (.next [a,b,c,YW (.own ys),YW (.own (fs++ys.map λy=>.tuple [d,y])),YW (.loc d)]):=by
   have h1:ys.length<=big:=Zo hb (by decide)
   have h2:fs.length+ys.length<=big:=Zo (by omega:_<=70000) (by decide)
   simp [Em,ug,ro,mz,za,hy,h1,mw,hc,zk,hm,h2]
  unfold qy
  have t0:z8 5 d [a,b,c,YW (.own ys),YW (.own fs),x]=YW [a,b,c,YW (.own ys),YW (.own fs),YW (.loc d)]:=rfl
  rw [t0]
  dsimp only
  rw [t]
  dsimp only
  rw [e]
  simp [gN]
theorem mh{z:Sz}(hz:z.In 0 3)(hz6:z.In 0 1000000):∀ (k:Kd) (n:Nat),k.lg<=n->k.lg<=8->k.Ok->ja n [zj k,u5 z]=YW (.ok (.list (e7 z k)))
 | k,0,h,_,_=>by have:=k.pos;omega
 | .none,n+1,_,_,_=>by
  unfold ja
  simp [z7,zd,zo,qm,zr,zl,oo,za,eC,e1,e2,qt,u4,kf,ni,v9,i8,qx,An,pq,Q3,FA,OQ,Kj,yf,z9,jr,r8,E7,yv,o7,Aw,Ag,zv,qv,zq,zg,zm,zt,zk,jx,ky,zj,xr,vg,BE,lf,lfs,xx,nu,uh,Wx,Jy,Az,e7]
 | .one,n+1,_,_,_=>by
  unfold ja
  simp [z7,zd,zo,qm,zr,zl,oo,za,eC,e1,e2,qt,u4,kf,ni,v9,i8,qx,An,pq,Q3,FA,OQ,Kj,yf,z9,jr,r8,E7,yv,o7,Aw,Ag,zv,qv,zq,zg,zm,zt,zk,jx,ky,zj,xr,vg,BE,lf,lfs,xx,nu,uh,Jy,Az,e7,big]
 | .name i,n+1,_,_,⟨h0,h3⟩=>by
  have e0:=Tf (z:=z) h0 h3
  have hi:=Sz.at_in hz i
  have hb:(z.at i).natAbs<=big:=Zo (by omega:_<=3) (by decide)
  have e1':vg [Zu "name",.int i] 1=YW (.int i):=rfl
  unfold ja
  simp [z7,zd,zo,qm,zr,zl,oo,za,eC,e1,e2,qt,u4,kf,ni,v9,i8,qx,An,pq,Q3,FA,OQ,Kj,yf,z9,jr,r8,E7,yv,o7,Aw,Ag,zv,qv,zq,zg,zm,zt,zk,jx,ky,zj,u5,xr,e0,e1',lf,lfs,xx,nu,EF,Cp,hb,e7]
 | .either a b,n+1,hn,h6,⟨oa,ob⟩=>by
  have pa:=a.pos
  have pb:=b.pos
  simp only [Kd.lg] at hn h6
  have e0:vg [Zu "either",zj a,zj b] 0=YW (.str "either"):=rfl
  have e1':vg [Zu "either",zj a,zj b] 1=YW (zj a):=rfl
  have e2':vg [Zu "either",zj a,zj b] 2=YW (zj b):=rfl
  have ea:=mh hz hz6 a n (by omega) (by exact Zq ‹_›) oa
  have eb:=mh hz hz6 b n (by omega) (by exact Z2 ‹_›) ob
  have la:=dq hz hz6 (k:=a) (by exact Zq ‹_›)
  have lb:=dq hz hz6 (k:=b) (by exact Z2 ‹_›)
  have lab:=dq hz hz6 (k:=.either a b) (by simpa [Kd.lg] using h6)
  simp only [e7,Za,Z9] at lab
  have fa:=oy z a
  have fb:=oy z b
  have b1:(e7 z a).length<=big:=Zo la (by decide)
  have b2:(e7 z b).length<=big:=Zo lb (by decide)
  have b3:(e7 z a).length+(e7 z b).length<=big:=Zo (by omega:_<=65536) (by decide)
  have ma:lfs ((e7 z a).map λt=>.tuple [.str "left",t])=true:=sk (λd h=>by simp [lf,lfs,h]) _ fa
  have mb:lfs ((e7 z b).map λt=>.tuple [.str "right",t])=true:=sk (λd h=>by simp [lf,lfs,h]) _ fb
  unfold ja
  simp [z7,zd,zo,qm,zr,zl,oo,za,eC,e1,e2,qt,u4,kf,ni,v9,i8,qx,An,pq,Q3,FA,OQ,Kj,yf,z9,jr,r8,E7,yv,o7,Aw,Ag,zv,qv,zq,zg,zm,zt,zk,jx,ky,zj,xr,e0,e1',e2',u7,lf,lfs,xx,nu,uh,ea,eb,fa,fb,ug,ro,mz,b1,b2,GE _ fa,EZ _ fb,ma,mb,b3,e7]
 | .both a b,n+1,hn,h6,⟨oa,ob⟩=>by
  have pa:=a.pos
  have pb:=b.pos
  have l6:(Kd.both a b).lg<=8:=h6
  simp only [Kd.lg] at hn h6
  have e0:vg [Zu "both",zj a,zj b] 0=YW (.str "both"):=rfl
  have e1':vg [Zu "both",zj a,zj b] 1=YW (zj a):=rfl
  have e2':vg [Zu "both",zj a,zj b] 2=YW (zj b):=rfl
  have ea:=mh hz hz6 a n (by omega) (by exact Zq ‹_›) oa
  have eb:=mh hz hz6 b n (by omega) (by exact Z2 ‹_›) ob
  have lb:=dq hz hz6 (k:=b) (by exact Z2 ‹_›)
  have lab:=dq hz hz6 l6
  have fa:=oy z a
  have fb:=oy z b
  simp only [e7] at lab
  rw [ET (λx y=>jB [x,y])] at lab
  obtain ⟨x',q⟩:=Gx (YW (.par (.tuple [.str "both",zj a,zj b]))) (YW (.par (u5 z))) (YW (.loc (.list (e7 z a)))) (e7 z b) fb (by omega) (e7 z a) [] YY fa (by simp;omega)
  rw [dG] at q
  show z7 6 (ky (ja n)) [_,_]=_
  refine AW ?_
  show ky (ja n) [YW (.par (.tuple [.str "both",zj a,zj b])),YW (.par (u5 z)),YY,YY,YY,YY]=_
  unfold ky
  refine (jt (ρ':=[YW (.par (.tuple [.str "both",zj a,zj b])),YW (.par (u5 z)),YY,YY,YY,YY]) (by simp [z7,zd,zo,qm,zr,zl,oo,za,eC,e1,e2,qt,u4,kf,ni,v9,i8,qx,An,pq,Q3,FA,OQ,Kj,yf,z9,jr,r8,E7,yv,o7,Aw,Ag,zv,qv,zq,zg,zm,zt,zk,jx,xx,nu])).trans ?_
  refine (jt (ρ':=[YW (.par (.tuple [.str "both",zj a,zj b])),YW (.par (u5 z)),YY,YY,YY,YY]) (by simp [z7,zd,zo,qm,zr,zl,oo,za,eC,e1,e2,qt,u4,kf,ni,v9,i8,qx,An,pq,Q3,FA,OQ,Kj,yf,z9,jr,r8,E7,yv,o7,Aw,Ag,zv,qv,zq,zg,zm,zt,zk,jx,xx,nu])).trans ?_
  refine (jt (ρ':=[YW (.par (.tuple [.str "both",zj a,zj b])),YW (.par (u5 z)),YW (.own (e7 z a)),YY,YY,YY]) (by simp [z7,zd,zo,qm,zr,zl,oo,za,eC,e1,e2,qt,u4,kf,ni,v9,i8,qx,An,pq,Q3,FA,OQ,Kj,yf,z9,jr,r8,E7,yv,o7,Aw,Ag,zv,qv,zq,zg,zm,zt,zk,jx,xr,e1',ea,u7,lf,fa])).trans ?_
  refine (jt (ρ':=[YW (.par (.tuple [.str "both",zj a,zj b])),YW (.par (u5 z)),YW (.own (e7 z a)),YW (.own (e7 z b)),YY,YY]) (by simp [z7,zd,zo,qm,zr,zl,oo,za,eC,e1,e2,qt,u4,kf,ni,v9,i8,qx,An,pq,Q3,FA,OQ,Kj,yf,z9,jr,r8,E7,yv,o7,Aw,Ag,zv,qv,zq,zg,zm,zt,zk,jx,xr,e2',eb,u7,lf,fb])).trans ?_
  refine (jt (ρ':=[YW (.par (.tuple [.str "both",zj a,zj b])),YW (.par (u5 z)),YW (.own (e7 z a)),YW (.own (e7 z b)),YW (.own []),YY]) (by simp [z7,zd,zo,qm,zr,zl,oo,za,eC,e1,e2,qt,u4,kf,ni,v9,i8,qx,An,pq,Q3,FA,OQ,Kj,yf,z9,jr,r8,E7,yv,o7,Aw,Ag,zv,qv,zq,zg,zm,zt,zk,jx,u7,lf,lfs])).trans ?_
  refine (jt (ρ':=[YW (.par (.tuple [.str "both",zj a,zj b])),YW (.par (u5 z)),YW (.own (e7 z a)),YW (.own (e7 z b)),YW (.own []),YY]) (by simp [z7,zd,zo,qm,zr,zl,oo,za,eC,e1,e2,qt,u4,kf,ni,v9,i8,qx,An,pq,Q3,FA,OQ,Kj,yf,z9,jr,r8,E7,yv,o7,Aw,Ag,zv,qv,zq,zg,zm,zt,zk,jx,xr,e0,uh,KW])).trans ?_
  refine (jt (ρ':=[YW (.par (.tuple [.str "both",zj a,zj b])),YW (.par (u5 z)),YW (.loc (.list (e7 z a))),YW (.own (e7 z b)),YW (.own (e7 z (.both a b))),x']) q).trans ?_
  simp [z7,zd,zo,qm,zr,zl,oo,za,eC,e1,e2,qt,u4,kf,ni,v9,i8,qx,An,pq,Q3,FA,OQ,Kj,yf,z9,jr,r8,E7,yv,o7,Aw,Ag,zv,qv,zq,zg,zm,zt,zk,jx]
theorem OL{z:Sz}{w:Z3}{x y:Kd}{t:Th}(h:wg w x=YW y)(hf:jo z x t):jo z y (xf w x t):=by
 rcases n5 w with rfl | rfl | rfl | rfl | hno
 ·rw [vi] at h
  simp only [xf,beq_self_eq_true,if_true]
  unfold rg at h
  split at h
  ·cases h
   rcases qa hf with ⟨u,rfl,hu⟩ | ⟨u,rfl,hu⟩<;>exact hu
  ·cases h
   obtain ⟨u,v,rfl,hu,hv⟩:=qe hf
   exact ⟨hv,hu⟩
  ·cases h
 ·rw [yg] at h
  simp only [xf,Od,Z4,if_false,beq_self_eq_true,if_true]
  unfold kh at h
  split at h
  ·cases h
   rcases qa hf with ⟨u,rfl,hu⟩ | ⟨u,rfl,hu⟩
   ·rcases qa hu with ⟨v,rfl,hv⟩ | ⟨v,rfl,hv⟩<;>exact hv
   ·exact hu
  ·cases h
   obtain ⟨u,v,rfl,hu,hv⟩:=qe hf
   obtain ⟨u1,u2,rfl,h1,h2⟩:=qe hu
   exact ⟨h1,h2,hv⟩
  ·cases h
 ·rw [wx] at h
  simp only [xf,Oh,Og,Z4,if_false,beq_self_eq_true,if_true]
  unfold yt at h
  split at h
  ·cases h
   obtain ⟨u,v,rfl,hu,hv⟩:=qe hf
   rcases qa hv with ⟨q,rfl,hq⟩ | ⟨q,rfl,hq⟩<;>exact ⟨hu,hq⟩
  ·cases h
 ·rw [yd] at h
  simp only [xf,Oc,Of,LZ,Z4,if_false]
  unfold ay at h
  split at h
  ·cases h
   rcases qa hf with ⟨u,rfl,hu⟩ | ⟨u,rfl,hu⟩
   ·exact (vt hu).elim
   ·exact hu
  ·obtain ⟨u,v,rfl,hu,hv⟩:=qe hf
   exact (vt hu).elim
  ·cases h
   obtain ⟨u,v,rfl,hu,hv⟩:=qe hf
   exact hv
  ·cases h
 ·rw [ue w x hno] at h;cases h
theorem On{z:Sz}{w:Z3}{x y:Kd}{t:Th}(h:wg w x=YW y)(hf:jo z y t):jo z x (Ay w x t)/\xf w x (Ay w x t)=t:=by
 rcases n5 w with rfl | rfl | rfl | rfl | hno
 ·rw [vi] at h
  simp only [xf,Ay,beq_self_eq_true,if_true]
  unfold rg at h
  split at h
  ·cases h
   rcases qa hf with ⟨u,rfl,hu⟩ | ⟨u,rfl,hu⟩<;>exact ⟨hu,rfl⟩
  ·cases h
   obtain ⟨u,v,rfl,hu,hv⟩:=qe hf
   exact ⟨⟨hv,hu⟩,rfl⟩
  ·cases h
 ·rw [yg] at h
  simp only [xf,Ay,Od,Z4,if_false,beq_self_eq_true,if_true]
  unfold kh at h
  split at h
  ·cases h
   rcases qa hf with ⟨u,rfl,hu⟩ | ⟨u,rfl,hu⟩
   ·exact ⟨hu,rfl⟩
   ·rcases qa hu with ⟨v,rfl,hv⟩ | ⟨v,rfl,hv⟩<;>exact ⟨hv,rfl⟩
  ·cases h
   obtain ⟨u,v,rfl,hu,hv⟩:=qe hf
   obtain ⟨u1,u2,rfl,h1,h2⟩:=qe hv
   exact ⟨⟨⟨hu,h1⟩,h2⟩,rfl⟩
  ·cases h
 ·rw [wx] at h
  simp only [xf,Ay,Oh,Og,Z4,if_false,beq_self_eq_true,if_true]
  unfold yt at h
  split at h
  ·cases h
   rcases qa hf with ⟨u,rfl,hu⟩ | ⟨u,rfl,hu⟩
   ·obtain ⟨p,q,rfl,h1,h2⟩:=qe hu
    exact ⟨⟨h1,h2⟩,rfl⟩
   ·obtain ⟨p,q,rfl,h1,h2⟩:=qe hu
    exact ⟨⟨h1,h2⟩,rfl⟩
  ·cases h
 ·rw [yd] at h
  simp only [xf,Ay,Oc,Of,LZ,Z4,if_false]
  unfold ay at h
  split at h
  ·cases h
   exact ⟨hf,rfl⟩
  ·cases h
   exact (vt hf).elim
  ·cases h
   exact ⟨⟨trivial,hf⟩,rfl⟩
  ·cases h
 ·rw [ue w x hno] at h;cases h
theorem Pf(z:Sz){w:Z3}{x y:Kd}(h:wg w x=YW y):dk z y=dk z x:=by
 rcases n5 w with rfl | rfl | rfl | rfl | hno
 ·rw [vi] at h
  unfold rg at h
  split at h
  ·cases h;simp only [dk];omega
  ·cases h;simp only [dk];exact Int.mul_comm _ _
  ·cases h
 ·rw [yg] at h
  unfold kh at h
  split at h
  ·cases h;simp only [dk];omega
  ·cases h;simp only [dk];exact (Int.mul_assoc _ _ _).symm
  ·cases h
 ·rw [wx] at h
  unfold yt at h
  split at h
  ·cases h;simp only [dk];exact (Int.mul_add _ _ _).symm
  ·cases h
 ·rw [yd] at h
  unfold ay at h
  split at h
  ·cases h;simp [dk]
  ·cases h;simp [dk]
  ·cases h;simp [dk]
  ·cases h
 ·rw [ue w x hno] at h;cases h
theorem Lz{w:Z3}{x y:Kd}(h:wg w x=YW y):y.lg+2<=2 * x.lg:=by
 rcases n5 w with rfl | rfl | rfl | rfl | hno
 ·rw [vi] at h
  unfold rg at h
  split at h
  ·rename_i a b;cases h;have:=a.pos;have:=b.pos;simp only [Kd.lg];omega
  ·rename_i a b;cases h;have:=a.pos;have:=b.pos;simp only [Kd.lg];omega
  ·cases h
 ·rw [yg] at h
  unfold kh at h
  split at h
  ·rename_i a b c;cases h;have:=a.pos;have:=b.pos;have:=c.pos;simp only [Kd.lg];omega
  ·rename_i a b c;cases h;have:=a.pos;have:=b.pos;have:=c.pos;simp only [Kd.lg];omega
  ·cases h
 ·rw [wx] at h
  unfold yt at h
  split at h
  ·rename_i a b c;cases h;have:=a.pos;have:=b.pos;have:=c.pos;simp only [Kd.lg];omega
  ·cases h
 ·rw [yd] at h
  unfold ay at h
  split at h
  ·cases h;have:=y.pos;simp only [Kd.lg];omega
  ·rename_i b;cases h;have:=b.pos;simp only [Kd.lg];omega
  ·cases h;have:=y.pos;simp only [Kd.lg];omega
  ·cases h
 ·rw [ue w x hno] at h;cases h
theorem Su{w:Z3}{x y:Kd}(h:wg w x=YW y)(ok:x.Ok):y.Ok:=by
 rcases n5 w with rfl | rfl | rfl | rfl | hno
 ·rw [vi] at h
  unfold rg at h
  split at h
  ·cases h;exact ⟨ok.2,ok.1⟩
  ·cases h;exact ⟨ok.2,ok.1⟩
  ·cases h
 ·rw [yg] at h
  unfold kh at h
  split at h
  ·cases h;exact ⟨ok.1.1,ok.1.2,ok.2⟩
  ·cases h;exact ⟨ok.1.1,ok.1.2,ok.2⟩
  ·cases h
 ·rw [wx] at h
  unfold yt at h
  split at h
  ·cases h;exact ⟨⟨ok.1,ok.2.1⟩,ok.1,ok.2.2⟩
  ·cases h
 ·rw [yd] at h
  unfold ay at h
  split at h
  ·cases h;exact ok.2
  ·cases h;trivial
  ·cases h;exact ok.2
  ·cases h
 ·rw [ue w x hno] at h;cases h
theorem C6(z:Sz)(x y:Kd)(hc:dk z y=dk z x)(ho:x.Ok->y.Ok):∀ (p:List Int) (k:Kd),ql k p=YW x->dk z (wb k p y)=dk z k/\(wb k p y).lg+x.lg=k.lg+y.lg/\(k.Ok->(wb k p y).Ok)
 | [],k,h=>by
  simp only [ql,ZO] at h
  subst h
  exact ⟨by simp only [wb];exact hc,by simp only [wb];exact Nat.add_comm _ _,by simp only [wb];exact ho⟩
 | s::p,k,h=>by
  simp only [ql] at h
  cases k with
  | either a b=>
   simp only [jd] at h
   unfold wb
   split
   ·rename_i h0;rw [jn h0] at h
    obtain ⟨h1,h2,h3⟩:=C6 z x y hc ho p a h
    exact ⟨by simp only [dk,h1],by simp only [Kd.lg];omega,λo=>⟨h3 o.1,o.2⟩⟩
   ·rename_i h0
    rw [qz h0] at h
    split at h
    ·obtain ⟨h1,h2,h3⟩:=C6 z x y hc ho p b h
     exact ⟨by simp only [dk,h1],by simp only [Kd.lg];omega,λo=>⟨o.1,h3 o.2⟩⟩
    ·cases h
  | both a b=>
   simp only [jd] at h
   unfold wb
   split
   ·rename_i h0;rw [jn h0] at h
    obtain ⟨h1,h2,h3⟩:=C6 z x y hc ho p a h
    exact ⟨by simp only [dk,h1],by simp only [Kd.lg];omega,λo=>⟨h3 o.1,o.2⟩⟩
   ·rename_i h0
    rw [qz h0] at h
    split at h
    ·obtain ⟨h1,h2,h3⟩:=C6 z x y hc ho p b h
     exact ⟨by simp only [dk,h1],by simp only [Kd.lg];omega,λo=>⟨o.1,h3 o.2⟩⟩
    ·cases h
  | none=>cases h
  | one=>cases h
  | name _=>cases h
theorem AH{z:Sz}{x y:Kd}(f:Th->Th)(hf:∀ t,jo z x t->jo z y (f t)):∀ (p:List Int) (k:Kd) (t:Th),ql k p=YW x->jo z k t->jo z (wb k p y) (yq k p f t)
 | [],k,t,h,ht=>by
  simp only [ql,ZO] at h
  subst h
  simp only [wb,m6]
  exact hf t ht
 | s::p,k,t,h,ht=>by
  simp only [ql] at h
  cases k with
  | either a b=>
   simp only [jd] at h
   rcases qa ht with ⟨u,rfl,hu⟩ | ⟨u,rfl,hu⟩
   ·unfold wb yq
    by_cases h0:s=0
    ·rw [jn h0] at h ⊢
     rw [jn h0]
     exact AH f hf p a u h hu
    ·rw [qz h0,qz h0]
     exact hu
   ·unfold wb yq
    by_cases h0:s=0
    ·rw [jn h0,jn h0]
     exact hu
    ·rw [qz h0] at h ⊢
     rw [qz h0]
     split at h
     ·exact AH f hf p b u h hu
     ·cases h
  | both a b=>
   simp only [jd] at h
   obtain ⟨u,v,rfl,hu,hv⟩:=qe ht
   unfold wb yq
   by_cases h0:s=0
   ·rw [jn h0] at h ⊢
    rw [jn h0]
    exact ⟨AH f hf p a u h hu,hv⟩
   ·rw [qz h0] at h ⊢
    rw [qz h0]
    split at h
    ·exact ⟨hu,AH f hf p b v h hv⟩
    ·cases h
  | none=>cases h
  | one=>cases h
  | name _=>cases h
theorem AS{z:Sz}{x y:Kd}(g:Th->Th)(hg:∀ t,jo z y t->jo z x (g t)):∀ (p:List Int) (k:Kd) (u:Th),ql k p=YW x->jo z (wb k p y) u->jo z k (yq k p g u)/\ki k p (jo z y) u
 | [],k,t,h,ht=>by
  simp only [ql,ZO] at h
  subst h
  simp only [wb] at ht
  rw [m6,AR]
  exact ⟨hg t ht,ht⟩
 | s::p,k,t,h,ht=>by
  simp only [ql] at h
  cases k with
  | either a b=>
   simp only [jd] at h
   unfold wb at ht
   by_cases h0:s=0
   ·rw [jn h0] at h ht
    rcases qa ht with ⟨u,rfl,hu⟩ | ⟨u,rfl,hu⟩
    ·obtain ⟨h1,h2⟩:=AS g hg p a u h hu
     unfold yq ki
     rw [jn h0,jn h0]
     exact ⟨h1,h2⟩
    ·unfold yq ki
     rw [jn h0,jn h0]
     exact ⟨hu,trivial⟩
   ·rw [qz h0] at h ht
    split at h
    ·rcases qa ht with ⟨u,rfl,hu⟩ | ⟨u,rfl,hu⟩
     ·unfold yq ki
      rw [qz h0,qz h0]
      exact ⟨hu,trivial⟩
     ·obtain ⟨h1,h2⟩:=AS g hg p b u h hu
      unfold yq ki
      rw [qz h0,qz h0]
      exact ⟨h1,h2⟩
    ·cases h
  | both a b=>
   simp only [jd] at h
   unfold wb at ht
   by_cases h0:s=0
   ·rw [jn h0] at h ht
    obtain ⟨u,v,rfl,hu,hv⟩:=qe ht
    obtain ⟨h1,h2⟩:=AS g hg p a u h hu
    unfold yq ki
    rw [jn h0,jn h0]
    exact ⟨⟨h1,hv⟩,h2⟩
   ·rw [qz h0] at h ht
    split at h
    ·obtain ⟨u,v,rfl,hu,hv⟩:=qe ht
     obtain ⟨h1,h2⟩:=AS g hg p b v h hv
     unfold yq ki
     rw [qz h0,qz h0]
     exact ⟨⟨hu,h1⟩,h2⟩
    ·cases h
  | none=>cases h
  | one=>cases h
  | name _=>cases h
structure Turns(z:Sz)(k k':Kd)(w:Z3)(p:List Int):Prop where
 cn:dk z k'=dk z k
 lv:k'.lg+2<=2 * k.lg
 ok:k.Ok->k'.Ok
 fw:∀ t,jo z k t->jo z k' (Ax k w p t)
 inj:∀ t u,jo z k t->jo z k u->Ax k w p t=Ax k w p u->t=u
 bw:∀ u,jo z k' u->∃ t,jo z k t/\Ax k w p t=u
theorem Ou{z:Sz}{k k':Kd}{w:Z3}{p:List Int}(h:j7 k w p=YW k'):Turns z k k' w p:=by
 unfold j7 at h
 cases hx:ql k p with
 | none=>rw [hx] at h;cases h
 | some x=>
  rw [hx] at h
  simp only [ZH] at h
  cases hy:wg w x with
  | none=>rw [hy] at h;cases h
  | some y=>
   rw [hy] at h
   simp only [aH,ZO] at h
   subst h
   obtain ⟨h1,h2,h3⟩:=C6 z x y (Pf z hy) (Su hy) p k hx
   have h4:=Lz hy
   have h5:=AY p k x hx
   have ef:∀ t,Ax k w p t=yq k p (xf w x) t:=λt=>by simp only [Ax,hx]
   refine ⟨h1,by omega,h3,λt ht=>?_,λt u ht hu e=>?_,λu hu=>?_⟩
   ·rw [ef];exact AH _ (λt ht=>OL hy ht) p k t hx ht
   ·rw [ef,ef] at e
    have b1:=ah (xf w x) (Ay w x) (jo z x) (λt ht=>DT hy ht) p k t (dj z p k x t hx ht)
    have b2:=ah (xf w x) (Ay w x) (jo z x) (λt ht=>DT hy ht) p k u (dj z p k x u hx hu)
    rw [<- b1,e,b2]
   ·obtain ⟨q1,q2⟩:=AS (Ay w x) (λt ht=>(On hy ht).1) p k u hx hu
    refine ⟨_,q1,?_⟩
    rw [ef]
    exact ah (Ay w x) (xf w x) (jo z y) (λt ht=>(On hy ht).2) p k u q2
noncomputable def Eu(z:Sz):Kd->List Th
 | .none=>[]
 | .one=>[.unit]
 | .name i=>(ZR (z.at i).toNat).map λ(j:Nat)=>.num (j:Int)
 | .either a b=>(Eu z a).map .left++(Eu z b).map .right
 | .both a b=>(Eu z a).flatMap λx=>(Eu z b).map λy=>.pair x y
theorem sq(z:Sz):∀ k:Kd,e7 z k=(Eu z k).map zh
 | .none=>rfl
 | .one=>rfl
 | .name i=>by simp [e7,Eu,bu,zh,dP]
 | .either a b=>by simp [e7,Eu,sq z a,sq z b,zh,dP]
 | .both a b=>by simp [e7,Eu,sq z a,sq z b,zh,dP,List.flatMap_map,List.map_flatMap]
theorem en(z:Sz):∀ (k:Kd) (t:Th),t∈Eu z k↔jo z k t
 | .none,t=>by simp only [Eu];cases t<;>simp [jo]
 | .one,t=>by simp only [Eu];cases t<;>simp [jo]
 | .name i,t=>by
  simp only [Eu,aV,gF]
  constructor
  ·rintro ⟨j,hj,rfl⟩
   simp only [jo]
   omega
  ·intro h
   cases t<;>simp only [jo] at h
   rename_i v
   exact ⟨v.toNat,by omega,by rw [Int.toNat_of_nonneg h.1]⟩
 | .either a b,t=>by
  simp only [Eu,aO,aV]
  constructor
  ·rintro (⟨u,hu,rfl⟩ | ⟨u,hu,rfl⟩)
   ·exact (en z a u).mp hu
   ·exact (en z b u).mp hu
  ·intro h
   rcases qa h with ⟨u,rfl,hu⟩ | ⟨u,rfl,hu⟩
   ·exact .inl ⟨u,(en z a u).mpr hu,rfl⟩
   ·exact .inr ⟨u,(en z b u).mpr hu,rfl⟩
 | .both a b,t=>by
  simp only [Eu,List.mem_flatMap,aV]
  constructor
  ·rintro ⟨u,hu,v,hv,rfl⟩
   exact ⟨(en z a u).mp hu,(en z b v).mp hv⟩
  ·intro h
   obtain ⟨u,v,rfl,hu,hv⟩:=qe h
   exact ⟨u,(en z a u).mpr hu,v,(en z b v).mpr hv,rfl⟩
theorem rk{α β:Type}{f:α->β}(hf:∀ x y,f x=f y->x=y):∀ {l:List α},l.Nodup->(l.map f).Nodup
 | [],_=>iU
 | x::xs,h=>by
  rw [dE] at h
  rw [ZC,dE]
  refine ⟨λhm=>?_,rk hf h.2⟩
  obtain ⟨y,hy,e⟩:=aV.mp hm
  exact h.1 (hf _ _ e ▸ hy)
theorem DB{ys:List Th}(hy:ys.Nodup):∀ {xs:List Th},xs.Nodup->(xs.flatMap λx=>ys.map λy=>Th.pair x y).Nodup
 | [],_=>iU
 | x::xs,h=>by
  rw [dE] at h
  rw [gN,List.nodup_append]
  refine ⟨rk (λa b e=>by injection e) hy,DB hy h.2,λa ha b hb e=>?_⟩
  subst e
  obtain ⟨y,_,rfl⟩:=aV.mp ha
  obtain ⟨x',hx',hb⟩:=List.mem_flatMap.mp hb
  obtain ⟨y',_,e⟩:=aV.mp hb
  injection e with e1 _
  exact h.1 (e1 ▸ hx')
theorem rn(z:Sz):∀ k:Kd,(Eu z k).Nodup
 | .none=>iU
 | .one=>by simp [Eu]
 | .name i=>rk (λa b e=>by injection e with e;omega) List.nodup_range
 | .either a b=>by
  simp only [Eu]
  rw [List.nodup_append]
  refine ⟨rk (λa b e=>by injection e) (rn z a),rk (λa b e=>by injection e) (rn z b),λx hx y hy e=>?_⟩
  obtain ⟨_,_,rfl⟩:=aV.mp hx
  obtain ⟨_,_,rfl⟩:=aV.mp hy
  cases e
 | .both a b=>DB (rn z b) (rn z a)
theorem C5(t:Th)(s:Z3):zh t≠.str s:=by cases t<;>simp [zh]
theorem p7:∀ a b:Th,zh a=zh b->a=b
 | .unit,.unit,_=>rfl
 | .num i,.num j,e=>by simp only [zh,eB.injEq] at e;rw [e]
 | .left a,.left b,e=>by
  simp only [zh,aZ,bR,and_true,true_and] at e
  rw [p7 a b e]
 | .right a,.right b,e=>by
  simp only [zh,aZ,bR,and_true,true_and] at e
  rw [p7 a b e]
 | .pair a b,.pair c d,e=>by
  simp only [zh,aZ,bR,and_true] at e
  rw [p7 a c e.1,p7 b d e.2]
 | .left a,.right b,e=>by
  simp only [zh,aZ,bR,Zu.injEq] at e
  have:=WH
  rw [e.1] at this
  simp at this
 | .right a,.left b,e=>by
  simp only [zh,aZ,bR,Zu.injEq] at e
  have:=V5
  rw [e.1] at this
  simp at this
 | .left a,.pair c d,e=>by
  simp only [zh,aZ,bR] at e
  exact absurd e.1.symm (C5 c _)
 | .right a,.pair c d,e=>by
  simp only [zh,aZ,bR] at e
  exact absurd e.1.symm (C5 c _)
 | .pair c d,.left a,e=>by
  simp only [zh,aZ,bR] at e
  exact absurd e.1 (C5 c _)
 | .pair c d,.right a,e=>by
  simp only [zh,aZ,bR] at e
  exact absurd e.1 (C5 c _)
 | .unit,.num _,e=>by simp [zh] at e
 | .unit,.left _,e=>by simp [zh] at e
 | .unit,.right _,e=>by simp [zh] at e
 | .unit,.pair _ _,e=>by simp [zh] at e
 | .num _,.unit,e=>by simp [zh] at e
 | .num _,.left _,e=>by simp [zh] at e
 | .num _,.right _,e=>by simp [zh] at e
 | .num _,.pair _ _,e=>by simp [zh] at e
 | .left _,.unit,e=>by simp [zh] at e
 | .left _,.num _,e=>by simp [zh] at e
 | .right _,.unit,e=>by simp [zh] at e
 | .right _,.num _,e=>by simp [zh] at e
 | .pair _ _,.unit,e=>by simp [zh] at e
 | .pair _ _,.num _,e=>by simp [zh] at e
theorem dg:∀ t:Th,KN.kD (zh t)=true
 | .unit=>rfl
 | .num _=>rfl
 | .left t=>by simp [zh,KN.kD,KN.kDs,MC,dg t]
 | .right t=>by simp [zh,KN.kD,KN.kDs,JT,dg t]
 | .pair a b=>by simp [zh,KN.kD,KN.kDs,dg a,dg b]
theorem fg(z:Sz):∀ (k:Kd) (t:Th),jo z k t->(zh t).depth<=k.lg
 | .one,t,h=>by rw [C0 h];simp [zh,ZA,Zs,Kd.lg]
 | .name _,t,h=>by
  cases t<;>simp only [jo] at h
  simp [zh,ZA,Kd.lg]
 | .either a b,t,h=>by
  have:=a.pos;have:=b.pos
  rcases qa h with ⟨u,rfl,hu⟩ | ⟨u,rfl,hu⟩
  ·have:=fg z a u hu
   simp [zh,ZA,Zs,Kd.lg];omega
  ·have:=fg z b u hu
   simp [zh,ZA,Zs,Kd.lg];omega
 | .both a b,t,h=>by
  have:=a.pos;have:=b.pos
  obtain ⟨u,v,rfl,hu,hv⟩:=qe h
  have:=fg z a u hu
  have:=fg z b v hv
  simp [zh,ZA,Zs,Kd.lg];omega
 | .none,t,h=>(vt h).elim
theorem R7{z:Sz}{k:Kd}(hk:k.lg<=8):(∀ t,jo z k t->Ub (zh t)=true)∨∀ t,jo z k t->CQ (zh t)=true:=by
 cases k with
 | name i=>
  refine .inl λt h=>?_
  cases t<;>simp only [jo] at h
  rfl
 | none=>exact .inl λt h=>(vt h).elim
 | one=>
  refine .inr λt h=>?_
  have d:=fg z _ t h
  have q:=dg t
  rw [C0 h] at d q ⊢
  simp only [zh,CQ] at d q ⊢
  rw [q,decide_eq_true (by assumption)];rfl
 | either a b=>
  refine .inr λt h=>?_
  have d:=fg z _ t h
  have q:=dg t
  rcases qa h with ⟨u,rfl,hu⟩ | ⟨u,rfl,hu⟩
  ·simp only [zh,CQ] at d q ⊢
   rw [q,decide_eq_true (by exact Zt ‹_› ‹_›)];rfl
  ·simp only [zh,CQ] at d q ⊢
   rw [q,decide_eq_true (by exact Zt ‹_› ‹_›)];rfl
 | both a b=>
  refine .inr λt h=>?_
  have d:=fg z _ t h
  have q:=dg t
  obtain ⟨u,v,rfl,hu,hv⟩:=qe h
  simp only [zh,CQ] at d q ⊢
  rw [q,decide_eq_true (by exact Zt ‹_› ‹_›)];rfl
theorem Uq{z:Sz}{k:Kd}(hk:k.lg<=8){us:List Th}{u:Th}(hu:jo z k u)(hus:∀ t∈us,jo z k t):Bp (us.map zh) (zh u)=true:=by
 unfold Bp
 rcases R7 (z:=z) hk with h | h
 ·rw [h u hu,bI,dH]
  refine .inl (gT.mpr λx hx=>?_)
  obtain ⟨t,ht,rfl⟩:=aV.mp hx
  exact h t (hus t ht)
 ·rw [h u hu,bI,dH]
  refine .inr (gT.mpr λx hx=>?_)
  obtain ⟨t,ht,rfl⟩:=aV.mp hx
  exact h t (hus t ht)
theorem QV(us:List Th)(u:Th):Bn (us.map zh) (zh u)=true↔u∈us:=by
 unfold Bn
 rw [List.any_eq_true]
 constructor
 ·rintro ⟨x,hx,e⟩
  obtain ⟨t,ht,rfl⟩:=aV.mp hx
  rw [<- p7 _ _ ((KN.kD_eqv _ _ (dg t) (dg u)).mp e)]
  exact ht
 ·intro h
  exact ⟨zh u,List.mem_map_of_mem h,(KN.kD_eqv _ _ (dg u) (dg u)).mpr rfl⟩
theorem wm(l:List (List Int)):(jw ao l).Perm l:=by
 rw [show (ao:List Int->List Int->Bool)=HT.lexLt from funext λa=>funext λb=>Aa a b]
 exact ed (O:=rowOrd) l
theorem iq{l m:List (List Int)}(h:l.Perm m):jw ao l=jw ao m:=by
 rw [show (ao:List Int->List Int->Bool)=HT.lexLt from funext λa=>funext λb=>Aa a b]
 exact mx (O:=rowOrd) ((ed (O:=rowOrd) l).trans h) (su (O:=rowOrd) l)
theorem Fk(l:List (List Int)):jw ao (jw ao l)=jw ao l:=iq (wm l)
theorem sx(l:List Int):(jw BF l).Perm l:=ed (O:=intOrd) l
theorem EM{l m:List Int}(h:l.Perm m):jw BF l=jw BF m:=mx (O:=intOrd) ((ed (O:=intOrd) l).trans h) (su (O:=intOrd) l)
theorem NT(l:List Int):(jw BF l).length=l.length:=(sx l).length_eq
theorem vx(l:List (List Int)):(jw ao l).length=l.length:=(wm l).length_eq
noncomputable def fq(x:List Int)(ys:List (List Int)):List (List Int):=ys.map λy=>jw BF (x++y)
noncomputable def wq(xs ys:List (List Int)):List (List Int):=xs.flatMap λx=>fq x ys
theorem GK(xs:List (List Int)):wq xs []=[]:=by
 induction xs with
 | nil=>rfl
 | cons x xs ih=>simpa [wq,fq] using ih
theorem yw(x:List Int)(xs ys:List (List Int)):wq (x::xs) ys=fq x ys++wq xs ys:=rfl
theorem mj(xs ys:List (List Int)):(wq xs ys).length=xs.length * ys.length:=by
 induction xs with
 | nil=>simp [wq]
 | cons x xs ih=>rw [yw,Za,ih,Zj,Nat.succ_mul,Nat.add_comm];simp [fq]
theorem Ak{xs xs' ys ys':List (List Int)}(hx:xs.Perm xs')(hy:ys.Perm ys'):(wq xs ys).Perm (wq xs' ys'):=by
 refine (hx.flatMap_right _).trans ?_
 show (wq xs' ys).Perm _
 clear hx
 induction xs' with
 | nil=>exact .refl _
 | cons x xs ih=>rw [yw,yw];exact (hy.map _).append ih
noncomputable def lb:Kd->List (List Int)
 | .none=>[]
 | .one=>[[]]
 | .name i=>[[i]]
 | .either a b=>jw ao (lb a++lb b)
 | .both a b=>jw ao (wq (lb a) (lb b))
noncomputable def C7:Kd->Bool
 | .none=>true
 | .one=>false
 | .name _=>false
 | .either a b=>C7 a && C7 b
 | .both a b=>C7 a || C7 b
noncomputable def ga:Kd->List (List Int)
 | .none=>[]
 | .one=>[[]]
 | .name i=>[[i]]
 | .either a b=>ga a++ga b
 | .both a b=>if (C7 a || C7 b)=true then [] else wq (ga a) (ga b)
theorem B8:∀ k:Kd,C7 k=true->lb k=[]
 | .none,_=>rfl
 | .one,h=>by cases h
 | .name _,h=>by cases h
 | .either a b,h=>by
  simp only [C7,Zn] at h
  simp [lb,B8 a h.1,B8 b h.2,jw]
 | .both a b,h=>by
  simp only [C7,dH] at h
  rcases h with h | h
  ·simp [lb,B8 a h,wq,jw]
  ·simp [lb,B8 b h,GK,jw]
theorem t9:∀ k:Kd,(ga k).Perm (lb k)
 | .none=>.refl _
 | .one=>.refl _
 | .name _=>.refl _
 | .either a b=>((t9 a).append (t9 b)).trans (wm _).symm
 | .both a b=>by
  simp only [ga]
  split
  ·rename_i h
   rw [B8 (.both a b) (by simpa [C7] using h)]
  ·exact (Ak (t9 a) (t9 b)).trans (wm _).symm
theorem Dd:∀ k:Kd,jw ao (lb k)=lb k
 | .none=>rfl
 | .one=>rfl
 | .name _=>rfl
 | .either a b=>Fk _
 | .both a b=>Fk _
theorem Rj(k:Kd):jw ao (ga k)=lb k:=(iq (t9 k)).trans (Dd k)
theorem Vm(k:Kd):(ga k).length=(lb k).length:=(t9 k).length_eq
noncomputable def nh(n:Nat):Nat:=[0,1,2,3,4,6,9,12,18].getD n 0
theorem N1:∀ a∈ZR 9,∀ b∈ZR 9,(a+b<=8/\1<=a/\1<=b)->nh a+nh b<=nh (a+b)/\nh a * nh b<=nh (a+b):=by decide
theorem Gh(a:Nat)(ha:a<=8)(b:Nat)(hb:b<=8)(h:a+b<=8)(h1:1<=a)(h2:1<=b):nh a+nh b<=nh (a+b)/\nh a * nh b<=nh (a+b):=N1 a (gF.mpr (by omega)) b (gF.mpr (by omega)) ⟨h,h1,h2⟩
theorem J7(a:Nat)(h:a<=8):nh a<=18:=(by decide:∀ a,a < 9->nh a<=18) a (by omega)
theorem CP:∀ k:Kd,k.lg<=8->(lb k).length<=nh k.lg
 | .none,_=>by decide
 | .one,_=>by decide
 | .name _,_=>Ze 1
 | .either a b,h=>by
  simp only [Kd.lg] at h ⊢
  have pa:=a.pos;have pb:=b.pos
  have ha:=CP a (by omega);have hb:=CP b (by omega)
  have:=(Gh a.lg (by omega) b.lg (by omega) h pa pb).1
  simp only [lb,vx,Za];omega
 | .both a b,h=>by
  simp only [Kd.lg] at h ⊢
  have pa:=a.pos;have pb:=b.pos
  have ha:=CP a (by omega);have hb:=CP b (by omega)
  have:=(Gh a.lg (by omega) b.lg (by omega) h pa pb).2
  simp only [lb,vx,mj]
  exact Zo (fG ha hb) this
noncomputable def K8:Kd->Prop
 | .either a b=>K8 a/\K8 b/\(lb a).length+(lb b).length<=18
 | .both a b=>K8 a/\K8 b/\(lb a).length * (lb b).length<=18
 | _=>True
theorem Fc:∀ (k:Kd),K8 k->(lb k).length<=18
 | .none,_=>by simp [lb]
 | .one,_=>by simp [lb]
 | .name _,_=>by simp [lb]
 | .either a b,h=>by simp only [lb,vx,Za];exact h.2.2
 | .both a b,h=>by simp only [lb,vx,mj];exact h.2.2
theorem JB(k:Kd)(h:K8 k):(ga k).length<=18:=by rw [Vm];exact Fc k h
theorem Pm:∀ (k:Kd),k.lg<=8->K8 k
 | .none,_=>trivial
 | .one,_=>trivial
 | .name _,_=>trivial
 | .either a b,h=>by
  have h0:=Zo (CP _ h) (J7 _ h)
  simp only [lb,vx,Za] at h0
  simp only [Kd.lg] at h
  exact ⟨Pm a (by omega),Pm b (by omega),h0⟩
 | .both a b,h=>by
  have h0:=Zo (CP _ h) (J7 _ h)
  simp only [lb,vx,mj] at h0
  simp only [Kd.lg] at h
  exact ⟨Pm a (by omega),Pm b (by omega),h0⟩
theorem Gz{xs ys:List (List Int)}{r:List Int}(h:r∈wq xs ys):∃ x∈xs,∃ y∈ys,r=jw BF (x++y):=by
 unfold wq fq at h
 rw [List.mem_flatMap] at h
 obtain ⟨x,hx,h⟩:=h
 rw [aV] at h
 obtain ⟨y,hy,rfl⟩:=h
 exact ⟨x,hx,y,hy,rfl⟩
theorem By:∀ (k:Kd) (r:List Int),r∈lb k->r.length<=k.lg
 | .none,r,h=>by cases h
 | .one,r,h=>by simp only [lb,bF] at h;subst h;simp [Kd.lg]
 | .name _,r,h=>by simp only [lb,bF] at h;subst h;simp [Kd.lg]
 | .either a b,r,h=>by
  have h':=(wm _).mem_iff.mp h
  simp only [Kd.lg]
  rcases aO.mp h' with h' | h'
  ·have:=By a r h';omega
  ·have:=By b r h';omega
 | .both a b,r,h=>by
  obtain ⟨x,hx,y,hy,rfl⟩:=Gz ((wm _).mem_iff.mp h)
  have:=By a x hx;have:=By b y hy
  simp only [Kd.lg,NT,Za];omega
theorem Qd(k:Kd)(r:List Int)(h:r∈ga k):r.length<=k.lg:=By k r ((t9 k).mem_iff.mp h)
noncomputable def wa(rs:List (List Int)):YX:=.list (rs.map qu)
theorem AF{rs:List (List Int)}(h:rs.length < 64):Ce (wa rs)=YW (wa (jw ao rs)):=KC h
theorem JC(x y:List Int)(h:x.length+y.length<=big):il (qu x) (qu y)=YW (qu (x++y)):=by
 simp [il,qu,OU,h]
theorem EH{x:List Int}(h:x.length < 64):Ce (qu x)=YW (.list ((jw BF x).map .int)):=Ll h
theorem Iu(x:List Int):Fn (.list (x.map .int))=YW (qu x):=by simp [Fn,OU,qu]
theorem KF:∀ (k:Kd) (r:List Int),r∈lb k->jw BF r=r
 | .none,r,h=>by simp [lb] at h
 | .one,r,h=>by simp only [lb,bF] at h;subst h;rfl
 | .name i,r,h=>by simp only [lb,bF] at h;subst h;rfl
 | .either a b,r,h=>by
  rw [lb,(wm _).mem_iff,aO] at h
  rcases h with h | h
  ·exact KF a r h
  ·exact KF b r h
 | .both a b,r,h=>by
  rw [lb,(wm _).mem_iff] at h
  obtain ⟨x,_,y,_,rfl⟩:=Gz h
  exact EM (sx _)
theorem Nv(xs xs' ys:List (List Int)):wq (xs++xs') ys=wq xs ys++wq xs' ys:=by simp [wq]
theorem D0(y:List Int)(ys:List (List Int)):∀ xs:List (List Int),(wq xs (y::ys)).Perm (xs.map (λx=>jw BF (x++y))++wq xs ys)
 | []=>.refl _
 | x::xs=>by
  rw [yw,yw,ZC,gU]
  refine List.Perm.cons _ ?_
  show (fq x ys++wq xs (y::ys)).Perm _
  refine ((D0 y ys xs).append_left _).trans ?_
  rw [<- Z6,<- Z6]
  exact cY.append_right _
theorem Ew(xs ys:List (List Int)):∀ zs:List (List Int),(wq zs (xs++ys)).Perm (wq zs xs++wq zs ys)
 | []=>.refl _
 | z::zs=>by
  rw [yw,yw,yw]
  have e:fq z (xs++ys)=fq z xs++fq z ys:=by simp [fq]
  rw [e,Z6,Z6]
  refine List.Perm.append_left _ ?_
  refine ((Ew xs ys zs).append_left _).trans ?_
  rw [<- Z6,<- Z6]
  exact cY.append_right _
theorem E1:∀ xs ys:List (List Int),(wq xs ys).Perm (wq ys xs)
 | [],ys=>by rw [GK];exact .refl _
 | x::xs,ys=>by
  rw [yw]
  refine .trans ?_ (D0 x xs ys).symm
  have e:fq x ys=ys.map (λy=>jw BF (y++x)):=cG λy _=>EM cY
  rw [e]
  exact (E1 xs ys).append_left _
theorem N2(x y z:List Int):jw BF (jw BF (x++y)++z)=jw BF (x++jw BF (y++z)):=by
 refine EM ?_
 refine ((sx (x++y)).append_right z).trans ?_
 rw [Z6]
 exact ((sx (y++z)).symm.append_left x)
theorem Dy(ys zs:List (List Int)):∀ xs:List (List Int),wq (wq xs ys) zs=wq xs (wq ys zs)
 | []=>rfl
 | x::xs=>by
  rw [yw,yw,Nv,Dy ys zs xs]
  congr 1
  induction ys with
  | nil=>rfl
  | cons y ys ih=>
   show fq (jw BF (x++y)) zs++wq (fq x ys) zs=fq x (fq y zs++wq ys zs)
   rw [ih]
   have e:fq x (fq y zs++wq ys zs)=fq x (fq y zs)++fq x (wq ys zs):=by simp [fq]
   rw [e]
   congr 1
   simp only [fq,List.map_map]
   exact cG λz _=>N2 x y z
theorem QA(ys:List (List Int))(h:∀ r∈ys,jw BF r=r):fq [] ys=ys:=by
 unfold fq
 conv=>rhs;rw [<- List.map_id ys]
 exact cG λy hy=>h y hy
theorem S7{x y:Kd}(h:rg x=YW y):lb y=lb x:=by
 cases x<;>simp only [rg,reduceCtorEq,ZO] at h<;>subst h
 ·exact iq cY
 ·exact iq (E1 _ _)
theorem Q6{x y:Kd}(h:kh x=YW y):lb y=lb x:=by
 unfold kh at h
 split at h<;>simp only [reduceCtorEq,ZO] at h<;>subst h
 ·rename_i a b c
  refine iq ?_
  refine (((wm (lb b++lb c)).append_left (lb a)).trans ?_)
  rw [<- Z6]
  exact (wm (lb a++lb b)).symm.append_right (lb c)
 ·rename_i a b c
  refine iq ?_
  refine (Ak (.refl _) (wm (wq (lb b) (lb c)))).trans ?_
  rw [<- Dy]
  exact Ak (wm (wq (lb a) (lb b))).symm (.refl _)
theorem N7{x y:Kd}(h:yt x=YW y):lb y=lb x:=by
 unfold yt at h
 split at h<;>simp only [reduceCtorEq,ZO] at h
 subst h
 rename_i a b c
 refine iq ?_
 refine ((wm _).append (wm _)).trans ?_
 refine (Ew (lb b) (lb c) (lb a)).symm.trans ?_
 exact Ak (.refl _) (wm (lb b++lb c)).symm
theorem SB{x y:Kd}(h:ay x=YW y):lb y=lb x:=by
 unfold ay at h
 split at h<;>simp only [reduceCtorEq,ZO] at h<;>subst h
 ·exact (Dd _).symm
 ·rfl
 ·rename_i b
  show lb b=jw ao (wq [[]] (lb b))
  have e:wq [[]] (lb b)=lb b:=by
   show fq [] (lb b)++[]=lb b
   rw [ZL,QA _ (KF b)]
  rw [e,Dd]
theorem Rk{w:Z3}{x y:Kd}(h:wg w x=YW y):lb y=lb x:=by
 unfold wg at h
 split at h
 ·exact S7 h
 ·split at h
  ·exact Q6 h
  ·split at h
   ·exact N7 h
   ·split at h
    ·exact SB h
    ·cases h
theorem Fe:∀ (p:List Int) (k x y:Kd),ql k p=YW x->lb y=lb x->lb (wb k p y)=lb k
 | [],k,x,y,h,e=>by cases h;simpa [wb] using e
 | s::p,k,x,y,h,e=>by
  simp only [ql] at h
  cases hs:jd k s with
  | none=>rw [hs] at h;cases h
  | some c=>
   rw [hs] at h
   have h':ql c p=YW x:=h
   cases k with
   | either a b=>
    simp only [wb]
    by_cases z:s=0
    ·subst z
     have:c=a:=by simpa [jd] using hs.symm
     subst this
     rw [jn rfl,lb,Fe p c x y h' e,lb]
    ·have:c=b:=by
       unfold jd at hs
       simp only [z,if_false] at hs
       split at hs<;>simp at hs
       exact hs.symm
     subst this
     rw [qz z,lb,Fe p c x y h' e,lb]
   | both a b=>
    simp only [wb]
    by_cases z:s=0
    ·subst z
     have:c=a:=by simpa [jd] using hs.symm
     subst this
     rw [jn rfl,lb,Fe p c x y h' e,lb]
    ·have:c=b:=by
       unfold jd at hs
       simp only [z,if_false] at hs
       split at hs<;>simp at hs
       exact hs.symm
     subst this
     rw [qz z,lb,Fe p c x y h' e,lb]
   | none=>simp [jd] at hs
   | one=>simp [jd] at hs
   | name i=>simp [jd] at hs
theorem Ro{k k':Kd}{w:Z3}{p:List Int}(h:j7 k w p=YW k'):lb k'=lb k:=by
 unfold j7 at h
 cases hp:ql k p with
 | none=>rw [hp] at h;cases h
 | some x=>
  rw [hp] at h
  cases hw:wg w x with
  | none=>simp [hw] at h
  | some y=>
   simp only [ZH,hw,aH,ZO] at h
   rw [<- h]
   exact Fe p k x y hp (Rk hw)
theorem Eo:∀ k:Kd,C7 k=false->lb k≠[]
 | .none,h=>by cases h
 | .one,_=>by simp [lb]
 | .name _,_=>by simp [lb]
 | .either a b,h=>λz=>by
  have l:=congrArg eJ z
  simp only [lb,vx,Za,ZJ] at l
  simp only [C7,Bool.and_eq_false_iff] at h
  rcases h with h | h
  ·exact Eo a h (aX.mp (by omega))
  ·exact Eo b h (aX.mp (by omega))
 | .both a b,h=>λz=>by
  have l:=congrArg eJ z
  simp only [lb,vx,mj,ZJ] at l
  simp only [C7,iB] at h
  rcases Nat.mul_eq_zero.mp l with e | e
  ·exact Eo a h.1 (aX.mp e)
  ·exact Eo b h.2 (aX.mp e)
noncomputable def bk:List Int->Kd
 | []=>.one
 | [n]=>.name n
 | n::m::ns=>.both (.name n) (bk (m::ns))
noncomputable def pk:List (List Int)->Kd
 | []=>.none
 | [r]=>bk r
 | r::s::rs=>.either (bk r) (pk (s::rs))
noncomputable def UQ(r:List Int):Prop:=r.Pairwise intOrd.kle
theorem PZ{r:List Int}(h:UQ r):jw BF r=r:=(mx (O:=intOrd) (List.Perm.refl r) h).symm
theorem Mj:∀ r:List Int,UQ r->lb (bk r)=[r]
 | [],_=>rfl
 | [n],_=>rfl
 | n::m::ns,h=>by
  have h':UQ (m::ns):=List.Pairwise.of_cons h
  have e:jw BF ([n]++(m::ns))=n::m::ns:=PZ h
  show jw ao (wq [[n]] (lb (bk (m::ns))))=_
  rw [Mj (m::ns) h']
  show jw ao [jw BF ([n]++(m::ns))]=_
  rw [e];rfl
theorem Tn:∀ rs:List (List Int),(∀ r∈rs,UQ r)->lb (pk rs)=jw ao rs
 | [],_=>rfl
 | [r],h=>by show lb (bk r)=_;rw [Mj r (h r (Zz ..))];rfl
 | r::s::rs,h=>by
  show jw ao (lb (bk r)++lb (pk (s::rs)))=_
  rw [Mj r (h r (Zz ..)),Tn (s::rs) λx hx=>h x (Z5 _ hx)]
  exact iq ((wm (s::rs)).cons r)
abbrev vm:=List (Z3×List Int)
noncomputable def df:Kd->vm->Option Kd
 | k,[]=>YW k
 | k,t::r=>(j7 k t.1 t.2).bind λc=>df c r
noncomputable def Ap(p:List Int)(r:vm):vm:=r.map λt=>(t.1,p++t.2)
noncomputable def j9(p:List Int)(r:vm):List YX:=r.map λt=>jy t.1 (p++t.2)
theorem xm(p q:List Int)(r:vm):j9 p (Ap q r)=j9 (p++q) r:=by
 simp only [j9,Ap,List.map_map]
 exact cG λt _=>by simp [Z6]
theorem ko(p:List Int)(r s:vm):j9 p (r++s)=j9 p r++j9 p s:=by simp [j9]
theorem kn(p:List Int)(r:vm):(j9 p r).length=r.length:=by simp [j9]
theorem et(p:List Int)(r:vm):(Ap p r).length=r.length:=by simp [Ap]
theorem Pa:∀ (r q:vm) (k:Kd),df k (r++q)=(df k r).bind λc=>df c q
 | [],q,k=>rfl
 | t::r,q,k=>by
  simp only [gU,df]
  cases j7 k t.1 t.2 with
  | none=>rfl
  | some c=>exact Pa r q c
theorem f6{r q:vm}{k c d:Kd}(h:df k r=YW c)(h2:df c q=YW d):df k (r++q)=YW d:=by rw [Pa,h];exact h2
theorem PR{w:Z3}{p:List Int}{k c:Kd}(h:j7 k w p=YW c):df k [(w,p)]=YW c:=by simp [df,h]
theorem AL{w:Z3}{k c:Kd}(h:wg w k=YW c):j7 k w []=YW c:=by simp [j7,ql,h,wb]
theorem ez{w:Z3}{k c:Kd}(h:wg w k=YW c):df k [(w,[])]=YW c:=PR (AL h)
theorem D9:∀ (r:vm) (k c:Kd),df k r=YW c->lb c=lb k
 | [],k,c,h=>by cases h;rfl
 | t::r,k,c,h=>by
  simp only [df] at h
  cases e:j7 k t.1 t.2 with
  | none=>rw [e] at h;cases h
  | some d=>rw [e] at h;exact (D9 r d c h).trans (Ro e)
theorem O1:∀ (r:vm) (k c:Kd),df k r=YW c->sE c<=sE k
 | [],k,c,h=>by cases h;exact Ze _
 | t::r,k,c,h=>by
  simp only [df] at h
  cases e:j7 k t.1 t.2 with
  | none=>rw [e] at h;cases h
  | some d=>rw [e] at h;exact Zo (O1 r d c h) (Ox e).2
noncomputable def Ar:Bool->Kd->Kd->Kd
 | true,a,b=>.either a b
 | false,a,b=>.both a b
noncomputable def Y4:Bool->Kd
 | true=>.none
 | false=>.one
theorem U8(e:Bool)(a b:Kd)(w:Z3)(p:List Int):j7 (Ar e a b) w (0::p)=(j7 a w p).map (Ar e · b):=by
 cases e<;>simp only [j7,Ar,ql,jd,if_true,ZH,wb]<;>cases ql a p<;>simp [dP]
theorem UL(e:Bool)(a b:Kd)(w:Z3)(p:List Int):j7 (Ar e a b) w (1::p)=(j7 b w p).map (Ar e a ·):=by
 cases e<;>simp only [j7,Ar,ql,jd,(by decide:¬ (1:Int)=0),if_false,if_true,ZH,wb]<;>cases ql b p<;>simp [dP]
theorem WM(e:Bool)(b:Kd):∀ (r:vm) (a:Kd),df (Ar e a b) (Ap [0] r)=(df a r).map (Ar e · b)
 | [],a=>rfl
 | t::r,a=>by
  show (j7 (Ar e a b) t.1 (0::t.2)).bind (λc=>df c (Ap [0] r))=((j7 a t.1 t.2).bind λc=>df c r).map (Ar e · b)
  rw [U8]
  cases j7 a t.1 t.2 with
  | none=>rfl
  | some c=>exact WM e b r c
theorem Xl(e:Bool)(a:Kd):∀ (r:vm) (b:Kd),df (Ar e a b) (Ap [1] r)=(df b r).map (Ar e a ·)
 | [],b=>rfl
 | t::r,b=>by
  show (j7 (Ar e a b) t.1 (1::t.2)).bind (λc=>df c (Ap [1] r))=((j7 b t.1 t.2).bind λc=>df c r).map (Ar e a ·)
  rw [UL]
  cases j7 b t.1 t.2 with
  | none=>rfl
  | some c=>exact Xl e a r c
theorem NA(e:Bool){a a' b:Kd}{r:vm}(h:df a r=YW a'):df (Ar e a b) (Ap [0] r)=YW (Ar e a' b):=by rw [WM,h];rfl
theorem Lg(e:Bool){a b b':Kd}{r:vm}(h:df b r=YW b'):df (Ar e a b) (Ap [1] r)=YW (Ar e a b'):=by rw [Xl,h];rfl
theorem DY(e:Bool)(a b:Kd):wg "swap" (Ar e a b)=YW (Ar e b a):=by rw [vi];cases e<;>rfl
theorem P0(e:Bool)(a b c:Kd):wg "group" (Ar e (Ar e a b) c)=YW (Ar e a (Ar e b c)):=by rw [yg];cases e<;>rfl
theorem DU(e:Bool)(b:Kd):wg "drop" (Ar e (Y4 e) b)=YW b:=by rw [yd];cases e<;>rfl
noncomputable def cj{α:Type}(e:Bool)(f:α->Kd):List α->Kd
 | []=>Y4 e
 | [x]=>f x
 | x::y::r=>Ar e (f x) (cj e f (y::r))
theorem Dp{α:Type}(e:Bool)(f:α->Kd)(x:α){l:List α}(h:l≠[]):cj e f (x::l)=Ar e (f x) (cj e f l):=by
 cases l with
 | nil=>exact absurd rfl h
 | cons y r=>rfl
theorem Ea:∀ r:List Int,bk r=cj false .name r
 | []=>rfl
 | [n]=>rfl
 | n::m::ns=>by rw [bk,Ea (m::ns)];rfl
theorem DV:∀ r:List (List Int),pk r=cj true bk r
 | []=>rfl
 | [n]=>rfl
 | n::m::ns=>by rw [pk,DV (m::ns)];rfl
inductive Tr where
 | nil
 | bun (l:List Int)
 | nod (a b:Tr)
noncomputable def ju:Tr->YX
 | .nil=>.list []
 | .bun l=>qu l
 | .nod a b=>.list [ju a,ju b]
noncomputable def aa:Tr->Kd
 | .nil=>.none
 | .bun l=>bk l
 | .nod a b=>.either (aa a) (aa b)
noncomputable def ml:Tr->Prop
 | .nil=>False
 | .bun l=>UQ l
 | .nod a b=>ml a/\ml b
noncomputable def nb:Tr->Nat
 | .nil=>0
 | .bun _=>1
 | .nod a b=>nb a+nb b
theorem uj:∀ T:Tr,ml T->1<=nb T
 | .nil,h=>h.elim
 | .bun _,_=>Ze _
 | .nod a b,h=>by have:=uj a h.1;simp only [nb];omega
theorem Gs:∀ T:Tr,ml T->(lb (aa T)).length=nb T
 | .nil,h=>h.elim
 | .bun l,h=>by simp only [aa,Mj l h];rfl
 | .nod a b,h=>by simp only [aa,lb,vx,Za,Gs a h.1,Gs b h.2,nb]
theorem EV:∀ T:Tr,(ju T).canLay0=true
 | .nil=>rfl
 | .bun l=>bf l
 | .nod a b=>by simp [ju,Zw,Zg,EV a,EV b]
theorem K4:∀ l:List Int,l.length<=(bk l).lg
 | []=>aY _
 | [n]=>Ze _
 | n::m::ns=>by have:=K4 (m::ns);simp only [bk,Kd.lg,Zj] at *;omega
theorem xu(p q:List Int)(w:Z3)(r:vm):j9 p ((w,q)::r)=jy w (p++q)::j9 p r:=rfl
theorem Vr{n:Nat}(h:n<=50000):n < big:=Nat.lt_of_le_of_lt h (by decide)
theorem V7{n:Nat}(h:n<=90000):n<=G7:=Zo h (by decide)
noncomputable def Xo:FE:=(P8 (z9 (za 6) (eC (.int 0))) (z9 (za 5) (eC (.int 0))))
noncomputable def VW:FE:=(o7 (FA (jr (za 5)) (eC (.int 1))) Xo)
noncomputable def XC:FS:=(zd (jv 3 (zv [eC (.str "swap"),za 7])) (zd (BN 8 5) (zd (BN 5 6) (BN 6 8))))
noncomputable def X9:FS:=(zd (jv 3 (zv [eC (.str "group"),za 7])) (zd (BW 4 5) (zo 7 (qt (za 7) (zv [eC (.int 1)])))))
noncomputable def V8:FS:=(qm Xo XC X9)
noncomputable def Y6:FS:=(zd (Bu VW V8) (ua 3 (qt (qt (za 4) (za 5)) (za 6))))
noncomputable def DH(s0 s1 s2:Option Slot)(ds D L R:List YX)(h:YX)(x8:Option Slot):f9:=[s0,s1,s2,YW (.lent ds),YW (.own D),YW (.own L),YW (.own R),YW (.loc h),x8]
section
variable(s0 s1 s2 x8:Option Slot)(ds D L R:List YX)(a b h:YX)
theorem Tv{t:Bool}(hl:Jx b a=YW (.bool t)):Xo (DH s0 s1 s2 ds D (a::L) (b::R) h x8)=YW (.ok 2 (.bool t)):=by
 have e1:(z9 (za 6) (eC (.int 0))) (DH s0 s1 s2 ds D (a::L) (b::R) h x8)=YW (.ok 1 b):=by simp [z9,e2,za,eC,DH,zm,xr,vg,BE]
 have e2':(z9 (za 5) (eC (.int 0))) (DH s0 s1 s2 ds D (a::L) (b::R) h x8)=YW (.ok 1 a):=by simp [z9,e2,za,eC,DH,zm,xr,vg,BE]
 unfold Xo P8
 unfold e2
 rw [e1,e2']
 simp only [zm,hl]
 rfl
theorem Pd:(FA (jr (za 5)) (eC (.int 1))) (DH s0 s1 s2 ds D (a::L) R h x8)=YW (.ok 2 (.bool (!L.isEmpty))):=by
 simp only [FA,e2,jr,e1,za,eC,DH,zm,xx,ZQ,ZU,aH,Vz,Zj,if_true]
 cases L<;>simp<;>omega
theorem So(hl:lf h=true)(hb:ds.length < big):XC (DH s0 s1 s2 ds D L R h x8)=YW (.next (DH s0 s1 s2 (ds++[.tuple [.str "swap",h]]) D R L h YY)):=by
 simp [XC,zd,jv,DH,zv,zq,eC,za,zt,zk,lf,lfs,hl,hb,BN]
theorem Pn(p:List Int)(hp:p.length<=90000)(hb:ds.length < big)(hD:D.length < big)(ha:lf a=true):
  X9 (DH s0 s1 s2 ds D (a::L) R (zw p) x8)=YW (.next (DH s0 s1 s2 (ds++[jy "group" p]) (D++[a]) L R (zw (p++[1])) x8)):=by
 have e1:=vd p 1 hp
 have l1:=jg p
 have l2:=jg (p++[1])
 simp [X9,zd,jv,DH,zv,zq,eC,za,zt,zk,lf,lfs,l1,l2,hb,BW,hD,ha,zo,qt,e2,zm,e1,u7,jy]
end
structure MH{α:Type}(d:α->YX)(lt:α->α->Bool)(P:α->Prop)(S:α->α->Prop):Prop where
 hlf:∀ x,lf (d x)=true
 hlt:∀ x y,P x->P y->Jx (d x) (d y)=YW (.bool (lt x y))
 asym:∀ x y,P x->P y->lt x y=true->lt y x=false
 hS:∀ x y,P x->P y->lt y x=false->S x y
 tr:∀ x y z,S x y->S y z->S x z
section
variable{α:Type}(e:Bool){d:α->YX}(κ:α->Kd){lt:α->α->Bool}{P:α->Prop}{S:α->α->Prop}
theorem MR(M:MH d lt P S):∀ l:List α,lfs (l.map d)=true
 | []=>rfl
 | x::l=>by simp [lfs,M.hlf x,MR M l]
noncomputable def UO(d:α->YX)(S:α->α->Prop)(N w:Nat)(l r:List α):Prop:=
 ∀ (s0 s1 s2 x8:Option Slot) (ds D:List YX) (p:List Int) (fuel:Nat),2 * N+w+1<=fuel->ds.length+2 * N+w < big->p.length+N<=90000->D.length+N<=50000->lfs D=true->
  ∃ (row:vm) (res:List α) (D' L' R':List YX) (h':YX) (x8':Option Slot),
   gu VW V8 fuel (DH s0 s1 s2 ds D (l.map d) (r.map d) (zw p) x8)=YW (.next (DH s0 s1 s2 (ds++j9 p row) D' L' R' h' x8'))/\D'++L'++R'=D++res.map d/\lfs D'=true/\lfs L'=true/\lfs R'=true/\
   df (Ar e (cj e κ l) (cj e κ r)) row=YW (cj e κ res)/\res.Perm (l++r)/\(l.Pairwise S->r.Pairwise S->res.Pairwise S)/\row.length<=2 * N+w
theorem KP{c:FE}{b:FS}{ρ:f9}{f l:Nat}(h:c ρ=YW (.ok l (.bool false))):gu c b (f+1) ρ=YW (.next ρ):=by simp only [gu,h,zk]
theorem JZ{c:FE}{b:FS}{ρ ρ':f9}{f l:Nat}(h:c ρ=YW (.ok l (.bool true)))(hb:b ρ=YW (.next ρ')):gu c b (f+1) ρ=gu c b f ρ':=by simp only [gu,h,zk,hb]
theorem Wf{c:FE}{a b:FS}{ρ:f9}{l:Nat}(h:c ρ=YW (.ok l (.bool true))):qm c a b ρ=a ρ:=by simp only [qm,h,zk]
theorem Yu{c:FE}{a b:FS}{ρ:f9}{l:Nat}(h:c ρ=YW (.ok l (.bool false))):qm c a b ρ=b ρ:=by simp only [qm,h,zk]
theorem W1(M:MH d lt P S)(N:Nat)(ih:∀ l r:List α,l.length+r.length<=N->l≠[]->r≠[]->(∀ x∈l,P x)->(∀ x∈r,P x)->UO e κ d S N 1 l r)
  (x y:α) (l r:List α) (hN:(x::l).length+(y::r).length<=N+1) (hl:∀ z∈x::l,P z) (hr:∀ z∈y::r,P z) (hxy:lt y x=false):UO e κ d S (N+1) 0 (x::l) (y::r):=by
 intro s0 s1 s2 x8 ds D p fuel hf hds hp hD hDl
 obtain ⟨f,rfl⟩:∃ f,fuel=f+1:=⟨fuel - 1,by omega⟩
 have px:P x:=hl x (Zz ..)
 have py:P y:=hr y (Zz ..)
 have sxy:S x y:=M.hS x y px py hxy
 have hlt:=M.hlt y x py px
 rw [hxy] at hlt
 have c1:=Tv s0 s1 s2 x8 ds D (l.map d) (r.map d) (d x) (d y) (zw p) hlt
 cases l with
 | nil=>
  refine ⟨[],x::y::r,D,[d x],(y::r).map d,zw p,x8,?_,by simp,hDl,by simp [lfs,M.hlf x],MR M _,rfl,.refl _,λh1 h2=>?_,aY _⟩
  ·rw [show ds++j9 p []=ds by simp [j9]]
   refine KP (l:=2) ?_
   have c2:=Pd s0 s1 s2 x8 ds D [] ((y::r).map d) (d x) (zw p)
   exact (X6 c2).trans c1
  ·exact cW.mpr ⟨λz hz=>by
    rcases ZP.mp hz with rfl | hz
    ·exact sxy
    ·exact M.tr _ _ _ sxy ((cW.mp h2).1 z hz),h2⟩
 | cons x2 l2=>
  have hb:ds.length < big:=by omega
  have g:=Pn s0 s1 s2 x8 ds D ((x2::l2).map d) ((y::r).map d) (d x) p (by exact Zq ‹_›) hb (Vr (by exact Zq ‹_›)) (M.hlf x)
  obtain ⟨row,res,D',L',R',h',x8',e1,e2,l1,l2',l3,e3,e4,e5,e6⟩:=ih (x2::l2) (y::r) (by simp only [Zj] at hN ⊢;omega) (by simp) (by simp) (λz hz=>hl z (Z5 _ hz)) hr
   s0 s1 s2 x8 (ds++[jy "group" p]) (D++[d x]) (p++[1]) f (by exact Nat.lt_of_succ_lt_succ ‹_›) (by simp only [Za,Zy];omega) (by simp only [Za,Zy];omega) (by simp only [Za,Zy];omega) (by rw [A4,hDl];simp [lfs,M.hlf x])
  refine ⟨("group",[])::Ap [1] row,x::res,D',L',R',h',x8',?_,by rw [e2];simp,l1,l2',l3,?_,?_,λh1 h2=>?_,by simp only [Zj,et];exact fM ‹_›⟩
  ·have c2:=Pd s0 s1 s2 x8 ds D ((x2::l2).map d) ((y::r).map d) (d x) (zw p)
   have hcc:VW (DH s0 s1 s2 ds D ((x::x2::l2).map d) ((y::r).map d) (zw p) x8)=YW (.ok 2 (.bool true)):=XA c2
   have hbb:V8 (DH s0 s1 s2 ds D ((x::x2::l2).map d) ((y::r).map d) (zw p) x8)=YW (.next (DH s0 s1 s2 (ds++[jy "group" p]) (D++[d x]) ((x2::l2).map d) ((y::r).map d) (zw (p++[1])) x8)):=(Yu c1).trans g
   rw [JZ hcc hbb,e1]
   have:ds++j9 p (("group",[])::Ap [1] row)=ds++[jy "group" p]++j9 (p++[1]) row:=by
    rw [xu,xm,ZL,Z6];rfl
   rw [this]
  ·have hn:cj e κ (x::x2::l2)=Ar e (κ x) (cj e κ (x2::l2)):=rfl
   have hres:res≠[]:=λz=>by rw [z] at e4;exact absurd (e4.length_eq) (by simp)
   rw [hn,Dp e κ x hres]
   show (j7 _ "group" []).bind _=_
   rw [AL (P0 e (κ x) (cj e κ (x2::l2)) (cj e κ (y::r)))]
   exact Lg e e3
  ·exact e4.cons x
  ·have q:=e5 (cW.mp h1).2 h2
   refine cW.mpr ⟨λz hz=>?_,q⟩
   rcases aO.mp (e4.mem_iff.mp hz) with hz | hz
   ·exact (cW.mp h1).1 z hz
   ·rcases ZP.mp hz with rfl | hz
    ·exact sxy
    ·exact M.tr _ _ _ sxy ((cW.mp h2).1 z hz)
theorem WG(M:MH d lt P S):∀ (N:Nat) (l r:List α),l.length+r.length<=N->l≠[]->r≠[]->(∀ x∈l,P x)->(∀ x∈r,P x)->UO e κ d S N 1 l r
 | 0,l,r,h,h1,_,_,_=>absurd (aX.mp (by omega)) h1
 | N+1,l,r,h,h1,h2,hl,hr=>by
  obtain ⟨x,l',rfl⟩:=fH h1
  obtain ⟨y,r',rfl⟩:=fH h2
  have ih:=WG M N
  cases hxy:lt y x with
  | false=>
   intro s0 s1 s2 x8 ds D p fuel hf hds hp hD hDl
   obtain ⟨row,res,D',L',R',h',x8',e1,e2,l1,l2,l3,e3,e4,e5,e6⟩:=W1 e κ M N ih x y l' r' h hl hr hxy s0 s1 s2 x8 ds D p fuel (by exact ZX ‹_›) (by exact ZX ‹_›) hp hD hDl
   exact ⟨row,res,D',L',R',h',x8',e1,e2,l1,l2,l3,e3,e4,e5,by exact Nat.le_succ_of_le ‹_›⟩
  | true=>
   have px:P x:=hl x (Zz ..)
   have py:P y:=hr y (Zz ..)
   have hyx:lt x y=false:=M.asym y x py px hxy
   intro s0 s1 s2 x8 ds D p fuel hf hds hp hD hDl
   obtain ⟨f,rfl⟩:∃ f,fuel=f+1:=⟨fuel - 1,by omega⟩
   have hlt:=M.hlt y x py px
   rw [hxy] at hlt
   have c1:=Tv s0 s1 s2 x8 ds D (l'.map d) (r'.map d) (d x) (d y) (zw p) hlt
   have c2:=Pd s0 s1 s2 x8 ds D (l'.map d) ((y::r').map d) (d x) (zw p)
   have hcc:VW (DH s0 s1 s2 ds D ((x::l').map d) ((y::r').map d) (zw p) x8)=YW (.ok 2 (.bool true)):=by
    cases hb:(!(l'.map d).isEmpty) with
    | true=>rw [hb] at c2;exact XA c2
    | false=>rw [hb] at c2;exact (X6 c2).trans c1
   have g:=So s0 s1 s2 x8 ds D ((x::l').map d) ((y::r').map d) (zw p) (jg p) (by omega)
   obtain ⟨row,res,D',L',R',h',x8',e1,e2,l1,l2,l3,e3,e4,e5,e6⟩:=W1 e κ M N ih y x r' l' (by simp only [Zj] at h ⊢;omega) hr hl hyx s0 s1 s2 YY (ds++[jy "swap" p]) D p f (by exact Nat.lt_of_succ_lt_succ ‹_›) (by simp only [Za,Zy];omega) hp hD hDl
   refine ⟨("swap",[])::row,res,D',L',R',h',x8',?_,e2,l1,l2,l3,?_,e4.trans cY,λa b=>e5 b a,by simp only [Zj];exact fM ‹_›⟩
   ·have hbb:V8 (DH s0 s1 s2 ds D ((x::l').map d) ((y::r').map d) (zw p) x8)=YW (.next (DH s0 s1 s2 (ds++[jy "swap" p]) D ((y::r').map d) ((x::l').map d) (zw p) YY)):=(Wf c1).trans g
    rw [JZ hcc hbb]
    refine e1.trans ?_
    have:ds++j9 p (("swap",[])::row)=ds++[jy "swap" p]++j9 p row:=by
     rw [xu,ZL,Z6];rfl
    rw [this]
   ·show (j7 _ "swap" []).bind _=_
    rw [AL (DY e _ _)]
    exact e3
noncomputable def LK(X:YX)(xs:List YX):Prop:=X= .list xs∨X= .tuple xs
theorem LP{X:YX}{xs:List YX}(h:LK X xs):xx X=YW (.int xs.length):=by rcases h with rfl | rfl<;>rfl
theorem JP{X:YX}{xs:List YX}(h:LK X xs)(hl:lfs xs=true):Mb X=YW (.list xs):=by rcases h with rfl | rfl<;>simp [Mb,hl]
theorem Dk(M:MH d lt P S)(n:Nat)(l r:List α)(X Y:YX)(p:List Int)(ds:List YX)(hX:LK X (l.map d))(hY:LK Y (r.map d))(hl:∀ x∈l,P x)(hr:∀ x∈r,P x)
  (hN:l.length+r.length<=40000) (hds:ds.length+2 * (l.length+r.length)+2 < big) (hp:p.length+(l.length+r.length)<=90000):
  ∃ (row:vm) (res:List α),ye (n+1) [X,Y,zw p] ds=YW (.list (res.map d),ds++j9 p row)/\df (Ar e (cj e κ l) (cj e κ r)) row=YW (cj e κ res)/\res.Perm (l++r)/\(l.Pairwise S->r.Pairwise S->res.Pairwise S)/\row.length<=2 * (l.length+r.length)+1:=by
 have lp:=jg p
 have ll:=MR M l
 have lr:=MR M r
 have hx:=LP hX
 have hy:=LP hY
 have hx2:=JP hX ll
 have hy2:=JP hY lr
 rw [Z9] at hx hy
 by_cases h1:l=[]
 ·subst h1
  refine ⟨[("drop",[])],r,?_,ez (DU e _),.refl _,λ_ h=>h,by simp⟩
  have hb:ds.length < big:=by omega
  unfold ye
  simp [jk,ph,zd,qm,qx,e2,jr,e1,za,eC,zm,zk,hx,nu,jv,zv,zq,zt,lf,lfs,lp,hb,ua,D7,hy2,j9,jy]
 ·by_cases h2:r=[]
  ·subst h2
   refine ⟨[("swap",[]),("drop",[])],l,?_,?_,by simp,λh _=>h,by have:=fQ.mpr h1;simp only [Zj,ZJ];omega⟩
   ·have hb:ds.length < big:=by omega
    have hb2:ds.length+1 < big:=by omega
    have hn:((l.length:Int) == 0)=false:=by simpa using h1
    unfold ye
    simp [jk,ph,zd,qm,qx,e2,jr,e1,za,eC,zm,zk,hx,hy,hn,nu,jv,zv,zq,zt,lf,lfs,lp,hb,hb2,ua,D7,hx2,j9,jy,zl]
   ·exact f6 (ez (DY e _ _)) (ez (DU e _))
  ·have hn:((l.length:Int) == 0)=false:=by simpa using h1
   have hn2:((r.length:Int) == 0)=false:=by simpa using h2
   obtain ⟨row,res,D',L',R',h',x8',e1',e2',l1,l2,l3,e3,e4,e5,e6⟩:=WG e κ M (l.length+r.length) l r (Ze _) h1 h2 hl hr (YW (.par X)) (YW (.par Y)) (YW (.par (zw p))) YY ds [] p G7 (V7 (by omega)) (by exact ZX ‹_›) hp (by simp only [ZJ];omega) rfl
   refine ⟨row,res,?_,e3,e4,e5,e6⟩
   have lq:=congrArg eJ e2'
   simp only [Za,ZJ,Z9,e4.length_eq,Nat.zero_add] at lq
   have hbig:(40000:Nat)<=big:=by decide
   have a1:il (.list D') (.list L')=YW (.list (D'++L')):=by
    have:D'.length+L'.length<=big:=by omega
    simp [il,l1,l2,this]
   have a2:il (.list (D'++L')) (.list R')=YW (.list (res.map d)):=by
    have:(D'++L').length+R'.length<=big:=by rw [Za];omega
    have q:lfs (D'++L')=true:=by rw [A4,l1,l2];rfl
    simp only [il,l3,q,this,decide_true,Bool.and_true,if_true]
    rw [e2']
    simp
   have hW:Bu VW V8 (DH (YW (.par X)) (YW (.par Y)) (YW (.par (zw p))) ds [] (l.map d) (r.map d) (zw p) YY)=YW (.next (DH (YW (.par X)) (YW (.par Y)) (YW (.par (zw p))) (ds++j9 p row) D' L' R' h' x8')):=e1'
   have hE:Y6 (DH (YW (.par X)) (YW (.par Y)) (YW (.par (zw p))) ds [] (l.map d) (r.map d) (zw p) YY)=YW (.retL (.list (res.map d)) (ds++j9 p row)):=by
    unfold Y6
    rw [jt hW]
    simp [ua,DH,qt,e2,za,zm,zk,a1,a2]
   have hb:ph [YW (.par X),YW (.par Y),YW (.par (zw p)),YW (.lent ds),YY,YY,YY,YY,YY]=YW (.retL (.list (res.map d)) (ds++j9 p row)):=by
    refine Eq.trans ?_ hE
    unfold ph
    simp only [zd,qm,qx,e2,jr,e1,za,eC,zm,zk,hx,hy,hn,hn2,nu,zl,zo,qv,zq,zt,D7,hx2,hy2,ZQ,ZU,aH,if_true,lfs,u7,lf,ll,lr,lp,cT,cU,Z4,if_false,Ze]
    rfl
   unfold ye jk
   show (match ph [YW (.par X),YW (.par Y),YW (.par (zw p)),YW (.lent ds),YY,YY,YY,YY,YY] with | some (.retL d ds')=>YW (d,ds') | _=>YY)=_
   rw [hb]
end
end KT
namespace KT
open PySem PySem.Spec PyProof.Rows
mutual
theorem Wi:∀ x y:YX,Zm x y=Zm y x
 | .none,y=>by cases y<;>simp [Zm]
 | .bool a,y=>by cases y<;>simp [Zm]<;>exact Bool.beq_comm
 | .int a,y=>by cases y<;>simp [Zm]<;>exact Bool.beq_comm
 | .str a,y=>by cases y<;>simp [Zm];exact Bool.beq_comm
 | .dict a,y=>by cases y<;>simp [Zm]
 | .list a,y=>by
  cases y with
  | list b=>simp only [Zm];exact eqvCs a b
  | _=>simp [Zm]
 | .tuple a,y=>by
  cases y with
  | tuple b=>simp only [Zm];exact eqvCs a b
  | _=>simp [Zm]
theorem eqvCs:∀ xs ys:List YX,ZW xs ys=ZW ys xs
 | [],ys=>by cases ys<;>rfl
 | x::xs,ys=>by
  cases ys with
  | nil=>rfl
  | cons y ys=>simp only [ZW];rw [Wi x y,eqvCs xs ys]
end
mutual
theorem VU:∀ x y:YX,ltD x y=YW true->ltD y x=YW true->False
 | .none,y,h1,h2=>by cases y<;>simp [ltD] at h1
 | .bool a,y,h1,h2=>by cases y<;>simp [ltD] at h1
 | .int a,y,h1,h2=>by
  cases y with
  | int b=>simp only [ltD,ZO,decide_eq_true_eq] at h1 h2;omega
  | _=>simp [ltD] at h1
 | .str a,y,h1,h2=>by
  cases y with
  | str b=>simp only [ltD,ZO,decide_eq_true_eq] at h1 h2;exact List.lt_asymm h1 h2
  | _=>simp [ltD] at h1
 | .dict a,y,h1,h2=>by cases y<;>simp [ltD] at h1
 | .list a,y,h1,h2=>by cases y<;>simp [ltD] at h1
 | .tuple a,y,h1,h2=>by
  cases y with
  | tuple b=>simp only [ltD] at h1 h2;exact ltAss a b h1 h2
  | _=>simp [ltD] at h1
theorem ltAss:∀ xs ys:List YX,ltDs xs ys=YW true->ltDs ys xs=YW true->False
 | [],ys,h1,h2=>by cases ys<;>simp [ltDs] at h1 h2
 | x::xs,ys,h1,h2=>by
  cases ys with
  | nil=>simp [ltDs] at h1
  | cons y ys=>
   simp only [ltDs] at h1 h2
   rw [Wi y x] at h2
   by_cases c:Zm x y=true
   ·rw [jn c] at h1 h2;exact ltAss xs ys h1 h2
   ·rw [qz c] at h1 h2;exact VU x y h1 h2
end
theorem Dw(u v:Z3)(xs ys:List YX)(h:u=v->∃ b,ltDs xs ys=YW b):∃ b,ltD (.tuple (.str u::xs)) (.tuple (.str v::ys))=YW b:=by
 simp only [ltD,ltDs]
 by_cases c:Zm (.str u) (.str v)=true
 ·rw [jn c];exact h (by simpa [Zm] using c)
 ·rw [qz c];exact ⟨_,rfl⟩
theorem Qn{a b c d:YX}(h1:∃ t,ltD a c=YW t)(h2:∃ t,ltD b d=YW t):∃ t,ltDs [a,b] [c,d]=YW t:=by
 simp only [ltDs]
 split
 ·split
  ·exact ⟨_,rfl⟩
  ·exact h2
 ·exact h1
theorem E8:∀ x y:Kd,∃ b,ltD (zj x) (zj y)=YW b
 | .none,y=>by cases y<;>exact Dw _ _ _ _ λh=>by first | exact ⟨_,rfl⟩ | exact absurd h (by decide +kernel)
 | .one,y=>by cases y<;>exact Dw _ _ _ _ λh=>by first | exact ⟨_,rfl⟩ | exact absurd h (by decide +kernel)
 | .name i,y=>by
  cases y with
  | name j=>
   refine Dw _ _ _ _ λ_=>?_
   simp only [ltDs]
   split
   ·exact ⟨_,rfl⟩
   ·exact ⟨_,rfl⟩
  | _=>exact Dw _ _ _ _ λh=>absurd h (by decide +kernel)
 | .either a b,y=>by
  cases y with
  | either c d=>exact Dw _ _ _ _ λ_=>Qn (E8 a c) (E8 b d)
  | _=>exact Dw _ _ _ _ λh=>absurd h (by decide +kernel)
 | .both a b,y=>by
  cases y with
  | both c d=>exact Dw _ _ _ _ λ_=>Qn (E8 a c) (E8 b d)
  | _=>exact Dw _ _ _ _ λh=>absurd h (by decide +kernel)
noncomputable def XY(x y:Kd):Bool:=(ltD (zj x) (zj y)).getD false
theorem RP:MH zj XY (λk=>k.lg<=60) (λ_ _=>True) where
 hlf:=qk
 hlt:=λx y hx _=>by
  obtain ⟨b,e⟩:=E8 x y
  have h:(zj x).depth<=60:=Zo (r9 x) hx
  simp [Jx,Cw,h,XY,e]
 asym:=λx y _ _ h=>by
  obtain ⟨b,e⟩:=E8 x y
  obtain ⟨c,f⟩:=E8 y x
  simp only [XY,e,f,Option.getD_some] at h ⊢
  subst h
  cases c with
  | false=>rfl
  | true=>exact (VU _ _ e f).elim
 hS:=λ_ _ _ _ _=>trivial
 tr:=λ_ _ _ _ _=>trivial
theorem R4:MH eB BF (λ_=>True) intOrd.kle where
 hlf:=λ_=>rfl
 hlt:=λx y _ _=>by simp [Jx,Zw,ZA,ltD,BF]
 asym:=λx y _ _ h=>by simp [BF] at *;omega
 hS:=λx y _ _ h=>h
 tr:=λx y z h1 h2=>bV h1 h2
theorem IB:∀ a b:List Int,ltDs (a.map .int) (b.map .int)=YW (ao a b)
 | [],[]=>rfl
 | [],_::_=>rfl
 | _::_,[]=>rfl
 | x::xs,y::ys=>by
  simp only [ZC,ltDs,ao,Zm]
  by_cases h:x=y
  ·subst h;simp [IB xs ys]
  ·simp [h,ltD]
theorem Im:∀ ns:List Int,Zs (ns.map .int)=0
 | []=>rfl
 | n::ns=>by simp [Zs,ZA,Im ns]
theorem TL:MH qu ao (λ_=>True) rowOrd.kle where
 hlf:=λx=>jg x
 hlt:=λx y _ _=>by
  have h1:(qu x).canLay0=true:=bf x
  have h2:(qu y).canLay0=true:=bf y
  have h3:(qu x).depth<=60:=by simp only [qu,ZA];rw [Im];decide
  unfold Jx
  rw [h1,h2,decide_eq_true h3]
  simp [qu,ltD,IB]
 asym:=λx y _ _ h=>by
  rw [Aa] at *
  cases c:HT.lexLt y x with
  | false=>rfl
  | true=>have:=Dn x y x h c;rw [Bt] at this;cases this
 hS:=λx y _ _ h=>by rw [Aa] at h;exact h
 tr:=λx y z h1 h2=>bV h1 h2
theorem JS(a b:YX)(h:(gD [a,b]).canLay0=true):av (.list [a,b]) (.list [])=YW (.bool false):=by
 have h1:ij (.list [a,b]) (.list [])=true:=by
  simp only [ij,h,bI]
  simp [Zw,Zg,ZA,Zs]
 simp [av,vh,h1,Zm,ZW]
theorem PN:av (.list []) (.list [])=YW (.bool true):=by simp [av,vh,ij,Zw,Zg,ZA,Zs,Zm,ZW]
theorem QF(l:List Int):av (qu l) (.list [])=YW (.bool false):=by
 have h1:ij (qu l) (.list [])=true:=by
  simp only [ij,qu,bf l,show (jB (l.map .int)).canLay0=true from bf l,bI]
  simp [Zw,Zg,ZA,Zs]
 unfold qu at *
 simp [av,vh,h1,Zm]
theorem MB(p:List Int):av (qu p) (.tuple [])=YW (.bool p.isEmpty):=by
 have h1:ij (zw p) (.tuple [])=true:=by
  simp [ij,bf,Zw,Zg,ZA,Zs];omega
 cases p<;>simp [av,vh,h1,Zm,ZW,qu]<;>simp [zw] at h1<;>simp [h1]
theorem U0(gm gi:FR)(ta tb da db dm:YX)(p:List Int)(ds r1 r2 r3:List YX)(hp:p.length<=90000)(ht:(gD [ta,tb]).canLay0=true)
  (h1:gi [ta,zw (p++[0])] ds=YW (da,r1)) (h2:gi [tb,zw (p++[1])] r1=YW (db,r2)) (h3:gm [da,db,zw p] r2=YW (dm,r3)):
  jk 5 (p5 gm gi) [.list [ta,tb],zw p] ds=YW (dm,r3):=by
 have e0:=vd p 0 hp
 have e1':=vd p 1 hp
 have l0:=jg (p++[0])
 have l1:=jg (p++[1])
 have q:=JS ta tb ht
 simp [jk,p5,zd,qm,E7,e1,za,zm,zk,SY,HA,zl,qx,e2,qv,zq,zt,lfs,q,kg,um,uo,o3,uc,nk,oz,CW,BI,qt,zv,eC,e0,e1',l0,l1,h1,h2,h3,ir,ng]
theorem Bv:∀ (T:Tr) (n:Nat) (p:List Int) (ds:List YX),(ml T∨T= .nil)->nb T+1<=n->nb T<=100->ds.length+4 * (nb T * nb T)+2 < big->p.length+2 * nb T<=80000->
  ∃ (row:vm) (L:List (List Int)),xj n [ju T,zw p] ds=YW (.list (L.map qu),ds++j9 p row)/\df (aa T) row=YW (pk L)/\L.Pairwise rowOrd.kle/\(∀ r∈L,UQ r)/\L.length=nb T/\row.length<=4 * (nb T * nb T)
 | .nil,n,p,ds,hF,hn,h100,hds,hp=>by
  obtain ⟨m,rfl⟩:∃ m,n=m+1:=⟨n - 1,by omega⟩
  refine ⟨[],[],?_,rfl,.nil,by simp,rfl,aY _⟩
  unfold xj
  simp [jk,p5,ju,j9,zd,qm,E7,e1,za,zm,zk,SY,HA,zl,qx,e2,qv,zq,zt,lfs,PN,ua]
 | .bun l,n,p,ds,hF,hn,h100,hds,hp=>by
  obtain ⟨m,rfl⟩:∃ m,n=m+1:=⟨n - 1,by omega⟩
  have hR:UQ l:=by rcases hF with h | h;exact h;cases h
  refine ⟨[],[l],?_,rfl,List.pairwise_singleton _ _,by simpa using hR,rfl,aY _⟩
  have hl:lf (qu l)=true:=jg l
  unfold qu at hl
  unfold xj
  simp [jk,p5,ju,qu,j9,zd,qm,E7,e1,za,zm,zk,SY,HA,zl,qv,zq,zt,lfs,hl,ua]
 | .nod a b,n,p,ds,hF,hn,h100,hds,hp=>by
  obtain ⟨m,rfl⟩:∃ m,n=m+1:=⟨n - 1,by omega⟩
  have hF:ml a/\ml b:=by rcases hF with h | h;exact h;cases h
  have pa:=uj a hF.1
  have pb:=uj b hF.2
  simp only [nb] at hn h100 hds hp ⊢
  have hsq:(nb a+nb b) * (nb a+nb b)=nb a * nb a+nb b * nb b+2 * (nb a * nb b):=by
   rw [fE,bQ,bQ,dO (nb b) (nb a)];omega
  have hab:nb a+nb b<=nb a * nb b+1:=by
   obtain ⟨x,hx⟩:∃ x,nb a=x+1:=⟨nb a - 1,by omega⟩
   obtain ⟨y,hy⟩:∃ y,nb b=y+1:=⟨nb b - 1,by omega⟩
   rw [hx,hy,fE,bQ];omega
  rw [hsq] at hds ⊢
  obtain ⟨ra,La,a1,a2,a3,a4,a5,a6⟩:=Bv a m (p++[0]) ds (.inl hF.1) (by omega) (by exact Zq ‹_›) (by omega) (by simp only [Za,Zy];omega)
  have hds1:(ds++j9 (p++[0]) ra).length=ds.length+ra.length:=by rw [Za,kn]
  obtain ⟨rb,Lb,b1,b2,b3,b4,b5,b6⟩:=Bv b m (p++[1]) (ds++j9 (p++[0]) ra) (.inl hF.2) (by omega) (by exact Z2 ‹_›) (by rw [hds1];omega) (by simp only [Za,Zy];omega)
  have hds2:(ds++j9 (p++[0]) ra++j9 (p++[1]) rb).length=ds.length+ra.length+rb.length:=by rw [Za,kn,hds1]
  obtain ⟨k,rfl⟩:∃ k,m=k+1:=⟨m - 1,by omega⟩
  obtain ⟨rm,L,m1,m2,m3,m4,m5⟩:=Dk true bk TL k La Lb (.list (La.map qu)) (.list (Lb.map qu)) p (ds++j9 (p++[0]) ra++j9 (p++[1]) rb) (.inl rfl) (.inl rfl) (λ_ _=>trivial) (λ_ _=>trivial) (by rw [a5,b5];omega) (by rw [hds2,a5,b5];omega) (by rw [a5,b5];omega)
  rw [a5,b5] at m5
  refine ⟨Ap [0] ra++Ap [1] rb++rm,L,?_,?_,m4 a3 b3,λr hr=>?_,by rw [m3.length_eq,Za,a5,b5],by simp only [Za,et];omega⟩
  ·unfold xj
   rw [show ju (.nod a b)= .list [ju a,ju b] from rfl]
   rw [ko,ko,xm,xm,<- Z6,<- Z6]
   exact U0 _ _ _ _ _ _ _ p ds _ _ _ (by omega) (EV (.nod a b)) a1 b1 m1
  ·refine f6 (c:=Ar true (pk La) (pk Lb)) (f6 (c:=Ar true (pk La) (aa b)) (NA true a2) (Lg true b2)) ?_
   rw [DV,DV,DV]
   exact m2
  ·rcases aO.mp (m3.mem_iff.mp hr) with h | h
   ·exact a4 r h
   ·exact b4 r h
theorem Xc(gm gs:FR)(xs:List YX)(S d:YX)(p:List Int)(ds r:List YX)(hb:ds.length < big)(h:gs [S,.list xs,zw p] (ds++[jy "swap" p])=YW (d,r)):
  jk 4 (we gm gs) [.list xs,S,zw p] ds=YW (d,r):=by
 have lp:=jg p
 unfold jy at h
 simp [jk,we,zd,qm,E7,e1,za,zm,zk,SY,HA,jv,zv,zq,zt,eC,lf,lfs,lp,hb,ir,um,uo,o3,uc,nk,h,ng]
theorem WJ(gm gs:FR)(f xs:List YX)(d:YX)(p:List Int)(ds r:List YX)(h:gs [.tuple f,.list xs,zw p] ds=YW (d,r)):
  jk 4 (we gm gs) [.tuple f,.list xs,zw p] ds=YW (d,r):=by
 simp [jk,we,zd,qm,E7,e1,za,zm,zk,SY,HA,zl,ir,um,uo,o3,uc,nk,h,ng]
theorem W8(gm gs:FR)(f s res:List YX)(p:List Int)(ds r:List YX)(hl:lfs res=true)(h:gm [.tuple f,.tuple s,zw p] ds=YW (.list res,r)):
  jk 4 (we gm gs) [.tuple f,.tuple s,zw p] ds=YW (.tuple res,r):=by
 simp [jk,we,zd,qm,E7,e1,za,zm,zk,SY,HA,zl,H9,um,uo,o3,uc,nk,h,ng,hl]
theorem Wl(gb:FR)(A S:YX)(p:List Int)(ds:List YX)(hb:ds.length < big)(h:av A (.tuple [])=YW (.bool true)):
  jk 6 (kz gb) [A,S,zw p] ds=YW (S,ds++[jy "drop" p]):=by
 have lp:=jg p
 simp [jk,kz,zd,qm,qx,e2,za,zv,zq,zt,zm,zk,h,jv,eC,lf,lfs,lp,hb,Ao,uc,jy]
theorem WB(gb:FR)(A ta tb da db:YX)(p:List Int)(ds r1 r2:List YX)(hp:p.length<=90000)(hb:ds.length < big)(h:av A (.tuple [])=YW (.bool false))
  (h1:gb [A,ta,zw (p++[0])] (ds++[jy "spread" p])=YW (da,r1)) (h2:gb [A,tb,zw (p++[1])] r1=YW (db,r2)):
  jk 6 (kz gb) [A,.list [ta,tb],zw p] ds=YW (.list [da,db],r2):=by
 have lp:=jg p
 have e0:=vd p 0 hp
 have e1':=vd p 1 hp
 have l0:=jg (p++[0])
 have l1:=jg (p++[1])
 unfold jy at h1
 simp [jk,kz,zd,qm,qx,e2,za,zv,zq,zt,zm,zk,h,zl,jv,eC,lf,lfs,lp,hb,kg,um,uo,o3,uc,nk,oz,CW,BI,qt,e0,e1',l0,l1,h1,h2,Gf]
noncomputable def P9(F S:Tr):Prop:=∀ (n:Nat) (p:List Int) (ds:List YX),2 * (nb F+nb S)<=n->p.length+nb F+nb S+40<=80000->ds.length+85 * (nb F * nb S)+2 < big->
 ∃ (row:vm) (T:Tr),qo n [ju F,ju S,zw p] ds=YW (ju T,ds++j9 p row)/\df (.both (aa F) (aa S)) row=YW (aa T)/\ml T/\row.length+3<=85 * (nb F * nb S)
theorem Qb(A l r:Tr)(hA:ml A)(hl:ml l)(hr:ml r)(kl:P9 A l)(kr:P9 A r)(n:Nat)(p:List Int)(ds:List YX)(hn:2 * (nb A+(nb l+nb r))<=n+1)(hp:p.length+nb A+(nb l+nb r)+40<=80000)
  (hds:ds.length+85 * (nb A * (nb l+nb r))+1 < big):∃ (row:vm) (T:Tr),jz n [ju A,ju (.nod l r),zw p] ds=YW (ju T,ds++j9 p row)/\df (.both (aa A) (.either (aa l) (aa r))) row=YW (aa T)/\ml T/\row.length+4<=85 * (nb A * (nb l+nb r)):=by
 obtain ⟨m,rfl⟩:∃ m,n=m+1:=⟨n - 1,by have:=uj A hA;omega⟩
 have pA:=uj A hA
 have pl:=uj l hl
 have pr:=uj r hr
 have hm:nb A * (nb l+nb r)=nb A * nb l+nb A * nb r:=bQ _ _ _
 have m1:1<=nb A * nb l:=Nat.mul_pos pA pl
 have m2:1<=nb A * nb r:=Nat.mul_pos pA pr
 have hs:∀ (hh:av (ju A) (.tuple [])=YW (.bool false)),∃ (row:vm) (T:Tr),jz (m+1) [ju A,ju (.nod l r),zw p] ds=YW (ju T,ds++j9 p row)/\df (.both (aa A) (.either (aa l) (aa r))) row=YW (aa T)/\ml T/\row.length+4<=85 * (nb A * (nb l+nb r)):=λhh=>by
  rw [hm] at hds ⊢
  obtain ⟨r1,T1,a1,a2,a3,a4⟩:=kl m (p++[0]) (ds++[jy "spread" p]) (by omega) (by simp only [Za,Zy];omega) (by simp only [Za,Zy];omega)
  obtain ⟨r2,T2,b1,b2,b3,b4⟩:=kr m (p++[1]) (ds++[jy "spread" p]++j9 (p++[0]) r1) (by omega) (by simp only [Za,Zy];omega) (by simp only [Za,Zy,kn];omega)
  refine ⟨("spread",[])::(Ap [0] r1++Ap [1] r2),.nod T1 T2,?_,?_,⟨a3,b3⟩,by simp only [Zj,Za,et];omega⟩
  ·rw [show jz (m+1)=jk 6 (kz (qo m)) from rfl]
   have:=WB (qo m) (ju A) (ju l) (ju r) (ju T1) (ju T2) p ds _ _ (by omega) (by omega) hh a1 b1
   rw [show ju (.nod l r)= .list [ju l,ju r] from rfl,this]
   rw [xu,ko,xm,xm,ZL]
   simp [ju]
  ·show (j7 _ "spread" []).bind _=_
   rw [AL (c:=.either (.both (aa A) (aa l)) (.both (aa A) (aa r))) (by rw [wx];rfl)]
   exact f6 (c:=Ar true (aa T1) (.both (aa A) (aa r))) (NA true a2) (Lg true b2)
 cases A with
 | nil=>exact hA.elim
 | nod a b=>
  refine hs ?_
  have h1:ij (ju (.nod a b)) (.tuple [])=true:=by
   simp only [ij,EV,bI]
   simp [Zw,Zg,ZA,Zs];omega
  unfold ju at h1 ⊢
  simp [av,vh,h1,Zm]
 | bun f=>
  by_cases h0:f=[]
  ·subst h0
   refine ⟨[("drop",[])],.nod l r,?_,ez (by rw [yd];rfl),⟨hl,hr⟩,?_⟩
   ·rw [show jz (m+1)=jk 6 (kz (qo m)) from rfl]
    refine (Wl _ _ _ p ds (by omega) (MB [])).trans ?_
    rw [xu,ZL];rfl
   ·simp only [nb,Zy] at *;omega
  ·refine hs ?_
   have:=MB f
   cases f with
   | nil=>exact absurd rfl h0
   | cons x f=>exact this
theorem Fz:∀ (m:Nat) (F S:Tr),nb F+nb S<=m->ml F->ml S->(aa F).lg+(aa S).lg<=40->P9 F S
 | 0,F,S,h,hF,_,_=>by have:=uj F hF;omega
 | m+1,F,S,h,hF,hS,hw=>by
  intro n p ds hn hp hds
  have pF:=uj F hF
  have pS:=uj S hS
  obtain ⟨k,rfl⟩:∃ k,n=k+2:=⟨n - 2,by omega⟩
  cases F with
  | nil=>exact hF.elim
  | nod a b=>
   simp only [nb] at h hn hp hds pF ⊢
   have pa:=uj a hF.1
   have pb:=uj b hF.2
   have hm:(nb a+nb b) * nb S=nb S * (nb a+nb b):=dO _ _
   have m1:1<=nb S * (nb a+nb b):=Nat.mul_pos pS pF
   rw [hm] at hds ⊢
   have wl:(aa S).lg+(aa a).lg<=40:=by simp only [aa,Kd.lg] at hw;omega
   have wr:(aa S).lg+(aa b).lg<=40:=by simp only [aa,Kd.lg] at hw;omega
   obtain ⟨row,T,e1,e2,e3,e4⟩:=Qb S a b hS hF.1 hF.2 (Fz m S a (by omega) hS hF.1 wl) (Fz m S b (by omega) hS hF.2 wr) (k+1) p (ds++[jy "swap" p]) (by omega) (by omega) (by simp only [Za,Zy];omega)
   refine ⟨("swap",[])::row,T,?_,?_,e3,by simp only [Zj];omega⟩
   ·rw [show qo (k+2)=jk 4 (we (ye (k+1)) (jz (k+1))) from rfl]
    have:=Xc (ye (k+1)) (jz (k+1)) [ju a,ju b] (ju S) (ju T) p ds _ (by omega) e1
    rw [show ju (.nod a b)= .list [ju a,ju b] from rfl,this,xu,ZL]
    simp
   ·show (j7 _ "swap" []).bind _=_
    rw [AL (c:=.both (aa S) (.either (aa a) (aa b))) (by rw [vi];rfl)]
    exact e2
  | bun f=>
   cases S with
   | nil=>exact hS.elim
   | nod a b=>
    simp only [nb] at h hn hp hds pS ⊢
    have pa:=uj a hS.1
    have pb:=uj b hS.2
    have wl:(aa (.bun f)).lg+(aa a).lg<=40:=by simp only [aa,Kd.lg] at hw ⊢;omega
    have wr:(aa (.bun f)).lg+(aa b).lg<=40:=by simp only [aa,Kd.lg] at hw ⊢;omega
    obtain ⟨row,T,e1,e2,e3,e4⟩:=Qb (.bun f) a b hF hS.1 hS.2 (Fz m (.bun f) a (by simp only [nb];omega) hF hS.1 wl) (Fz m (.bun f) b (by simp only [nb];omega) hF hS.2 wr) (k+1) p ds (by simp only [nb];omega) (by simp only [nb];omega) (by simp only [nb];exact ZX ‹_›)
    refine ⟨row,T,?_,e2,e3,by simp only [nb] at e4;exact ZX ‹_›⟩
    rw [show qo (k+2)=jk 4 (we (ye (k+1)) (jz (k+1))) from rfl]
    exact WJ (ye (k+1)) (jz (k+1)) (f.map .int) [ju a,ju b] (ju T) p ds _ e1
   | bun s=>
    simp only [nb] at h hn hp hds pS ⊢
    have w1:=K4 f
    have w2:=K4 s
    simp only [aa] at hw
    obtain ⟨row,res,e1,e2,e3,e4,e5⟩:=Dk false .name R4 k f s (qu f) (qu s) p ds (.inr rfl) (.inr rfl) (λ_ _=>trivial) (λ_ _=>trivial) (by omega) (by omega) (by omega)
    refine ⟨row,.bun res,?_,?_,e4 hF hS,by omega⟩
    ·rw [show qo (k+2)=jk 4 (we (ye (k+1)) (jz (k+1))) from rfl]
     exact W8 (ye (k+1)) (jz (k+1)) (f.map .int) (s.map .int) (res.map .int) p ds _ (xw res) e1
    ·show df (.both (bk f) (bk s)) row=YW (bk res)
     rw [Ea,Ea,Ea]
     exact e2
end KT
namespace KT
open PySem
theorem dw:∀ (k:Kd) (n:Nat),k.lg<=n->je n [zj k]=YW (.ok (.bool (C7 k)))
 | .none,n+1,_=>by
  unfold je
  simp [z7,ag,zd,zo,z9,e2,za,eC,zm,zk,zj,xr,vg,BE,u7,lf,qm,qx,av,vh,zr,C7,V1,X4,zl]
 | .one,n+1,_=>by
  unfold je
  simp [z7,ag,zd,zo,z9,e2,za,eC,zm,zk,zj,xr,vg,BE,u7,lf,qm,qx,av,vh,zr,C7,V4,Xq,Um,zl]
 | .name i,n+1,_=>by
  unfold je
  simp [z7,ag,zd,zo,z9,e2,za,eC,zm,zk,zj,xr,vg,BE,u7,lf,qm,qx,av,vh,zr,C7,Wa,XH,V0,zl]
 | .either a b,n+1,hn=>by
  have pa:=a.pos
  have pb:=b.pos
  simp only [Kd.lg] at hn
  have ea:=dw a n (by omega)
  have eb:=dw b n (by omega)
  have e0:vg [Zu "either",zj a,zj b] 0=YW (.str "either"):=rfl
  have e1:vg [Zu "either",zj a,zj b] 1=YW (zj a):=rfl
  have e2':vg [Zu "either",zj a,zj b] 2=YW (zj b):=rfl
  unfold je
  cases ha:C7 a<;>simp [z7,ag,zd,zo,z9,e2,za,eC,zm,zk,zj,xr,e0,e1,e2',u7,lf,qm,qx,av,vh,zr,yv,zg,zq,zt,ea,eb,jx,ha,C7]
 | .both a b,n+1,hn=>by
  have pa:=a.pos
  have pb:=b.pos
  simp only [Kd.lg] at hn
  have ea:=dw a n (by omega)
  have eb:=dw b n (by omega)
  have e0:vg [Zu "both",zj a,zj b] 0=YW (.str "both"):=rfl
  have e1:vg [Zu "both",zj a,zj b] 1=YW (zj a):=rfl
  have e2':vg [Zu "both",zj a,zj b] 2=YW (zj b):=rfl
  unfold je
  cases ha:C7 a<;>simp [z7,ag,zd,zo,z9,e2,za,eC,zm,zk,zj,xr,e0,e1,e2',u7,lf,qm,qx,av,vh,zr,o7,zg,zq,zt,ea,eb,jx,ha,C7,KW,zl]
 | .none,0,h=>by simp [Kd.lg] at h
 | .one,0,h=>by simp [Kd.lg] at h
 | .name _,0,h=>by simp [Kd.lg] at h
 | .either a b,0,h=>by have:=a.pos;simp only [Kd.lg] at h;omega
 | .both a b,0,h=>by have:=a.pos;simp only [Kd.lg] at h;omega
end KT
namespace KT
open PySem PySem.Spec PyProof.Rows
noncomputable def nf:Kd->Nat
 | .both a b=>nf a+nf b
 | _=>1
noncomputable def OB:Kd->Bool
 | .both _ _=>true
 | _=>false
theorem EA:∀ k:Kd,1<=nf k
 | .both a b=>by have:=EA a;simp only [nf];omega
 | .none=>Ze _
 | .one=>Ze _
 | .name _=>Ze _
 | .either _ _=>Ze _
theorem rh:∀ k:Kd,nf k<=k.lg
 | .both a b=>by have:=rh a;have:=rh b;simp only [nf,Kd.lg];omega
 | .none=>Ze _
 | .one=>Ze _
 | .name _=>Ze _
 | .either a b=>Kd.pos _
noncomputable def aq:List Kd->Nat
 | []=>0
 | k::r=>k.lg+aq r
theorem AU:∀ l r:List Kd,aq (l++r)=aq l+aq r
 | [],r=>by simp [aq]
 | k::l,r=>by simp only [gU,aq,AU l r];exact (gV _ _ _).symm
theorem NQ{l r:List Kd}(h:l.Perm r):aq l=aq r:=by
 induction h with
 | nil=>rfl
 | cons x _ ih=>simp only [aq,ih]
 | swap x y l=>simp only [aq];omega
 | trans _ _ h1 h2=>exact h1.trans h2
theorem rj:∀ l:List Kd,l.length<=aq l
 | []=>Ze _
 | k::l=>by have:=rj l;have:=k.pos;simp only [aq,Zj];omega
theorem JA{k:Kd}{l:List Kd}(h:k∈l):k.lg<=aq l:=by
 induction l with
 | nil=>cases h
 | cons x l ih=>
  rcases ZP.mp h with rfl | h
  ·simp only [aq];exact eG _ _
  ·have:=ih h;simp only [aq];omega
theorem Oq(gm gf:FR)(k:Kd)(p:List Int)(ds:List YX)(h:OB k=false):jk 5 (yi gm gf) [zj k,zw p] ds=YW (.list [zj k],ds):=by
 have hl:=qk k
 have hw:∃ (w:Z3) (xs:List YX),zj k= .tuple (.str w::xs)/\(w == "both")=false:=by
  cases k with
  | none=>exact ⟨_,_,rfl,by decide +kernel⟩
  | one=>exact ⟨_,_,rfl,by decide +kernel⟩
  | name i=>exact ⟨_,_,rfl,by decide +kernel⟩
  | either a b=>exact ⟨_,_,rfl,by decide +kernel⟩
  | both a b=>cases h
 obtain ⟨w,xs,e,hw⟩:=hw
 rw [e] at hl ⊢
 have a0:vg (Zu w::xs) 0=YW (.str w):=Xu _ _
 simp [jk,yi,zd,qm,An,e2,z9,za,eC,zm,zk,xr,a0,VR,hw,ua,qv,zq,zt,lfs,hl]
theorem Pl(gm gf:FR)(a b:Kd)(da db dm:YX)(p:List Int)(ds r1 r2 r3:List YX)(hp:p.length<=90000)
  (h1:gf [zj a,zw (p++[0])] ds=YW (da,r1)) (h2:gf [zj b,zw (p++[1])] r1=YW (db,r2)) (h3:gm [da,db,zw p] r2=YW (dm,r3)):
  jk 5 (yi gm gf) [zj (.both a b),zw p] ds=YW (dm,r3):=by
 have e0:=vd p 0 hp
 have e1':=vd p 1 hp
 have l0:=jg (p++[0])
 have l1:=jg (p++[1])
 have la:=qk a
 have lb':=qk b
 have a0:vg [Zu "both",zj a,zj b] 0=YW (.str "both"):=rfl
 have a1:vg [Zu "both",zj a,zj b] 1=YW (zj a):=rfl
 have a2:vg [Zu "both",zj a,zj b] 2=YW (zj b):=rfl
 simp [jk,yi,zj,zd,qm,An,e2,z9,za,eC,zm,zk,xr,a0,a1,a2,VR,zl,kg,um,uo,o3,uc,nk,oz,CW,BI,qt,zv,zq,zt,e0,e1',l0,l1,la,lb',h1,h2,h3,ir,ng]
theorem LD:∀ (k:Kd) (n:Nat) (p:List Int) (ds:List YX),k.lg<=n->k.lg<=60->ds.length+4 * (nf k * nf k)+2 < big->p.length+2 * k.lg<=80000->
  ∃ (row:vm) (fs:List Kd),jh n [zj k,zw p] ds=YW (.list (fs.map zj),ds++j9 p row)/\df k row=YW (cj false id fs)/\fs.length=nf k/\aq fs=k.lg/\row.length+4 * nf k<=4 * (nf k * nf k):=by
 intro k
 by_cases hk:OB k=false
 ·intro n p ds hn _ _ _
  obtain ⟨m,rfl⟩:∃ m,n=m+1:=⟨n - 1,by have:=k.pos;omega⟩
  have e1:nf k=1:=by cases k<;>first | rfl | cases hk
  refine ⟨[],[k],?_,rfl,by rw [e1];rfl,by simp [aq],by rw [e1];decide⟩
  rw [show jh (m+1)=jk 5 (yi (ye m) (jh m)) from rfl,Oq _ _ k p ds hk]
  simp [j9]
 ·cases k with
  | none=>exact absurd rfl hk
  | one=>exact absurd rfl hk
  | name i=>exact absurd rfl hk
  | either a b=>exact absurd rfl hk
  | both a b=>
   intro n p ds hn h60 hds hp
   have pa:=a.pos
   have pb:=b.pos
   have na:=EA a
   have nb':=EA b
   have la:=rh a
   have lb':=rh b
   simp only [Kd.lg,nf] at hn h60 hds hp ⊢
   obtain ⟨m,rfl⟩:∃ m,n=m+2:=⟨n - 2,by omega⟩
   have hsq:(nf a+nf b) * (nf a+nf b)=nf a * nf a+nf b * nf b+2 * (nf a * nf b):=by
    rw [fE,bQ,bQ,dO (nf b) (nf a)];omega
   have hab:nf a+nf b<=nf a * nf b+1:=by
    obtain ⟨x,hx⟩:∃ x,nf a=x+1:=⟨nf a - 1,by omega⟩
    obtain ⟨y,hy⟩:∃ y,nf b=y+1:=⟨nf b - 1,by omega⟩
    rw [hx,hy,fE,bQ];omega
   rw [hsq] at hds ⊢
   obtain ⟨ra,La,a1,a2,a3,a4,a5⟩:=LD a (m+1) (p++[0]) ds (by omega) (by exact Zq ‹_›) (by omega) (by simp only [Za,Zy];omega)
   have hds1:(ds++j9 (p++[0]) ra).length=ds.length+ra.length:=by rw [Za,kn]
   obtain ⟨rb,Lb,b1,b2,b3,b4,b5⟩:=LD b (m+1) (p++[1]) (ds++j9 (p++[0]) ra) (by omega) (by exact Z2 ‹_›) (by rw [hds1];omega) (by simp only [Za,Zy];omega)
   have hds2:(ds++j9 (p++[0]) ra++j9 (p++[1]) rb).length=ds.length+ra.length+rb.length:=by rw [Za,kn,hds1]
   obtain ⟨rm,L,m1,m2,m3,m4,m5⟩:=Dk false id RP m La Lb (.list (La.map zj)) (.list (Lb.map zj)) p (ds++j9 (p++[0]) ra++j9 (p++[1]) rb) (.inl rfl) (.inl rfl) (λx hx=>by have:=JA hx;rw [a4] at this;show x.lg<=60;omega) (λx hx=>by have:=JA hx;rw [b4] at this;show x.lg<=60;omega) (by rw [a3,b3];omega) (by rw [hds2,a3,b3];omega) (by rw [a3,b3];omega)
   rw [a3,b3] at m5
   refine ⟨Ap [0] ra++Ap [1] rb++rm,L,?_,?_,by rw [m3.length_eq,Za,a3,b3],by rw [NQ m3,AU,a4,b4],by simp only [Za,et];omega⟩
   ·rw [show jh (m+2)=jk 5 (yi (ye (m+1)) (jh (m+1))) from rfl]
    rw [ko,ko,xm,xm,<- Z6,<- Z6]
    exact Pl _ _ a b _ _ _ p ds _ _ _ (by omega) a1 b1 m1
   ·exact f6 (c:=Ar false (cj false id La) (cj false id Lb)) (f6 (c:=Ar false (cj false id La) b) (NA false a2) (Lg false b2)) m2
termination_by k=>k.lg
decreasing_by all_goals (simp only [Kd.lg];omega)
noncomputable def gk(j:Nat):List Int:=Z1 j 1
theorem pd(j:Nat):(gk j).length=j:=by simp [gk]
theorem NF(j:Nat):gk (j+1)=gk j++[1]:=by simp [gk,List.replicate_succ']
theorem JO(j:Nat)(h:j<=90000):J9 (.tuple [.int 1]) (.int (j:Int))=YW (zw (gk j)):=by
 have h1:j<=big:=Zo h (by decide)
 have e:∀ j:Nat,(Z1 j [eB 1]).flatten=(gk j).map .int:=λj=>by
  induction j with
  | zero=>rfl
  | succ j ih=>rw [aR,cC,ih];simp [gk,aR]
 have h2:([eB 1].length * (j:Int).toNat<=big):=by simpa using h1
 have h3:(j:Int).natAbs<=big:=by simpa using h1
 simp [J9,lfs,lf,h1,e,zw]
theorem JF(p q:List Int)(h:p.length+q.length<=90000):il (zw p) (zw q)=YW (zw (p++q)):=by
 have hb:p.length+q.length<=big:=Zo h (by decide)
 simp [il,zw,xw,hb]
theorem KU{α:Type}{xs:List α}{k:Nat}{v:α}(h:xs[k]? =YW v):vg xs (k:Int)=YW v:=by
 have hk:k < xs.length:=(Zi.mp h).1
 have:(k:Int) < xs.length:=by omega
 simp [vg,BE,this,h]
theorem Nq(n:Nat):yu (n+1)= .int n::yu n:=by
 unfold yu
 rw [List.range_succ_eq_map,ZC,List.map_map]
 congr 1
 ·congr 1;omega
 ·exact cG λa _=>by simp only [dP];congr 1;omega
noncomputable def V3(gb gt:FR):FS:=(zd (zo 7 (qt (za 1) (BY (zv [eC (.int 1)]) (za 6)))) (zd (kg 8 gt [.f (z9 (za 3) (za 6)),.f (qt (za 7) (zv [eC (.int 0)]))] 2) (kg 5 gb [.n 8,.n 5,.n 7] 2)))
noncomputable def Lk(K P:YX)(ds FS:List YX)(l:Int)(T:YX)(x6 x7 x8:Option Slot):f9:=[YW (.par K),YW (.par P),YW (.lent ds),YW (.par (.list FS)),YW (.loc (.int l)),YW (.par T),x6,x7,x8]
theorem Sv(gb gt:FR)(K T x t1 t2:YX)(p:List Int)(ds r1 r2 FS:List YX)(l:Int)(j:Nat)(x7 x8:Option Slot)(hp:p.length+j<=80000)(hx:FS[j]? =YW x)(lx:lf x=true)
  (h1:gt [x,zw (p++gk j++[0])] ds=YW (t1,r1)) (h2:gb [t1,T,zw (p++gk j)] r1=YW (t2,r2)):
  V3 gb gt (Lk K (zw p) ds FS l T (YW (.loc (.int (j:Int)))) x7 x8)=YW (.next (Lk K (zw p) r2 FS l t2 (YW (.loc (.int (j:Int)))) (YW (.loc (zw (p++gk j)))) (YW (.par t1)))):=by
 have e0:=vd (p++gk j) 0 (by rw [Za,pd];omega)
 have l0:=jg (p++gk j++[0])
 have l1:=jg (p++gk j)
 have m1:=JO j (by omega)
 have c1:=JF p (gk j) (by rw [pd];omega)
 have a1:=KU hx
 rw [Z6] at e0 l0 h1
 simp only [V3,Lk,zd,zo,qt,e2,za,BY,zv,zq,eC,zt,zm,zk,ZQ,ZU,m1,c1,aH,u7,l1,if_true,cT,cU]
 simp [kg,um,uo,o3,uc,nk,oz,CW,BI,qt,e2,za,zv,zq,eC,zt,zm,zk,z9,xr,a1,lx,e0,l0,h1,h2]
theorem Sg(gt:FR)(gi:FC)(gb gp:FR)(p:List Int)(ds:List YX):jk 6 (w4 gt gi gb gp) [zj .none,zw p] ds=YW (.list [],ds):=by
 simp [jk,w4,zj,zd,zo,qm,z9,e2,za,eC,zm,zk,xr,vg,BE,u7,lf,qx,uh,ua,qv,zq,zt,lfs]
theorem Uh(gt:FR)(gi:FC)(gb gp:FR)(p:List Int)(ds:List YX):jk 6 (w4 gt gi gb gp) [zj .one,zw p] ds=YW (.tuple [],ds):=by
 simp [jk,w4,zj,zd,zo,qm,z9,e2,za,eC,zm,zk,xr,vg,BE,u7,lf,qx,uh,Um,zl,ua,zv,zq,zt,lfs]
theorem Ry(gt:FR)(gi:FC)(gb gp:FR)(i:Int)(p:List Int)(ds:List YX):jk 6 (w4 gt gi gb gp) [zj (.name i),zw p] ds=YW (.tuple [.int i],ds):=by
 simp [jk,w4,zj,zd,zo,qm,z9,e2,za,eC,zm,zk,xr,vg,BE,u7,lf,qx,uh,V0,XF,zl,ua,zv,zq,zt,lfs]
theorem Ph(gt:FR)(gi:FC)(gb gp:FR)(a b:Kd)(d:YX)(p:List Int)(ds r:List YX)(hi:gi [zj (.both a b)]=YW (.ok (.bool true)))(h:gb [zj (.both a b),zw p] ds=YW (d,r)):
  jk 6 (w4 gt gi gb gp) [zj (.both a b),zw p] ds=YW (d,r):=by
 have a0:vg [Zu "both",zj a,zj b] 0=YW (.str "both"):=rfl
 simp only [zj] at hi h
 simp [jk,w4,zj,zd,zo,qm,z9,e2,za,eC,zm,zk,xr,a0,u7,lf,qx,uh,Vb,W7,Xs,zl,zg,zq,zt,hi,jx,ir,um,uo,o3,uc,nk,h,ng]
theorem UP(gt:FR)(gi:FC)(gb gp:FR)(a b:Kd)(d:YX)(p:List Int)(ds r:List YX)(hi:gi [zj (.both a b)]=YW (.ok (.bool false)))(h:gp [zj (.both a b),zw p] ds=YW (d,r)):
  jk 6 (w4 gt gi gb gp) [zj (.both a b),zw p] ds=YW (d,r):=by
 have a0:vg [Zu "both",zj a,zj b] 0=YW (.str "both"):=rfl
 simp only [zj] at hi h
 simp [jk,w4,zj,zd,zo,qm,z9,e2,za,eC,zm,zk,xr,a0,u7,lf,qx,uh,Vb,W7,Xs,zl,zg,zq,zt,hi,jx,ir,um,uo,o3,uc,nk,h,ng]
section
variable(gt:FR)(gi:FC)(gb gp:FR)(a b:Kd)(t1 t2:YX)(p:List Int)(ds r1 r2:List YX)(hp:p.length<=90000)
 (h1:gt [zj a,zw (p++[0])] ds=YW (t1,r1)) (h2:gt [zj b,zw (p++[1])] r1=YW (t2,r2))
include hp h1 h2
theorem TK(q1:av t1 (.list [])=YW (.bool true))(hb:r2.length < big):jk 6 (w4 gt gi gb gp) [zj (.either a b),zw p] ds=YW (t2,r2++[jy "drop" p]):=by
 have lp:=jg p
 have e0:=vd p 0 hp
 have e1':=vd p 1 hp
 have l0:=jg (p++[0])
 have l1:=jg (p++[1])
 have la:=qk a
 have lb':=qk b
 have a0:vg [Zu "either",zj a,zj b] 0=YW (.str "either"):=rfl
 have a1:vg [Zu "either",zj a,zj b] 1=YW (zj a):=rfl
 have a2:vg [Zu "either",zj a,zj b] 2=YW (zj b):=rfl
 simp [jk,w4,zj,zd,zo,qm,z9,e2,za,eC,zm,zk,xr,a0,a1,a2,u7,lf,lfs,qx,uh,Uz,Wz,X2,Gv,zl,kg,um,uo,o3,uc,nk,oz,CW,BI,qt,zv,zq,zt,e0,e1',l0,l1,la,lb',h1,h2,qv,q1,jv,lp,hb,Ao,jy]
theorem US(q1:av t1 (.list [])=YW (.bool false))(q2:av t2 (.list [])=YW (.bool true))(hb:r2.length < big)(hb2:r2.length+1 < big):jk 6 (w4 gt gi gb gp) [zj (.either a b),zw p] ds=YW (t1,r2++[jy "swap" p,jy "drop" p]):=by
 have lp:=jg p
 have e0:=vd p 0 hp
 have e1':=vd p 1 hp
 have l0:=jg (p++[0])
 have l1:=jg (p++[1])
 have la:=qk a
 have lb':=qk b
 have a0:vg [Zu "either",zj a,zj b] 0=YW (.str "either"):=rfl
 have a1:vg [Zu "either",zj a,zj b] 1=YW (zj a):=rfl
 have a2:vg [Zu "either",zj a,zj b] 2=YW (zj b):=rfl
 simp [jk,w4,zj,zd,zo,qm,z9,e2,za,eC,zm,zk,xr,a0,a1,a2,u7,lf,lfs,qx,uh,Uz,Wz,X2,Gv,zl,kg,um,uo,o3,uc,nk,oz,CW,BI,qt,zv,zq,zt,e0,e1',l0,l1,la,lb',h1,h2,qv,q1,q2,jv,lp,hb,hb2,Ao,jy]
theorem TU(q1:av t1 (.list [])=YW (.bool false))(q2:av t2 (.list [])=YW (.bool false)):jk 6 (w4 gt gi gb gp) [zj (.either a b),zw p] ds=YW (.list [t1,t2],r2):=by
 have lp:=jg p
 have e0:=vd p 0 hp
 have e1':=vd p 1 hp
 have l0:=jg (p++[0])
 have l1:=jg (p++[1])
 have la:=qk a
 have lb':=qk b
 have a0:vg [Zu "either",zj a,zj b] 0=YW (.str "either"):=rfl
 have a1:vg [Zu "either",zj a,zj b] 1=YW (zj a):=rfl
 have a2:vg [Zu "either",zj a,zj b] 2=YW (zj b):=rfl
 simp [jk,w4,zj,zd,zo,qm,z9,e2,za,eC,zm,zk,xr,a0,a1,a2,u7,lf,lfs,qx,uh,Uz,Wz,X2,Gv,zl,kg,um,uo,o3,uc,nk,oz,CW,BI,qt,zv,zq,zt,e0,e1',l0,l1,la,lb',h1,h2,qv,q1,q2,Gf]
end
theorem XB(gi:FC)(gt:FR)(a b:Kd)(t:YX)(p:List Int)(ds r:List YX)(hp:p.length<=90000)(hi:gi [zj a]=YW (.ok (.bool true)))(h:gt [zj a,zw (p++[0])] ds=YW (t,r))(hb:r.length < big):
  jk 3 (fu gi gt) [zj (.both a b),zw p] ds=YW (.list [],r++[jy "drop" p]):=by
 have lp:=jg p
 have e0:=vd p 0 hp
 have l0:=jg (p++[0])
 have la:=qk a
 have a1:vg [Zu "both",zj a,zj b] 1=YW (zj a):=rfl
 simp [jk,fu,zj,zd,qm,zg,zq,z9,e2,za,eC,zm,zt,zk,xr,a1,hi,jx,AG,um,uo,o3,la,qt,zv,e0,l0,nk,h,oz,CW,BI,jv,lf,lfs,lp,hb,ua,qv,jy]
theorem Yq(gi:FC)(gt:FR)(a b:Kd)(t:YX)(p:List Int)(ds r:List YX)(hp:p.length<=90000)(hi:gi [zj a]=YW (.ok (.bool false)))(h:gt [zj b,zw (p++[1])] ds=YW (t,r))(hb:r.length+1 < big):
  jk 3 (fu gi gt) [zj (.both a b),zw p] ds=YW (.list [],r++[jy "swap" p,jy "drop" p]):=by
 have lp:=jg p
 have e0:=vd p 1 hp
 have l0:=jg (p++[1])
 have la:=qk b
 have hb0:r.length < big:=by exact ZX ‹_›
 have a1:vg [Zu "both",zj a,zj b] 1=YW (zj a):=rfl
 have a2:vg [Zu "both",zj a,zj b] 2=YW (zj b):=rfl
 simp [jk,fu,zj,zd,qm,zg,zq,z9,e2,za,eC,zm,zt,zk,xr,a1,a2,hi,jx,AG,um,uo,o3,la,qt,zv,e0,l0,nk,h,oz,CW,BI,jv,lf,lfs,lp,hb,hb0,ua,qv,jy]
noncomputable def Hv(n:Nat)(k:Kd):Prop:=∀ (p:List Int) (ds:List YX),p.length+k.lg+200<=70000->ds.length+1700 * k.lg < big->
 ∃ (row:vm) (T:Tr),wk n [zj k,zw p] ds=YW (ju T,ds++j9 p row)/\df k row=YW (aa T)/\(ml T∨T= .nil)/\row.length+1700<=1700 * k.lg
theorem LR{k:Kd}{row:vm}{T:Tr}(h:df k row=YW (aa T))(hT:ml T∨T= .nil)(hl:lb k≠[]):ml T:=by
 rcases hT with h1 | h1
 ·exact h1
 ·subst h1
  have:=D9 row k _ h
  exact absurd this.symm hl
theorem OH{k:Kd}{row:vm}{T:Tr}(h:df k row=YW (aa T))(hT:ml T∨T= .nil)(hl:lb k=[]):T= .nil:=by
 rcases hT with h1 | h1
 ·have e:=D9 row k _ h
  have:=Gs T h1
  have:=uj T h1
  rw [e,hl] at *
  simp at *
  omega
 ·exact h1
structure GoodL(l:List Kd):Prop where
 s:sE (cj false id l)<=40
 ne:lb (cj false id l)≠[]
 b:(lb (cj false id l)).length<=18
theorem MQ{a b:Nat}(ha:1<=a)(hb:1<=b):a<=a * b/\b<=a * b/\a+b<=a * b+1:=by
 obtain ⟨x,hx⟩:∃ x,a=x+1:=⟨a - 1,by omega⟩
 obtain ⟨y,hy⟩:∃ y,b=y+1:=⟨b - 1,by omega⟩
 subst hx hy
 rw [fE,bQ]
 omega
theorem Re{a b:Kd}(h:lb (.both a b)≠[]):lb a≠[]/\lb b≠[]/\(lb (.both a b)).length=(lb a).length * (lb b).length:=by
 have l:(lb (.both a b)).length=(lb a).length * (lb b).length:=by simp only [lb,vx,mj]
 have h0:(lb (.both a b)).length≠0:=λz=>h (aX.mp z)
 refine ⟨λz=>h0 (by rw [l,z];simp),λz=>h0 (by rw [l,z];simp),l⟩
theorem M6(a b:Kd):sE a<=sE (.both a b)/\sE b<=sE (.both a b):=by
 have pa:=AI a
 have pb:=AI b
 have h1:sE a * 1<=sE a * nE b:=aS _ pb
 have h2:sE b * 1<=sE b * nE a:=aS _ pa
 simp only [sE]
 omega
theorem Nj{a b:Kd}(s:sE (.both a b)<=40)(ne:lb (.both a b)≠[])(hb:(lb (.both a b)).length<=18):
  (sE a<=40/\lb a≠[]/\(lb a).length<=18)/\(sE b<=40/\lb b≠[]/\(lb b).length<=18):=by
 obtain ⟨na,nb',l⟩:=Re ne
 have pa:=fQ.mpr na
 have pb:=fQ.mpr nb'
 have t:=MQ pa pb
 have:=M6 a b
 exact ⟨⟨by omega,na,by omega⟩,⟨by omega,nb',by omega⟩⟩
theorem C9{x:Kd}{l:List Kd}(h:GoodL (x::l))(hl:l≠[]):GoodL l/\(sE x<=40/\lb x≠[]/\(lb x).length<=18):=by
 obtain ⟨s,ne,b⟩:=h
 rw [Dp false id x hl] at s ne b
 obtain ⟨h1,h2⟩:=Nj s ne b
 exact ⟨⟨h2.1,h2.2.1,h2.2.2⟩,h1⟩
theorem Cq:∀ (hd tl:List Kd),GoodL (hd++tl)->tl≠[]->GoodL tl
 | [],tl,h,_=>h
 | x::hd,tl,h,hl=>Cq hd tl (C9 (l:=hd++tl) h (by simp [hl])).1 hl
theorem O6(n:Nat)(hn:38<=n)(x:Kd)(tl:List Kd)(hg:GoodL (x::tl))(ht:tl≠[])(hx:Hv n x)(p:List Int)(j:Nat)(hp:p.length+j+x.lg+201<=70000)(ds:List YX)(row:vm)(T:Tr)(hT:ml T)
  (hgo:df (cj false id tl) row=YW (aa T)) (hds:ds.length+row.length+1700 * x.lg < big):
  ∃ (r1 rb:vm) (T1 T2:Tr),wk n [zj x,zw (p++gk j++[0])] (ds++j9 (p++gk j++[1]) row)=YW (ju T1,ds++j9 (p++gk j++[1]) row++j9 (p++gk j++[0]) r1)/\
   qo n [ju T1,ju T,zw (p++gk j)] (ds++j9 (p++gk j++[1]) row++j9 (p++gk j++[0]) r1)=YW (ju T2,ds++j9 (p++gk j) (Ap [1] row++Ap [0] r1++rb))/\ml T2/\
   df (cj false id (x::tl)) (Ap [1] row++Ap [0] r1++rb)=YW (aa T2)/\r1.length+1700<=1700 * x.lg/\rb.length+3<=1530:=by
 have hj:(p++gk j).length=p.length+j:=by rw [Za,pd]
 obtain ⟨_,gx⟩:=C9 hg ht
 obtain ⟨r1,T1,a1,a2,a3,a4⟩:=hx (p++gk j++[0]) (ds++j9 (p++gk j++[1]) row) (by simp only [Za,pd,Zy];omega) (by rw [Za,kn];omega)
 have f1:=LR a2 a3 gx.2.1
 have hn1:cj false id (x::tl)=Ar false x (cj false id tl):=Dp false id x ht
 have go2:df (cj false id (x::tl)) (Ap [1] row++Ap [0] r1)=YW (.both (aa T1) (aa T)):=by
  rw [hn1]
  exact f6 (c:=Ar false x (aa T)) (Lg false hgo) (NA false a2)
 have e2:=O1 _ _ _ go2
 have l2:=D9 _ _ _ go2
 have hw:(aa T1).lg+(aa T).lg<=40:=by
  have:=vv (.both (aa T1) (aa T))
  have:=hg.s
  simp only [Kd.lg] at *
  omega
 have hf:nb T1 * nb T<=18:=by
  have:(lb (.both (aa T1) (aa T))).length=nb T1 * nb T:=by simp only [lb,vx,mj,Gs T1 f1,Gs T hT]
  rw [<- this,l2]
  exact hg.b
 have tw:=MQ (uj T1 f1) (uj T hT)
 obtain ⟨rb,T2,b1,b2,b3,b4⟩:=Fz (nb T1+nb T) T1 T (Ze _) f1 hT hw n (p++gk j) (ds++j9 (p++gk j++[1]) row++j9 (p++gk j++[0]) r1) (by omega) (by rw [hj];omega) (by simp only [Za,kn];omega)
 refine ⟨r1,rb,T1,T2,a1,?_,b3,?_,a4,by omega⟩
 ·rw [b1,ko,ko,xm,xm]
  simp only [Z6]
 ·exact f6 go2 b2
theorem IG(n:Nat)(hn:38<=n)(fs:List Kd)(K:YX)(p:List Int)(l:Int)(ds:List YX)(hT:∀ x∈fs,Hv n x)(hg:GoodL fs)(hp:p.length+aq fs+200<=70000)(hds:ds.length+1700 * aq fs+160 < big+160 * fs.length):
  ∀ (j:Nat) (hd tl:List Kd) (row:vm) (T:Tr) (x6 x7 x8:Option Slot),hd.length=j->fs=hd++tl->tl≠[]->ml T->df (cj false id tl) row=YW (aa T)->row.length+1700 * tl.length+1530<=1700 * aq tl+1530 * tl.length->
   ∃ (row':vm) (T':Tr) (y6 y7 y8:Option Slot),qy (z8 6) (V3 (qo n) (wk n)) (yu j) (Lk K (zw p) (ds++j9 (p++gk j) row) (fs.map zj) l (ju T) x6 x7 x8)=YW (.next (Lk K (zw p) (ds++j9 p row') (fs.map zj) l (ju T') y6 y7 y8))/\
    ml T'/\df (cj false id fs) row'=YW (aa T')/\row'.length+1700 * fs.length+1530<=1700 * aq fs+1530 * fs.length
 | 0,hd,tl,row,T,x6,x7,x8,hj,hfs,ht,hF,hgo,hr=>by
  have:hd=[]:=aX.mp hj
  subst this
  rw [dG] at hfs
  subst hfs
  exact ⟨row,T,x6,x7,x8,by rw [show gk 0=[] from rfl,ZL];rfl,hF,hgo,hr⟩
 | j+1,hd,tl,row,T,x6,x7,x8,hj,hfs,ht,hF,hgo,hr=>by
  obtain ⟨hd',x,rfl⟩:∃ hd' x,hd=hd'++[x]:=⟨hd.dropLast,hd.getLast (by intro z;rw [z] at hj;cases hj),(List.dropLast_concat_getLast _).symm⟩
  have hj':hd'.length=j:=by simpa using hj
  have hfs':fs=hd'++(x::tl):=by rw [hfs];simp
  have gx:GoodL (x::tl):=Cq hd' (x::tl) (hfs' ▸ hg) (by simp)
  have hmem:x∈fs:=by rw [hfs'];simp
  have hls:aq fs=aq hd'+(x.lg+aq tl):=by rw [hfs',AU];rfl
  have lq:fs.length=j+(1+tl.length):=by rw [hfs',Za,hj',Zj];omega
  have hdl:=rj hd'
  have tll:=rj tl
  have xp:=x.pos
  have tp:1<=tl.length:=fQ.mpr ht
  obtain ⟨r1,rb,T1,T2,a1,a2,a3,a4,a5,a6⟩:=O6 n hn x tl gx ht (hT x hmem) p j (by omega) ds row T hF hgo (by omega)
  obtain ⟨row',T',y6,y7,y8,b1,b2,b3,b4⟩:=IG n hn fs K p l ds hT hg hp hds j hd' (x::tl) (Ap [1] row++Ap [0] r1++rb) T2 (YW (.loc (.int (j:Int)))) (YW (.loc (zw (p++gk j)))) (YW (.par (ju T1))) hj' hfs' (by simp) a3 a4 (by simp only [Za,et,Zj,aq];omega)
  refine ⟨row',T',y6,y7,y8,?_,b2,b3,b4⟩
  have hget:(fs.map zj)[j]? =YW (zj x):=by rw [hfs',List.map_append,ZC,aK (by rw [Z9,hj'];exact Ze _),Z9,hj',Nat.sub_self];rfl
  have body:=Sv (qo n) (wk n) K (ju T) (zj x) (ju T1) (ju T2) p (ds++j9 (p++gk j++[1]) row) _ _ (fs.map zj) l j x7 x8 (by omega) hget (qk x) a1 a2
  rw [Nq,<- b1]
  rw [show p++gk (j+1)=p++gk j++[1] by rw [NF,Z6]]
  exact fh rfl body
theorem Vn(gb gt gf:FR)(K T T' x:YX)(p:List Int)(ds r1 r2 r3 FS:List YX)(m:Nat)(y6 y7 y8:Option Slot)(hm:FS.length=m+1)(h60:p.length+m<=80000)(hf:gf [K,zw p] ds=YW (.list FS,r1))(hx:FS[m]? =YW x)(lx:lf x=true)
  (h1:gt [x,zw (p++gk m)] r1=YW (T,r2)) (hl:qy (z8 6) (V3 gb gt) (yu m) (Lk K (zw p) r2 FS (m:Int) T YY YY YY)=YW (.next (Lk K (zw p) r3 FS (m:Int) T' y6 y7 y8))):
  jk 9 (uq gb gt gf) [K,zw p] ds=YW (T',r3):=by
 have m1:=JO m (by omega)
 have c1:=JF p (gk m) (by rw [pd];omega)
 have l1:=jg (p++gk m)
 have a1:=KU hx
 have e:uq gb gt gf=(zd (kg 3 gf [.n 0,.n 1] 2) (zd (zo 4 (u4 (jr (za 3)) (eC (.int 1)))) (zd (kg 5 gt [.f (z9 (za 3) (za 4)),.f (qt (za 1) (BY (zv [eC (.int 1)]) (za 4)))] 2) (zd (bz (i0 (u4 (za 4) (eC (.int 1)))) (z8 6) (V3 gb gt)) (Ao 2 5))))):=rfl
 have hlast:NL (.int (FS.length:Int)) (.int 1)=YW (.int (m:Int)):=by rw [Kf,hm];congr 2;omega
 have s1:kg 3 gf [.n 0,.n 1] 2 [YW (.par K),YW (.par (zw p)),YW (.lent ds),YY,YY,YY,YY,YY,YY]=YW (.next [YW (.par K),YW (.par (zw p)),YW (.lent r1),YW (.par (.list FS)),YY,YY,YY,YY,YY]):=by
  simp [kg,um,uo,o3,uc,nk,hf,oz,CW,BI]
 have s2:zo 4 (u4 (jr (za 3)) (eC (.int 1))) [YW (.par K),YW (.par (zw p)),YW (.lent r1),YW (.par (.list FS)),YY,YY,YY,YY,YY]=YW (.next [YW (.par K),YW (.par (zw p)),YW (.lent r1),YW (.par (.list FS)),YW (.loc (.int (m:Int))),YY,YY,YY,YY]):=by
  simp [zo,u4,e2,jr,e1,za,eC,zm,zk,xx,hlast,u7,lf]
 have s3:kg 5 gt [.f (z9 (za 3) (za 4)),.f (qt (za 1) (BY (zv [eC (.int 1)]) (za 4)))] 2 [YW (.par K),YW (.par (zw p)),YW (.lent r1),YW (.par (.list FS)),YW (.loc (.int (m:Int))),YY,YY,YY,YY]=YW (.next (Lk K (zw p) r2 FS (m:Int) T YY YY YY)):=by
  have q1:(z9 (za 3) (za 4)) [YW (.par K),YW (.par (zw p)),YW (.lent r1),YW (.par (.list FS)),YW (.loc (.int (m:Int))),YY,YY,YY,YY]=YW (.ok 0 x):=by
   simp [z9,e2,za,zm,xr,a1]
  have q2:(qt (za 1) (BY (zv [eC (.int 1)]) (za 4))) [YW (.par K),YW (.par (zw p)),YW (.lent r1),YW (.par (.list FS)),YW (.loc (.int (m:Int))),YY,YY,YY,YY]=YW (.ok 2 (zw (p++gk m))):=by
   simp [qt,BY,e2,za,zv,zq,eC,zt,zm,m1,c1]
  simp [kg,um,uo,o3,uc,nk,q1,q2,lx,l1,h1,oz,CW,BI,Lk]
 have s4:bz (i0 (u4 (za 4) (eC (.int 1)))) (z8 6) (V3 gb gt) (Lk K (zw p) r2 FS (m:Int) T YY YY YY)=YW (.next (Lk K (zw p) r3 FS (m:Int) T' y6 y7 y8)):=by
  have q:(i0 (u4 (za 4) (eC (.int 1)))) (Lk K (zw p) r2 FS (m:Int) T YY YY YY)=YW (.ok 2 (yu m)):=by
   have hb:((m:Int) - 1).natAbs<=big:=by
    have:(80001:Nat)<=big:=by decide
    omega
   have hz:((m:Int) - 1+1).toNat=m:=by omega
   simp only [i0,u4,e2,za,eC,Lk,zm,ZQ,ZU,Kf,aH,hb,if_true,hz]
  unfold bz
  rw [q]
  exact hl
 have s5:Ao 2 5 (Lk K (zw p) r3 FS (m:Int) T' y6 y7 y8)=YW (.retL T' r3):=by simp [Ao,Lk,uc]
 unfold jk
 show (match uq gb gt gf [YW (.par K),YW (.par (zw p)),YW (.lent ds),YY,YY,YY,YY,YY,YY] with | some (.retL d ds')=>YW (d,ds') | _=>YY)=_
 rw [e,jt s1,jt s2,jt s3,jt s4,s5]
theorem Jv(T:Tr):av (ju T) (.list [])=YW (.bool (match T with | .nil=>true | _=>false)):=by
 cases T with
 | nil=>exact PN
 | bun l=>exact QF l
 | nod a b=>exact JS _ _ (EV (.nod a b))
theorem Bd:∀ (N:Nat) (k:Kd),k.lg<=N->sE k<=40->(lb k).length<=18->∀ n,2 * k.lg+40<=n->Hv n k
 | 0,k,h,_,_,_,_=>by have:=k.pos;omega
 | N+1,k,hN,hs,hb,n,hn=>by
  intro p ds hp hds
  obtain ⟨m,rfl⟩:∃ m,n=m+1:=⟨n - 1,by omega⟩
  have unf:wk (m+1)=jk 6 (w4 (wk m) (je m) (fy m) (xk m)):=rfl
  cases k with
  | none=>exact ⟨[],.nil,by rw [unf,Sg];simp [ju,j9],rfl,.inr rfl,by simp [Kd.lg]⟩
  | one=>exact ⟨[],.bun [],by rw [unf,Uh];simp [ju,j9,qu],rfl,.inl .nil,by simp [Kd.lg]⟩
  | name i=>exact ⟨[],.bun [i],by rw [unf,Ry];simp [ju,j9,qu],rfl,.inl (List.pairwise_singleton _ _),by simp [Kd.lg]⟩
  | either a b=>
   have pa:=a.pos
   have pb:=b.pos
   simp only [Kd.lg,sE,lb,vx,Za] at hN hs hb hn hp hds ⊢
   obtain ⟨r1,T1,a1,a2,a3,a4⟩:=Bd N a (by omega) (by exact Zq ‹_›) (by exact Zq ‹_›) m (by omega) (p++[0]) ds (by simp only [Za,Zy];omega) (by omega)
   obtain ⟨r2,T2,b1,b2,b3,b4⟩:=Bd N b (by omega) (by exact Z2 ‹_›) (by exact Z2 ‹_›) m (by omega) (p++[1]) (ds++j9 (p++[0]) r1) (by simp only [Za,Zy];omega) (by rw [Za,kn];omega)
   have lq:(ds++j9 (p++[0]) r1++j9 (p++[1]) r2).length=ds.length+r1.length+r2.length:=by simp only [Za,kn]
   have go:df (.either a b) (Ap [0] r1++Ap [1] r2)=YW (.either (aa T1) (aa T2)):=f6 (c:=Ar true (aa T1) b) (NA true a2) (Lg true b2)
   have hw:ds++j9 p (Ap [0] r1++Ap [1] r2)=ds++j9 (p++[0]) r1++j9 (p++[1]) r2:=by rw [ko,xm,xm,Z6]
   have q1:=Jv T1
   have q2:=Jv T2
   rcases a3 with f1 | f1
   ·have q1:av (ju T1) (.list [])=YW (.bool false):=by cases T1<;>first | exact f1.elim | exact q1
    rcases b3 with f2 | f2
    ·have q2:av (ju T2) (.list [])=YW (.bool false):=by cases T2<;>first | exact f2.elim | exact q2
     refine ⟨Ap [0] r1++Ap [1] r2,.nod T1 T2,?_,go,.inl ⟨f1,f2⟩,by simp only [Za,et];omega⟩
     rw [unf,hw]
     exact TU _ _ _ _ a b _ _ p ds _ _ (by omega) a1 b1 q1 q2
    ·subst f2
     refine ⟨Ap [0] r1++Ap [1] r2++([("swap",[]),("drop",[])]:vm),T1,?_,?_,.inl f1,by simp only [Za,et,Zj,ZJ];omega⟩
     ·rw [unf,ko,<- Z6,hw,xu,xu,ZL]
      exact US _ _ _ _ a b _ _ p ds _ _ (by omega) a1 b1 q1 q2 (by rw [lq];omega) (by rw [lq];omega)
     ·refine f6 go ?_
      show df _ (([("swap",[])]:vm)++([("drop",[])]:vm))=_
      exact f6 (ez (DY true _ _)) (ez (DU true _))
   ·subst f1
    refine ⟨Ap [0] r1++Ap [1] r2++([("drop",[])]:vm),T2,?_,f6 go (ez (DU true _)),b3,by simp only [Za,et,Zj,ZJ];omega⟩
    rw [unf,ko,<- Z6,hw,xu,ZL]
    exact TK _ _ _ _ a b _ _ p ds _ _ (by omega) a1 b1 q1 (by rw [lq];omega)
  | both a b=>
   have pa:=a.pos
   have pb:=b.pos
   have hsb:=M6 a b
   have bar:=dw (.both a b) m (by omega)
   obtain ⟨m,rfl⟩:∃ k,m=k+1:=⟨m - 1,by omega⟩
   cases hbr:C7 (.both a b) with
   | true=>
    rw [hbr] at bar
    simp only [Kd.lg] at hN hn hp hds ⊢
    have ub:fy (m+1)=jk 3 (fu (je m) (wk m)):=rfl
    have ba:=dw a m (by omega)
    cases hba:C7 a with
    | true=>
     rw [hba] at ba
     have l0:=B8 a hba
     obtain ⟨r1,T1,a1,a2,a3,a4⟩:=Bd N a (by omega) (by omega) (by rw [l0];decide) m (by omega) (p++[0]) ds (by simp only [Za,Zy];omega) (by omega)
     have:=OH a2 a3 l0
     subst this
     refine ⟨Ap [0] r1++([("drop",[])]:vm),.nil,?_,?_,.inr rfl,by simp only [Za,et,Zj,ZJ];omega⟩
     ·rw [unf]
      refine Ph _ _ _ _ a b _ p ds _ bar ?_
      rw [ub,ko,xm,xu,ZL,<- Z6]
      exact XB _ _ a b _ p ds _ (by omega) ba a1 (by rw [Za,kn];omega)
     ·exact f6 (c:=.both .none b) (NA false a2) (ez (by rw [yd];rfl))
    | false=>
     rw [hba] at ba
     have hbb:C7 b=true:=by simpa [C7,hba] using hbr
     have l0:=B8 b hbb
     obtain ⟨r1,T1,a1,a2,a3,a4⟩:=Bd N b (by omega) (by omega) (by rw [l0];decide) m (by omega) (p++[1]) ds (by simp only [Za,Zy];omega) (by omega)
     have:=OH a2 a3 l0
     subst this
     refine ⟨Ap [1] r1++([("swap",[]),("drop",[])]:vm),.nil,?_,?_,.inr rfl,by simp only [Za,et,Zj,ZJ];omega⟩
     ·rw [unf]
      refine Ph _ _ _ _ a b _ p ds _ bar ?_
      rw [ub,ko,xm,xu,xu,ZL,<- Z6]
      exact Yq _ _ a b _ p ds _ (by omega) ba a1 (by rw [Za,kn];omega)
     ·refine f6 (c:=.both a .none) (Lg false a2) ?_
      show df _ (([("swap",[])]:vm)++([("drop",[])]:vm))=_
      exact f6 (ez (DY false a .none)) (ez (by rw [yd];rfl))
   | false=>
    rw [hbr] at bar
    have ne:=Eo _ hbr
    have up:xk (m+1)=jk 9 (uq (qo m) (wk m) (jh m)):=rfl
    have hL:(Kd.both a b).lg<=40:=Zo (vv _) hs
    have h2:2<=nf (.both a b):=by have:=EA a;have:=EA b;simp only [nf];omega
    have hnl:=rh (.both a b)
    have hsq:nf (.both a b) * nf (.both a b)<=40 * nf (.both a b):=cA _ (by exact Zo ‹_› ‹_›)
    obtain ⟨rf,fs,f1,f2,f3,f4,f5⟩:=LD (.both a b) m p ds (by omega) (by omega) (by omega) (by omega)
    generalize hk:Kd.both a b=k at *
    have hg:GoodL fs:=⟨Zo (O1 _ _ _ f2) hs,by rw [D9 _ _ _ f2];exact ne,by rw [D9 _ _ _ f2];exact hb⟩
    have hfl:rf.length<=160 * (fs.length - 1):=by
     rw [f3]
     have:4 * (nf k * nf k)<=160 * nf k:=by omega
     have hq:nf k * nf k=nf k+nf k * (nf k - 1):=by
      obtain ⟨z,hz⟩:∃ z,nf k=z+1:=⟨nf k - 1,by omega⟩
      rw [hz,Nat.add_sub_cancel,bQ];omega
     have hq2:nf k * (nf k - 1)<=40 * (nf k - 1):=cA _ (by exact Zo ‹_› ‹_›)
     omega
    obtain ⟨hd,x,hfs⟩:∃ hd x,fs=hd++[x]:=⟨fs.dropLast,fs.getLast (by intro z;rw [z] at f3;simp at f3;omega),(List.dropLast_concat_getLast _).symm⟩
    have hlh:hd.length+1=fs.length:=by rw [hfs];simp
    have hls:aq fs=aq hd+x.lg:=by rw [hfs,AU];simp [aq]
    have hdl:=rj hd
    have gx:GoodL [x]:=Cq hd [x] (hfs ▸ hg) (by simp)
    have each:∀ y∈fs,Hv m y:=λy hy=>by
     have hlt:y.lg < k.lg:=by
      rw [<- f4]
      obtain ⟨s,t,hst⟩:=List.append_of_mem hy
      rw [hst] at f3 ⊢
      rw [AU]
      have:=rj s
      have:=rj t
      simp only [Za,Zj,aq] at *
      omega
     have good:sE y<=40/\(lb y).length<=18:=by
      obtain ⟨s,t,hst⟩:=List.append_of_mem hy
      have g2:GoodL (y::t):=Cq s (y::t) (hst ▸ hg) (by simp)
      by_cases ht:t=[]
      ·subst ht;exact ⟨g2.s,g2.b⟩
      ·have:=(C9 g2 ht).2;exact ⟨this.1,this.2.2⟩
     exact Bd N y (by omega) good.1 good.2 m (by omega)
    obtain ⟨r1,T1,a1,a2,a3,a4⟩:=each x (by rw [hfs];simp) (p++gk hd.length) (ds++j9 p rf) (by rw [Za,pd];omega) (by rw [Za,kn];omega)
    have ft:=LR a2 a3 gx.ne
    obtain ⟨row',T',y6,y7,y8,b1,b2,b3,b4⟩:=IG m (by omega) fs (zj k) p (hd.length:Int) (ds++j9 p rf) each hg (by omega) (by rw [Za,kn];omega) hd.length hd [x] r1 T1 YY YY YY rfl hfs (by simp) ft a2 (by simp only [Zy,aq];omega)
    refine ⟨rf++row',T',?_,f6 f2 b3,.inl b2,by rw [Za];omega⟩
    rw [unf]
    subst hk
    refine UP _ _ _ _ a b _ p ds _ bar ?_
    rw [up,ko,<- Z6]
    exact Vn _ _ _ _ _ _ (zj x) p ds _ _ _ _ hd.length y6 y7 y8 (by rw [Z9];omega) (by omega) f1 (by rw [hfs,List.map_append,aK (by simp)];simp) (qk x) a1 b1
theorem Vs(gi gt:FR)(k t L:YX)(r1 r2:List YX)(h1:gt [k,zw []] []=YW (t,r1))(h2:gi [t,zw []] r1=YW (L,r2)):z7 3 (cu gi gt) [k]=YW (.ok (.list r2)):=by
 have lp:lf (.tuple [])=true:=rfl
 have h1':gt [k,.tuple []] []=YW (t,r1):=h1
 have h2':gi [t,.tuple []] r1=YW (L,r2):=h2
 simp [z7,cu,zd,zo,qv,zq,zt,zk,lfs,lf,u7,kg,um,uo,o3,uc,zv,nk,h1',oz,CW,BI,AG,h2',zr,za]
theorem Am(k:Kd)(n:Nat)(hs:sE k<=40)(hb:(lb k).length<=18)(hn:2 * k.lg+42<=n):
  ∃ row:vm,w6 n [zj k]=YW (.ok (.list (j9 [] row)))/\df k row=YW (pk (lb k))/\row.length<=70000:=by
 obtain ⟨m,rfl⟩:∃ m,n=m+1:=⟨n - 1,by omega⟩
 have hL:k.lg<=40:=Zo (vv k) hs
 have big0:big=100000:=rfl
 obtain ⟨r1,T,a1,a2,a3,a4⟩:=Bd k.lg k (Ze _) hs hb m (by omega) [] [] (by simp only [ZJ];omega) (by simp only [ZJ];omega)
 have hnb:nb T<=18:=by
  rcases a3 with h | h
  ·rw [<- Gs T h,D9 _ _ _ a2];exact hb
  ·subst h;decide
 have hsq:nb T * nb T<=18 * 18:=fG hnb hnb
 obtain ⟨r2,L,b1,b2,b3,b4,b5,b6⟩:=Bv T m [] (j9 [] r1) a3 (by omega) (by omega) (by rw [kn];omega) (by simp only [ZJ];omega)
 have go:=f6 a2 b2
 refine ⟨r1++r2,?_,?_,by rw [Za];omega⟩
 ·rw [show w6 (m+1)=z7 3 (cu (xj m) (wk m)) from rfl,ko]
  exact Vs _ _ _ _ _ _ _ (by rw [a1];rfl) b1
 ·rw [go]
  have e:=D9 _ _ _ go
  rw [Tn L b4] at e
  have:jw ao L=L:=by
   rw [show (ao:List Int->List Int->Bool)=HT.lexLt from funext λa=>funext λb=>Aa a b]
   exact (mx (O:=rowOrd) (.refl L) b3).symm
  rw [this] at e
  rw [e]
end KT
namespace KT
open PySem
noncomputable def Ru:FE:=(sr (fe (qt (za 1) (za 0))))
theorem T5(x y:List Int)(h:x.length+y.length < 64):Ru [YW (.par (qu y)),YW (.par (qu x))]=YW (.ok 2 (qu (jw BF (x++y)))):=by
 have h1:=JC x y (by unfold big;omega)
 have h2:=EH (x:=x++y) (by simpa using h)
 simp [Ru,sr,fe,qt,e1,e2,za,zm,h1,h2,Iu]
theorem JW(x:List Int):∀ ys:List (List Int),(∀ y∈ys,x.length+y.length < 64)->b7 Ru [YW (.par (qu x))] (ys.map qu)=YW ((fq x ys).map qu)
 | [],_=>rfl
 | y::ys,h=>by
  have h1:=T5 x y (h y (Zz ..))
  have ih:=JW x ys λz hz=>h z (Z5 _ hz)
  simp only [ZC,b7,h1,Ym,if_true,ih,aH,fq]
noncomputable def R5:FS:=(ug 4 (ro (mz (za 3)) [5] Ru))
theorem MK(ys:List (List Int))(hy:ys.length<=18)(r0 r1 r2:Option Slot):∀ (xs acc:List (List Int)) (x5:Option Slot),(∀ x∈xs,∀ y∈ys,x.length+y.length < 64)->acc.length+(xs.length) * 18<=5000->
  ∃ x',qy (z8 5) R5 (xs.map qu) [r0,r1,r2,YW (.own (ys.map qu)),YW (.own (acc.map qu)),x5]=YW (.next [r0,r1,r2,YW (.own (ys.map qu)),YW (.own ((acc++wq xs ys).map qu)),x'])
 | [],acc,x5,_,_=>⟨x5,by simp [qy,wq]⟩
 | x::xs,acc,x5,h,hz=>by
  simp only [Zj] at hz
  have hc:=JW x ys (h x (Zz ..))
  have hl:(fq x ys).length=ys.length:=by simp [fq]
  obtain ⟨x',e⟩:=MK ys hy r0 r1 r2 xs (acc++fq x ys) (YW (.loc (qu x))) (λz hz=>h z (Z5 _ hz)) (by rw [Za,hl];omega)
  refine ⟨x',?_⟩
  have hb:ys.length<=big:=by unfold big;omega
  have hb2:acc.length+ys.length<=big:=by unfold big;omega
  have t:R5 [r0,r1,r2,YW (.own (ys.map qu)),YW (.own (acc.map qu)),YW (.loc (qu x))]=YW (.next [r0,r1,r2,YW (.own (ys.map qu)),YW (.own ((acc++fq x ys).map qu)),YW (.loc (qu x))]):=by
   simp [R5,ug,ro,mz,za,HS,hb,mw,hc,zk,hl,hb2]
  simp only [ZC,qy,z8,cT,cU,t]
  rw [e,yw,Z6]
theorem ie:∀ (k:Kd) (n:Nat),k.lg < n->k.lg<=63->K8 k->j6 n [zj k]=YW (.ok (wa (ga k)))
 | .none,n+1,_,_,_=>by
  unfold j6
  simp [z7,uk,zd,zo,z9,e2,za,eC,zm,zk,zj,xr,vg,BE,u7,lf,qm,qx,av,vh,zr,ga,qv,zq,zt,lfs,wa]
 | .one,n+1,_,_,_=>by
  unfold j6
  simp [z7,uk,zd,zo,z9,e2,za,eC,zm,zk,zj,xr,vg,BE,u7,lf,qm,qx,av,vh,zr,ga,qv,zv,zq,zt,lfs,wa,qu,Um,zl]
 | .name i,n+1,_,_,_=>by
  have e0:∀ xs:List YX,vg (Zu "name"::xs) 0=YW (.str "name"):=λxs=>by simp [vg,BE]
  have e1:vg [Zu "name",.int i] 1=YW (.int i):=rfl
  unfold j6
  simp [z7,uk,zd,zo,z9,e2,za,eC,zm,zk,zj,xr,e0,e1,u7,lf,qm,qx,av,vh,zr,ga,qv,zv,zq,zt,lfs,wa,qu,V0,XF,zl]
 | .either a b,n+1,hn,h8,⟨fa,fb,hab⟩=>by
  have pa:=a.pos
  have pb:=b.pos
  simp only [Kd.lg] at hn h8
  have ea:=ie a n (by omega) (by exact Zq ‹_›) fa
  have eb:=ie b n (by omega) (by exact Z2 ‹_›) fb
  have la:=JB a fa
  have lb':=JB b fb
  have e0:vg [Zu "either",zj a,zj b] 0=YW (.str "either"):=rfl
  have e1:vg [Zu "either",zj a,zj b] 1=YW (zj a):=rfl
  have e2':vg [Zu "either",zj a,zj b] 2=YW (zj b):=rfl
  have had:il (wa (ga a)) (wa (ga b))=YW (wa (ga a++ga b)):=by
   have:(ga a).length+(ga b).length<=big:=by unfold big;omega
   simp [il,wa,HS,this]
  unfold j6
  simp [z7,uk,zd,zo,z9,e2,za,eC,zm,zk,zj,xr,e0,e1,e2',u7,lf,qm,qx,av,vh,zr,zg,zq,zt,ea,eb,jx,Uz,Wz,X2,zl,qt,had,ga]
 | .both a b,n+1,hn,h8,⟨fa,fb,hab⟩=>by
  have pa:=a.pos
  have pb:=b.pos
  have hbr:=dw (.both a b) n (by simp only [Kd.lg] at hn ⊢;exact bJ ‹_›)
  simp only [Kd.lg] at hn h8
  have ea:=ie a n (by omega) (by exact Zq ‹_›) fa
  have eb:=ie b n (by omega) (by exact Z2 ‹_›) fb
  have la:=JB a fa
  have lb':=JB b fb
  have e0:vg [Zu "both",zj a,zj b] 0=YW (.str "both"):=rfl
  have e1:vg [Zu "both",zj a,zj b] 1=YW (zj a):=rfl
  have e2':vg [Zu "both",zj a,zj b] 2=YW (zj b):=rfl
  have hE:lf (.tuple [Zu "both",zj a,zj b])=true:=qk (.both a b)
  show z7 6 (uk (j6 n) (je n)) [zj (.both a b)]=_
  simp only [zj] at hbr
  simp only [C7] at hbr
  cases hb:(C7 a || C7 b) with
  | true=>
   rw [hb] at hbr
   simp [z7,uk,zd,zo,z9,e2,za,eC,zm,zk,zj,xr,e0,e1,e2',u7,lf,qm,qx,av,vh,zr,zg,zq,zt,hbr,jx,Vb,W7,Xs,KW,zl,ga,hb,qv,lfs,wa]
  | false=>
   rw [hb] at hbr
   obtain ⟨x',el⟩:=MK (ga b) lb' (YW (.par (zj (.both a b)))) (YW (.loc (.str "both"))) (YW (.loc (.list ((ga a).map qu)))) (ga a) [] YY (λx hx y hy=>by have:=Qd a x hx;have:=Qd b y hy;omega) (by simp;omega)
   have shape:uk (j6 n) (je n)=(zd (zo 1 (z9 (za 0) (eC (.int 0)))) (zd (qm (qx (za 1) (eC (.str "none"))) (zr (qv [])) zl) (zd (qm (qx (za 1) (eC (.str "one"))) (zr (qv [zv []])) zl) (zd (qm (qx (za 1) (eC (.str "name"))) (zr (qv [zv [z9 (za 0) (eC (.int 1))]])) zl) (zd (qm (qx (za 1) (eC (.str "either"))) (zr (qt (zg (j6 n) [z9 (za 0) (eC (.int 1))]) (zg (j6 n) [z9 (za 0) (eC (.int 2))]))) zl) (zd (qm (zg (je n) [za 0]) (zr (qv [])) zl) (zd (zo 2 (zg (j6 n) [z9 (za 0) (eC (.int 1))])) (zd (zo 3 (zg (j6 n) [z9 (za 0) (eC (.int 2))])) (zd (zo 4 (qv [])) (zd (vf 2 (z8 5) R5) (zr (za 4)))))))))))):=rfl
   rw [shape]
   simp only [zj,iJ,dG] at el
   simp only [wa] at ea eb
   simp [z7,zd,zo,z9,e2,za,eC,zm,zk,zj,xr,e0,e1,e2',sv,gz (HS _),gz (show lfs []=true from rfl),qm,qx,av,vh,zr,zg,zq,zt,hbr,ea,eb,jx,Vb,W7,Xs,KW,zl,ga,hb,qv,lfs,vf,el,wa]
 | .none,0,h,_,_=>by exact absurd ‹_› (cE _)
 | .one,0,h,_,_=>by exact absurd ‹_› (cE _)
 | .name _,0,h,_,_=>by exact absurd ‹_› (cE _)
 | .either a b,0,h,_,_=>by exact absurd ‹_› (cE _)
 | .both a b,0,h,_,_=>by exact absurd ‹_› (cE _)
theorem s9(k:Kd)(n:Nat)(hn:k.lg < n)(h8:k.lg<=63)(hF:K8 k):u9 (n+1) [zj k]=YW (.ok (wa (lb k))):=by
 show z7 1 (CF (j6 n)) [zj k]=_
 have e:=ie k n hn h8 hF
 have hs:=AF (rs:=ga k) (by have:=JB k hF;omega)
 rw [Rj] at hs
 simp [z7,CF,zr,fe,e1,zg,zq,za,zt,zm,zk,e,jx,hs]
theorem Ka:∀ ns:List Int,plains (ns.map .int)=true
 | []=>rfl
 | n::ns=>by simp [plains,plain,Ka ns]
theorem Nc(r:List Int):plain (qu r)=true:=by simp [qu,plain,Ka]
theorem B0:∀ rs:List (List Int),plains (rs.map qu)=true
 | []=>rfl
 | r::rs=>by simp [plains,Nc,B0 rs]
theorem Mt:∀ ns:List Int,Zs (ns.map .int)=0
 | []=>rfl
 | n::ns=>by simp [Zs,ZA,Mt ns]
theorem HH:∀ rs:List (List Int),Zs (rs.map qu)<=1
 | []=>by simp [Zs]
 | r::rs=>by
  have:=HH rs
  simp [Zs,qu,ZA,Mt] at *
  omega
theorem Qm(rs:List (List Int)):vh (wa rs) (wa rs)=YW true:=by
 have h:ij (wa rs) (wa rs)=true:=by
  have hd:=HH rs
  simp only [ij,wa,Zw,plains_lay _ (B0 rs),Zn,decide_eq_true_eq,ZA,true_and]
  omega
 have hq:Zm (wa rs) (wa rs)=true:=by simpa [wa,Zm] using plains_eqv _ (B0 rs)
 unfold wa at h hq ⊢
 simp only [vh,h,if_true,hq]
theorem DX:∀ (r:vm) (k:Kd),A0 k r=df k r
 | [],k=>rfl
 | t::r,k=>by
  simp only [A0,df]
  cases j7 k t.1 t.2 with
  | none=>rfl
  | some c=>exact DX r c
theorem TH(r:vm):j9 [] r=u3 r:=rfl
theorem Fi:∀ (r:vm) (k c:Kd),df k r=YW c->sE k<=40->Gn r
 | [],k,c,_,_=>λt ht=>by cases ht
 | (w,p)::r,k,c,h,hs=>λt ht=>by
  simp only [df] at h
  cases e:j7 k w p with
  | none=>rw [e] at h;cases h
  | some d=>
   rw [e] at h
   rcases ZP.mp ht with rfl | ht
   ·obtain ⟨x,y,hp,_,_⟩:=mq e
    have:=AY p k x hp
    have:=vv k
    show p.length<=900
    omega
   ·exact Fi r d c h (Zo (Ox e).2 hs) t ht
structure Along(z:Sz)(k c:Kd)(r:vm):Prop where
 cn:dk z c=dk z k
 ok:k.Ok->c.Ok
 fw:∀ t,jo z k t->jo z c (iu k r t)
 inj:∀ t u,jo z k t->jo z k u->iu k r t=iu k r u->t=u
 bw:∀ u,jo z c u->∃ t,jo z k t/\iu k r t=u
theorem BU{z:Sz}:∀ (r:vm) (k c:Kd),df k r=YW c->Along z k c r
 | [],k,c,h=>by cases h;exact ⟨rfl,id,λ_ h=>h,λ_ _ _ _ h=>h,λu h=>⟨u,h,rfl⟩⟩
 | (w,p)::r,k,c,h=>by
  simp only [df] at h
  cases e:j7 k w p with
  | none=>rw [e] at h;cases h
  | some d=>
   rw [e] at h
   have T:Turns z k d w p:=Ou e
   have A:=BU (z:=z) r d c h
   have hc:∀ t,iu k ((w,p)::r) t=iu d r (Ax k w p t):=λt=>by simp only [iu,e]
   refine ⟨A.cn.trans T.cn,λo=>A.ok (T.ok o),λt ht=>?_,λt u ht hu q=>?_,λu hu=>?_⟩
   ·rw [hc];exact A.fw _ (T.fw t ht)
   ·rw [hc,hc] at q;exact T.inj t u ht hu (A.inj _ _ (T.fw t ht) (T.fw u hu) q)
   ·obtain ⟨v,hv,rfl⟩:=A.bw u hu
    obtain ⟨t,ht,rfl⟩:=T.bw v hv
    exact ⟨t,ht,hc t⟩
theorem Rh{z:Sz}(n:Nat)(a b:Kd)(ha:sE a<=8)(hb:sE b<=8)(hl:lb a=lb b)(h18:(lb a).length<=18)(hFa:K8 a)(hFb:K8 b):
  ∃ f:Th->Th,(∀ t,jo z a t->jo z b (f t)/\xb (n+64) [zj a,zj b,zh t]=YW (.ok (zh (f t))))/\(∀ t u,jo z a t->jo z a u->f t=f u->t=u)/\
   (∀ t,jo z a t->xb (n+64) [zj b,zj a,zh (f t)]=YW (.ok (zh t)))/\dk z b=dk z a:=by
 have la:=vv a
 have lb':=vv b
 obtain ⟨r1,p1,p2,p3⟩:=Am a (n+63) (by omega) h18 (by omega)
 obtain ⟨r2,q1,q2,q3⟩:=Am b (n+63) (by omega) (by rw [<- hl];exact h18) (by omega)
 rw [<- hl] at q2
 have A1:=BU (z:=z) r1 a _ p2
 have A2:=BU (z:=z) r2 b _ q2
 have s1:=Fi r1 a _ p2 (by omega)
 have s2:=Fi r2 b _ q2 (by omega)
 have b1:=s9 a (n+62) (by omega) (by omega) hFa
 have b2:=s9 b (n+62) (by omega) (by omega) hFb
 rw [<- hl] at b2
 have hne:Ir (wa (lb a)) (wa (lb a))=YW (.bool false):=by unfold Ir;rw [Qm];rfl
 rw [TH] at p1 q1
 have run:∀ (x y:Kd) (r r':vm) (t u v:Th),u9 (n+63) [zj x]=YW (.ok (wa (lb a)))->u9 (n+63) [zj y]=YW (.ok (wa (lb a)))->w6 (n+63) [zj x]=YW (.ok (.list (u3 r)))->w6 (n+63) [zj y]=YW (.ok (.list (u3 r')))->
   u6 (n+63) [zj x,.list (u3 r),zh t]=YW (.ok (zh u))->af (n+63) [zj y,.list (u3 r'),zh u]=YW (.ok (zh v))->xb (n+64) [zj x,zj y,zh t]=YW (.ok (zh v)):=λx y r r' t u v c1 c2 c3 c4 c5 c6=>by
  have lv:=fj v
  show z7 3 (Ft (af (n+63)) (w6 (n+63)) (u6 (n+63)) (u9 (n+63))) _=_
  generalize wa (lb a)=RD at *
  generalize gD (u3 r)=R1 at *
  generalize gD (u3 r')=R2 at *
  simp [z7,Ft,zd,qm,An,e2,zg,zq,za,zt,zm,zk,c1,c2,c3,c4,c5,c6,jx,hne,zl,zr,lv]
 have car:∀ (x c:Kd) (r:vm) (t:Th),df x r=YW c->Gn r->jo z x t->u6 (n+63) [zj x,.list (u3 r),zh t]=YW (.ok (zh (iu x r t))):=λx c r t hg hs hf=>by
  have:=LC (n+59) x r t hs hf
  rw [DX,hg] at this
  exact this
 have back:∀ t,∃ u,jo z a t->jo z b u/\iu b r2 u=iu a r1 t:=λt=>by
  by_cases h:jo z a t
  ·obtain ⟨u,hu,e⟩:=A2.bw _ (A1.fw t h);exact ⟨u,λ_=>⟨hu,e⟩⟩
  ·exact ⟨t,λq=>absurd q h⟩
 refine ⟨λt=>eI (back t),λt ht=>?_,λt u ht hu q=>?_,λt ht=>?_,A2.cn.symm.trans A1.cn⟩
 ·have sp:=eS (back t) ht
  show jo z b (eI (back t))/\xb (n+64) [zj a,zj b,zh t]=YW (.ok (zh (eI (back t))))
  generalize eI (back t)=u at sp
  refine ⟨sp.1,run a b r1 r2 t (iu a r1 t) u b1 b2 p1 q1 (car a _ r1 t p2 s1 ht) ?_⟩
  rw [<- sp.2]
  exact Fh (n+59) b _ r2 u s2 sp.1 (by omega) (by rw [DX];exact q2)
 ·have s3:=eS (back t) ht
  have s4:=eS (back u) hu
  simp only at q
  rw [q] at s3
  exact A1.inj t u ht hu (s3.2.symm.trans s4.2)
 ·have sp:=eS (back t) ht
  show xb (n+64) [zj b,zj a,zh (eI (back t))]=_
  generalize eI (back t)=u at sp
  refine run b a r2 r1 u (iu b r2 u) t b2 b1 q1 p1 (car b _ r2 u q2 s2 sp.1) ?_
  rw [sp.2]
  exact Fh (n+59) a _ r1 t s1 ht (by omega) (by rw [DX];exact p2)
theorem QI(n:Nat)(a b:Kd)(d:YX)(ha:a.lg<=60)(hb:b.lg<=60)(hFa:K8 a)(hFb:K8 b)(hl:lb a≠lb b)(hq:Ir (wa (lb a)) (wa (lb b))=YW (.bool true)):xb (n+64) [zj a,zj b,d]=YW (.exc 5):=by
 have b1:=s9 a (n+62) (by omega) (by omega) hFa
 have b2:=s9 b (n+62) (by omega) (by omega) hFb
 show z7 3 (Ft (af (n+63)) (w6 (n+63)) (u6 (n+63)) (u9 (n+63))) _=_
 generalize wa (lb a)=RD at *
 generalize wa (lb b)=RE at *
 simp [z7,Ft,zd,qm,An,e2,zg,zq,za,zt,zm,zk,b1,b2,jx,hq,Aj]
noncomputable def Ej:Option Kd->YX
 | some k=>zj k
 | none=>.none
theorem R9{k:Kd}(h:Ki k=true):xx (zj k)=YW (.int 3):=by cases k<;>first | rfl | cases h
theorem IE{k:Kd}(h:Ki k=false):∃ m:Int,xx (zj k)=YW (.int m)/\decide (m < 3)=true:=by cases k<;>first | exact ⟨_,rfl,rfl⟩ | cases h
theorem Tp(i j:Int):Ih (.int i) (.int j)=YW (.bool (decide (i < j))):=rfl
theorem QY(x y:Z3)(hx:aJ x=true)(hy:aJ y=true):W0 (.tuple [.str x,.str y]) (.tuple [.tuple [.str "both",.str "one"],.tuple [.str "either",.str "none"]])=
  YW (.bool ((("both":Z3) == x && ("one":Z3) == y) || (("either":Z3) == x && ("none":Z3) == y))):=by
 have h1:Cr (.tuple [.str x,.str y]) [.tuple [.str "both",.str "one"],.tuple [.str "either",.str "none"]]=true:=by
  simp [Cr,Zw,Zg,hx,hy,Ed,K9,Ba,Hb,ZA,Zs]
 simp [W0,Ep,h1,Zm,ZW]
theorem YO:(("none":Z3) == "name")=false:=by decide +kernel
theorem YI:(("one":Z3) == "name")=false:=by decide +kernel
noncomputable def Mw:FS:=(zd (qm (qx (za 1) (eC (.str "swap"))) (zr (zv [z9 (za 0) (eC (.int 0)),za 3,za 2])) zl) (zd (qm (yv (qx (za 1) (eC (.str "group"))) (qx (z9 (za 2) (eC (.int 0))) (z9 (za 0) (eC (.int 0))))) (zr (zv [z9 (za 0) (eC (.int 0)),z9 (za 2) (eC (.int 1)),zv [z9 (za 0) (eC (.int 0)),z9 (za 2) (eC (.int 2)),za 3]])) zl) (zd (qm (yv (qx (za 1) (eC (.str "spread"))) (yv (qx (z9 (za 0) (eC (.int 0))) (eC (.str "both"))) (qx (z9 (za 3) (eC (.int 0))) (eC (.str "either"))))) (zr (zv [eC (.str "either"),zv [eC (.str "both"),za 2,z9 (za 3) (eC (.int 1))],zv [eC (.str "both"),za 2,z9 (za 3) (eC (.int 2))]])) zl) (zd (qm (yv (qx (za 1) (eC (.str "drop"))) (yv (qx (z9 (za 0) (eC (.int 0))) (eC (.str "both"))) (qx (z9 (za 2) (eC (.int 0))) (eC (.str "none"))))) (zr (zv [eC (.str "none")])) zl) (zd (qm (yv (qx (za 1) (eC (.str "drop"))) (Kj (zv [z9 (za 0) (eC (.int 0)),z9 (za 2) (eC (.int 0))]) (zv [zv [eC (.str "both"),eC (.str "one")],zv [eC (.str "either"),eC (.str "none")]]))) (zr (za 3)) zl) (zr (eC .none)))))))
theorem JD(n:Nat)(w:Z3)(k:Kd):vz (n+1) [zj k,.str w]=YW (.ok (Ej (wg w k))):=by
 show z7 4 bx [zj k,.str w]=_
 cases hi:Ki k with
 | false=>
  obtain ⟨m,e1',e2'⟩:=IE hi
  rw [Gm w k hi]
  have e2'':m < 3:=of_decide_eq_true e2'
  refine AW (b:=bx) ?_
  unfold bx
  refine (bg (l:=2) ?_).trans rfl
  simp [pq,e2,jr,e1,za,eC,zm,e1',Tp,e2'']
 | true=>
  obtain ⟨a,b,e,hk⟩:∃ a b,zj k= .tuple [.str (hd k),zj a,zj b]/\(k= .either a b∨k= .both a b):=by
   cases k with
   | either a b=>exact ⟨a,b,rfl,.inl rfl⟩
   | both a b=>exact ⟨a,b,rfl,.inr rfl⟩
   | none=>cases hi
   | one=>cases hi
   | name _=>cases hi
  have i3:Mw [YW (.par (zj k)),YW (.par (.str w)),YW (.loc (zj a)),YW (.loc (zj b))]=YW (.ret (Ej (wg w k)))->z7 4 bx [zj k,.str w]=YW (.ok (Ej (wg w k))):=λh=>by
   have el:=R9 hi
   refine AW (b:=bx) ?_
   have eb:bx=zd (qm (pq (jr (za 0)) (eC (.int 3))) (zr (eC .none)) zl) (zd (zo 2 (z9 (za 0) (eC (.int 1)))) (zd (zo 3 (z9 (za 0) (eC (.int 2)))) Mw)):=rfl
   rw [eb]
   refine (q8 (l:=2) ?_).trans (Eq.trans ?_ h)
   ·simp [pq,e2,jr,e1,za,eC,zm,el,Tp]
   ·generalize Mw=RH
    have e1':xr (zj k) (.int 1)=YW (zj a):=by rw [e];exact xg _ _ _
    have e2':xr (zj k) (.int 2)=YW (zj b):=by rw [e];exact Cb _ _ _ _
    simp [zd,zo,z9,e2,za,eC,zm,zk,e1',e2',yr,qk]
  refine i3 ?_
  have v0:za 0 [YW (.par (zj k)),YW (.par (.str w)),YW (.loc (zj a)),YW (.loc (zj b))]=YW (.ok 0 (zj k)):=rfl
  have v1:za 1 [YW (.par (zj k)),YW (.par (.str w)),YW (.loc (zj a)),YW (.loc (zj b))]=YW (.ok 0 (.str w)):=rfl
  have v2:za 2 [YW (.par (zj k)),YW (.par (.str w)),YW (.loc (zj a)),YW (.loc (zj b))]=YW (.ok 1 (zj a)):=rfl
  have v3:za 3 [YW (.par (zj k)),YW (.par (.str w)),YW (.loc (zj a)),YW (.loc (zj b))]=YW (.ok 1 (zj b)):=rfl
  generalize [YW (Slot.par (zj k)),YW (.par (.str w)),YW (.loc (zj a)),YW (.loc (zj b))]=R at v0 v1 v2 v3
  have vC:∀ s:Z3,eC (.str s) R=YW (.ok 2 (.str s)):=λs=>rfl
  have k0:=Pt v0 (i:=0) (ix k)
  have a0:=Pt v2 (i:=0) (ix a)
  have b0:=Pt v3 (i:=0) (ix b)
  have hp:=QY (hd k) (hd a) (LH k) (LH a)
  have iR:∀ r:Bool,((("both":Z3) == hd k && ("one":Z3) == hd a) || (("either":Z3) == hd k && ("none":Z3) == hd a))=r->Kj (zv [z9 (za 0) (eC (.int 0)),z9 (za 2) (eC (.int 0))]) (zv [zv [eC (.str "both"),eC (.str "one")],zv [eC (.str "either"),eC (.str "none")]]) R=YW (.ok 2 (.bool r)):=λr h=>by
   rw [h] at hp
   simp only [Kj,e2,zv,zq,k0,a0,eC,zt,zm,hp,fW,if_true]
  unfold Mw
  rcases n5 w with rfl | rfl | rfl | rfl | ⟨h1,h2,h3,h4⟩
  ·rw [bg (ck v1 (vC _) (by simp)),vi]
   refine (EC (Iv k0 v3 v2) ?_).trans ?_
   ·simp [lf,lfs,qk]
   ·rcases hk with rfl | rfl<;>rfl
  ·rw [q8 (ck v1 (vC _) Od),yg]
   cases hg:kh k with
   | some k'=>
    unfold kh at hg
    have gw:=ck v1 (vC _) (beq_self_eq_true ("group":Z3))
    split at hg
    ·rcases hk with hk | hk<;>cases hk
     cases hg
     rw [bg ((ak gw).trans (ck a0 k0 (by simp [hd])))]
     exact EC (Iv k0 (Pt v2 (xg _ _ _)) (Iv k0 (Pt v2 (Cb _ _ _ _)) v3)) (qk _)
    ·rcases hk with hk | hk<;>cases hk
     cases hg
     rw [bg ((ak gw).trans (ck a0 k0 (by simp [hd])))]
     exact EC (Iv k0 (Pt v2 (xg _ _ _)) (Iv k0 (Pt v2 (Cb _ _ _ _)) v3)) (qk _)
    ·cases hg
   | none=>
    have hh:(hd a == hd k)=false:=by
     rcases hk with rfl | rfl<;>cases a<;>simp only [hd,V1,V4,Wa,KW,X4,Xq,XH,Gv]<;>simp [kh] at hg
    rw [q8 ((ak (ck v1 (vC _) (beq_self_eq_true ("group":Z3)))).trans (ck a0 k0 hh)),q8 (AC (ck v1 (vC _) YF)),q8 (AC (ck v1 (vC _) Yy)),q8 (AC (ck v1 (vC _) Yy))]
    rfl
  ·rw [q8 (ck v1 (vC _) Oh),q8 (AC (ck v1 (vC _) Og)),wx]
   have gw:=ck v1 (vC _) (beq_self_eq_true ("spread":Z3))
   cases hg:yt k with
   | some k'=>
    unfold yt at hg
    split at hg
    ·rcases hk with hk | hk<;>cases hk
     cases hg
     rw [bg ((ak gw).trans ((ak (ck k0 (vC _) (by simp [hd]))).trans (ck b0 (vC _) (by simp [hd]))))]
     exact EC (Iv (vC _) (Iv (vC _) v2 (Pt v3 (xg _ _ _))) (Iv (vC _) v2 (Pt v3 (Cb _ _ _ _)))) (qk _)
    ·cases hg
   | none=>
    have hh:(hd k == "both" && hd b == "either")=false:=by
     rcases hk with rfl | rfl
     ·simp only [hd,Gv,iN]
     ·cases b<;>simp only [hd,V1,V4,Wa,KW]<;>first | (simp [yt] at hg;done) | simp
    have hc:yv (qx (z9 (za 0) (eC (.int 0))) (eC (.str "both"))) (qx (z9 (za 3) (eC (.int 0))) (eC (.str "either"))) R=YW (.ok 2 (.bool false)):=by
     cases hb:hd k == "both" with
     | false=>exact AC (ck k0 (vC _) hb)
     | true=>rw [hb,bI] at hh;exact (ak (ck k0 (vC _) hb)).trans (ck b0 (vC _) hh)
    rw [q8 ((ak gw).trans hc),q8 (AC (ck v1 (vC _) Y5)),q8 (AC (ck v1 (vC _) Y5))]
    rfl
  ·rw [q8 (ck v1 (vC _) Oc),q8 (AC (ck v1 (vC _) Of)),q8 (AC (ck v1 (vC _) LZ)),yd]
   have gw:=ck v1 (vC _) (beq_self_eq_true ("drop":Z3))
   rcases hk with rfl | rfl
   ·rw [q8 ((ak gw).trans (AC (ck k0 (vC _) Gv)))]
    cases a with
    | none=>rw [bg ((ak gw).trans (iR _ (by simp [hd,KW])))];exact EC v3 (qk _)
    | one=>rw [q8 ((ak gw).trans (iR _ (by simp [hd,KW,Wx])))];rfl
    | name i=>rw [q8 ((ak gw).trans (iR _ (by simp [hd,KW,YO])))];rfl
    | either _ _=>rw [q8 ((ak gw).trans (iR _ (by simp [hd,KW,V1])))];rfl
    | both _ _=>rw [q8 ((ak gw).trans (iR _ (by simp [hd,KW,X4])))];rfl
   ·have kb:=ck k0 (vC "both") (show (hd (.both a b) == "both")=true by simp [hd])
    cases a with
    | none=>rw [bg ((ak gw).trans ((ak kb).trans (ck a0 (vC _) (by simp [hd]))))];rfl
    | one=>rw [q8 ((ak gw).trans ((ak kb).trans (ck a0 (vC _) Um))),bg ((ak gw).trans (iR _ (by simp [hd])))];exact EC v3 (qk _)
    | name i=>rw [q8 ((ak gw).trans ((ak kb).trans (ck a0 (vC _) V0))),q8 ((ak gw).trans (iR _ (by simp [hd,Gv,YI])))];rfl
    | either _ _=>rw [q8 ((ak gw).trans ((ak kb).trans (ck a0 (vC _) Uz))),q8 ((ak gw).trans (iR _ (by simp [hd,Gv,V4])))];rfl
    | both _ _=>rw [q8 ((ak gw).trans ((ak kb).trans (ck a0 (vC _) Vb))),q8 ((ak gw).trans (iR _ (by simp [hd,Gv,Xq])))];rfl
  ·rw [q8 (ck v1 (vC _) h1),q8 (AC (ck v1 (vC _) h2)),q8 (AC (ck v1 (vC _) h3)),q8 (AC (ck v1 (vC _) h4)),q8 (AC (ck v1 (vC _) h4)),ue w k ⟨h1,h2,h3,h4⟩]
   rfl
theorem Ip(p:List Int)(h:p.length<=90000):av (zw p) (.tuple [])=YW (.bool p.isEmpty):=by
 have h1:ij (zw p) (.tuple [])=true:=by
  simp [ij,bf,Zw,Zg,ZA,Zs];omega
 cases p<;>simp [av,vh,h1,Zm,ZW,zw]<;>simp [zw] at h1<;>simp [h1]
theorem Sq(s:Int)(p:List Int):Vy (YW 1) YY (zw (s::p))=YW (zw p):=by
 have h:lfs ((s::p).map eB)=true:=xw _
 show (if lfs ((s::p).map eB)=true then _ else _)=_
 rw [jn h]
 simp [L6,V2,zw]
 exact List.take_of_length_le (by simp)
theorem QU(s:Int)(p:List Int):xr (zw (s::p)) (.int 0)=YW (.int s):=Xu _ _
theorem Mv:∀ (p:List Int) (n:Nat) (k x y:Kd),p.length < n->p.length<=900->ql k p=YW y->fx n [zj k,zw p,zj x]=YW (.ok (zj (wb k p x)))
 | [],n+1,k,x,y,_,_,_=>by
  show z7 4 (mi (fx n)) [zj k,zw [],zj x]=_
  have h:=Ip [] (by simp)
  simp [z7,mi,zd,qm,qx,e2,za,zv,zq,zt,zm,zk,h,zr,qk,wb]
 | s::p,n+1,k,x,y,hn,hl,hp=>by
  simp only [Zj] at hn hl
  simp only [ql] at hp
  cases hs:jd k s with
  | none=>rw [hs] at hp;cases hp
  | some c=>
   rw [hs] at hp
   have ih:=Mv p n c x y (by exact bJ ‹_›) (by exact ZX ‹_›) hp
   obtain ⟨h1,h2,h3,h4⟩:=ny hs
   show z7 4 (mi (fx n)) [zj k,zw (s::p),zj x]=_
   have h:=Ip (s::p) (by simp;omega)
   have hq:=Sq s p
   have ha:=QU s p
   obtain ⟨a,b,e1',e2'⟩:∃ a b,zj k= .tuple [.str (hd k),zj a,zj b]/\zj (wb k (s::p) x)=if s=0 then .tuple [.str (hd k),zj (wb c p x),zj b] else .tuple [.str (hd k),zj a,zj (wb c p x)]:=by
    cases k with
    | either a b=>
     refine ⟨a,b,rfl,?_⟩
     simp only [jd] at hs
     simp only [wb]
     split at hs
     ·rename_i h0;cases hs;rw [jn h0,jn h0];rfl
     ·rename_i h0
      split at hs
      ·cases hs;rw [qz h0,qz h0];rfl
      ·cases hs
    | both a b=>
     refine ⟨a,b,rfl,?_⟩
     simp only [jd] at hs
     simp only [wb]
     split at hs
     ·rename_i h0;cases hs;rw [jn h0,jn h0];rfl
     ·rename_i h0
      split at hs
      ·cases hs;rw [qz h0,qz h0];rfl
      ·cases hs
    | none=>cases hs
    | one=>cases hs
    | name _=>cases hs
   rw [e2']
   rw [e1'] at h1 ⊢
   rcases h3 with rfl | rfl
   ·rw [jn rfl]
    have hac:zj a=zj c:=ZS ((xg _ _ _).symm.trans h1)
    simp [hac,z7,mi,zd,qm,qx,e2,za,zv,zq,zt,zm,zk,h,zl,zo,zg,z9,eC,ha,qt,Fp,bc,xg,Cb,Tz,BQ,D5,hq,ih,jx,yr,qk,nu,zr,lf,lfs]
   ·rw [qz (by decide)]
    have hac:zj b=zj c:=ZS ((Cb _ _ _ _).symm.trans h1)
    simp [hac,z7,mi,zd,qm,qx,e2,za,zv,zq,zt,zm,zk,h,zl,zo,zg,z9,eC,ha,qt,Fp,bc,xg,Cb,Tz,BQ,D5,hq,ih,jx,yr,qk,nu,zr,lf,lfs]
noncomputable def Ds:FS:=(zo 0 (z9 (za 0) (qt (eC (.int 1)) (za 2))))
theorem Fg(x1:Option Slot):∀ (p:List Int) (k k':Kd) (x2:Option Slot) (y:YX->Slot) (_:∀ d,y d= .par d∨y d= .loc d),ql k p=YW k'->
  ∃ y',(y'= .par (zj k')∨y'= .loc (zj k'))/\∃ x2',qy (z8 2) Ds (p.map .int) [YW (y (zj k)),x1,x2]=YW (.next [YW y',x1,x2'])
 | [],k,k',x2,y,hy,h=>by simp only [ql] at h;cases h;exact ⟨_,hy _,_,rfl⟩
 | s::p,k,k',x2,y,hy,h=>by
  simp only [ql] at h
  cases hs:jd k s with
  | none=>rw [hs] at h;cases h
  | some c=>
   rw [hs] at h
   obtain ⟨h1,_,_,_⟩:=ny hs
   have e:Ds [YW (y (zj k)),x1,YW (.loc (.int s))]=YW (.next [YW (.loc (zj c)),x1,YW (.loc (.int s))]):=by
    rcases hy (zj k) with q | q<;>rw [q]<;>simp [Ds,zo,z9,e2,za,eC,qt,il,zm,zk,h1,yr,qk]
   have go:qy (z8 2) Ds ((s::p).map .int) [YW (y (zj k)),x1,x2]=qy (z8 2) Ds (p.map .int) _:=fh (tg:=z8 2) (d:=.int s) rfl e
   rw [go]
   exact Fg x1 p c k' _ Slot.loc (λ_=>.inr rfl) h
theorem Ck(n:Nat)(k k':Kd)(p:List Int)(h:ql k p=YW k'):wo (n+1) [zj k,zw p]=YW (.ok (zj k')):=by
 have e:BA=zd (vf 1 (z8 2) Ds) (zr (za 0)):=rfl
 show z7 3 BA [zj k,zw p]=_
 rw [e]
 obtain ⟨y',hy',x2',q⟩:=Fg (YW (.par (zw p))) p k k' YY Slot.par (λ_=>.inl rfl) h
 simp only [zw] at q
 rcases hy' with rfl | rfl<;>simp [z7,zd,vf,zw,xw,q,zr,za,zk,qk]
noncomputable def pre:Kd->List Int->List (List Int)
 | .either a b,p=>p::(pre a (p++[0])++pre b (p++[1]))
 | .both a b,p=>p::(pre a (p++[0])++pre b (p++[1]))
 | .none,p=>[p]
 | .one,p=>[p]
 | .name _,p=>[p]
noncomputable def i5:List (Kd×List Int)->Nat
 | []=>0
 | x::ws=>2 * x.1.lg - 1+i5 ws
theorem Bh:∀ xs ys,i5 (xs++ys)=i5 xs+i5 ys
 | [],_=>by simp [i5]
 | x::xs,ys=>by simp [i5,Bh xs ys,gV]
theorem Gi:∀ xs,xs.length<=i5 xs
 | []=>by simp [i5]
 | x::xs=>by have:=x.1.pos;have:=Gi xs;simp [i5];omega
noncomputable def F8(ws:List (Kd×List Int)):List YX:=(ws.reverse.flatMap λx=>pre x.1 x.2).map zw
noncomputable def As(ws:List (Kd×List Int)):List YX:=ws.map λx=>zw x.2
theorem OC:∀ ws,Zg (As ws)=true
 | []=>rfl
 | x::ws=>by
  have:=OC ws
  have h:As (x::ws)=zw x.2::As ws:=rfl
  rw [h]
  simp [Zg,Zw,zw,C1,this]
noncomputable def HN:FE:=(An (za 2) (qv []))
noncomputable def CG(n:Nat):FS:=(zd (Np 3 2) (zd (yz 1 (za 3)) (qm (qx (jr (zg (wo n) [za 0,za 3])) (eC (.int 3))) (ug 2 (qv [qt (za 3) (zv [eC (.int 1)]),qt (za 3) (zv [eC (.int 0)])])) zl)))
theorem Hi(a b:Option Slot)(xs:List YX)(x:Option Slot)(h:Zg xs=true):HN [a,b,YW (.own xs),x]=YW (.ok 2 (.bool (!xs.isEmpty))):=by
 simp [HN,An,e2,za,qv,zq,zt,zm,lfs,K7 xs h]
noncomputable def NP:Kd->Bool
 | .either _ _=>true
 | .both _ _=>true
 | _=>false
noncomputable def UH:Kd->Int
 | .either _ _=>3
 | .both _ _=>3
 | .name _=>2
 | _=>1
theorem LJ(k:Kd):xx (zj k)=YW (.int (UH k)):=by cases k<;>rfl
theorem Ss{k:Kd}(h:NP k=true):UH k=3:=by cases k<;>first | rfl | cases h
theorem NC{k:Kd}(h:NP k=false):(UH k == 3)=false:=by cases k<;>first | rfl | cases h
theorem RV(n:Nat)(K0 k:Kd)(fs:List YX)(ws:List YX)(p:List Int)(x3:Option Slot)(hk:ql K0 p=YW k)(hi:NP k=false)(hf:fs.length<=1000):
  CG (n+1) [YW (.par (zj K0)),YW (.own fs),YW (.own (ws++[zw p])),x3]=YW (.next [YW (.par (zj K0)),YW (.own (fs++[zw p])),YW (.own ws),YW (.loc (zw p))]):=by
 have hb:fs.length < big:=by unfold big;omega
 have hl:lf (zw p)=true:=by simp [zw,lf,xw]
 have he:=Ck n K0 k p hk
 have hn:=LJ k
 have h3:=NC hi
 simp [CG,zd,Np,yz,za,zk,hl,hb,qm,qx,e2,jr,e1,zg,zq,zt,zm,he,jx,hn,eC,av,vh,h3,zl]
theorem VA(n:Nat)(K0 k:Kd)(fs:List YX)(ws:List YX)(p:List Int)(x3:Option Slot)(hk:ql K0 p=YW k)(hi:NP k=true)(hf:fs.length<=1000)(hw:ws.length<=1000)(hp:p.length<=100):
  CG (n+1) [YW (.par (zj K0)),YW (.own fs),YW (.own (ws++[zw p])),x3]=YW (.next [YW (.par (zj K0)),YW (.own (fs++[zw p])),YW (.own (ws++[zw (p++[1]),zw (p++[0])])),YW (.loc (zw p))]):=by
 have hb:fs.length < big:=by unfold big;omega
 have hb2:ws.length+2<=big:=by unfold big;omega
 have hl:∀ q,lf (zw q)=true:=λq=>by simp [zw,lf,xw]
 have he:=Ck n K0 k p hk
 have hn:=LJ k
 rw [Ss hi] at hn
 simp [CG,zd,Np,yz,za,zk,hl,hb,qm,qx,e2,jr,e1,zg,zq,zt,zm,he,jx,hn,eC,av,vh,ug,qv,qt,zv,vd p _ (by omega),lfs,hb2]
theorem HC(n:Nat)(K0:Kd):∀ (fuel:Nat) (ws:List (Kd×List Int)) (fs:List YX) (x3:Option Slot),(∀ x∈ws,ql K0 x.2=YW x.1/\x.2.length+x.1.lg<=100)->i5 ws < fuel->fs.length+i5 ws<=1000->
  ∃ x3',gu HN (CG (n+1)) fuel [YW (.par (zj K0)),YW (.own fs),YW (.own (As ws)),x3]=YW (.next [YW (.par (zj K0)),YW (.own (fs++F8 ws)),YW (.own []),x3'])
 | 0,_,_,_,_,h,_=>by exact absurd ‹_› (cE _)
 | fuel+1,ws,fs,x3,hall,hfu,hsz=>by
  rcases List.eq_nil_or_concat ws with rfl | ⟨ws,⟨k,p⟩,rfl⟩
  ·exact ⟨x3,by simp [gu,Hi _ _ _ _ (OC []),zk,As,F8];rw [Hi _ _ _ _ rfl];simp⟩
  ·rw [List.concat_eq_append] at *
   obtain ⟨hk,lq⟩:=hall (k,p) (by simp)
   simp only at hk lq
   have hrest:∀ x∈ws,ql K0 x.2=YW x.1/\x.2.length+x.1.lg<=100:=λx hx=>hall x (by simp [hx])
   rw [Bh] at hfu hsz
   simp only [i5] at hfu hsz
   have hpos:=k.pos
   have hwl:=Gi ws
   have hwl':(As ws).length<=1000:=by simp [As];omega
   have hne:(As (ws++[(k,p)])).isEmpty=false:=by simp [As]
   have ew:As (ws++[(k,p)])=As ws++[zw p]:=by simp [As]
   unfold gu
   rw [Hi _ _ _ _ (OC _),hne,ew]
   by_cases hi:NP k=true
   ·have t:=VA n K0 k fs (As ws) p x3 hk hi (by exact Zq ‹_›) hwl' (by exact Zq ‹_›)
    obtain ⟨a,b,hab,hpre⟩:∃ a b,k.lg=a.lg+b.lg/\(∀ q,pre k q=q::(pre a (q++[0])++pre b (q++[1])))/\(ql k [0]=YW a/\ql k [1]=YW b):=by
     cases k with
     | either a b=>exact ⟨a,b,rfl,λq=>rfl,by simp [ql,jd],by simp [ql,jd]⟩
     | both a b=>exact ⟨a,b,rfl,λq=>rfl,by simp [ql,jd],by simp [ql,jd]⟩
     | none=>cases hi
     | one=>cases hi
     | name _=>cases hi
    obtain ⟨hpre,ha,hb⟩:=hpre
    have pa:=a.pos
    have pb:=b.pos
    obtain ⟨x3',e⟩:=HC n K0 fuel (ws++[(b,p++[1]),(a,p++[0])]) (fs++[zw p]) (YW (.loc (zw p))) (λx hx=>by
     rcases aO.mp hx with hx | hx
     ·exact hrest x hx
     ·simp only [ZP,List.not_mem_nil,or_false] at hx
      rcases hx with rfl | rfl
      ·exact ⟨by show ql K0 (p++[1])=YW b;rw [CU,hk];exact hb,by show (p++[1]).length+b.lg<=100;simp;omega⟩
      ·exact ⟨by show ql K0 (p++[0])=YW a;rw [CU,hk];exact ha,by show (p++[0]).length+a.lg<=100;simp;omega⟩) (by rw [Bh];simp only [i5];omega) (by rw [Bh];simp only [i5,Za,Zy];omega)
    refine ⟨x3',?_⟩
    have e1':As (ws++[(b,p++[1]),(a,p++[0])])=As ws++[zw (p++[1]),zw (p++[0])]:=by simp [As]
    have e2':fs++[zw p]++F8 (ws++[(b,p++[1]),(a,p++[0])])=fs++F8 (ws++[(k,p)]):=by simp [F8,hpre]
    rw [e1',e2'] at e
    simp only [zk,iV,t]
    exact e
   ·have hi':NP k=false:=by simpa using hi
    have t:=RV n K0 k fs (As ws) p x3 hk hi' (by exact Zq ‹_›)
    have hpre:pre k p=[p]:=by cases k<;>first | rfl | cases hi'
    obtain ⟨x3',e⟩:=HC n K0 fuel ws (fs++[zw p]) (YW (.loc (zw p))) hrest (by omega) (by simp only [Za,Zy];omega)
    refine ⟨x3',?_⟩
    have e2':fs++[zw p]++F8 ws=fs++F8 (ws++[(k,p)]):=by simp [F8,hpre]
    rw [e2'] at e
    simp only [zk,iV,t]
    exact e
theorem En(n:Nat)(k:Kd)(h:k.lg<=50):jm (n+2) [zj k]=YW (.ok (.list ((pre k []).map zw))):=by
 have e:AE (wo (n+1))=zd (zo 1 (qv [])) (zd (zo 2 (qv [zv []])) (zd (Bu HN (CG (n+1))) (zr (za 1)))):=rfl
 show z7 4 (AE (wo (n+1))) [zj k]=_
 rw [e]
 obtain ⟨x3',q⟩:=HC n k G7 [(k,[])] [] YY (λx hx=>by simp at hx;subst hx;exact ⟨by simp [ql],by simp;omega⟩) (by simp only [i5];unfold G7;omega) (by simp only [i5,ZJ];omega)
 have e1':As [(k,[])]=[.tuple []]:=rfl
 have e2':[]++F8 [(k,[])]=(pre k []).map zw:=by simp [F8]
 rw [e1',e2'] at q
 simp [z7,zd,zo,qv,zv,zq,zt,zk,lfs,lf,u7,Bu,q,zr,za]
theorem S8:∀ (k:Kd) (p q:List Int),q∈pre k p↔∃ r,q=p++r/\(ql k r).isSome=true:=by
 have leaf:∀ (p q:List Int) (k:Kd),pre k p=[p]->(∀ s r,ql k (s::r)=YY)->(q∈pre k p↔∃ r,q=p++r/\(ql k r).isSome=true):=λp q k h1 h2=>by
  rw [h1]
  constructor
  ·intro h
   rw [bF] at h
   exact ⟨[],by simp [h],by simp [ql]⟩
  ·rintro ⟨r,rfl,h⟩
   cases r with
   | nil=>simp
   | cons s r=>rw [h2 s r] at h;cases h
 have inner:∀ (p q:List Int) (k a b:Kd),pre k p=p::(pre a (p++[0])++pre b (p++[1]))->(∀ s r,ql k (s::r)=if s=0 then ql a r else if s=1 then ql b r else YY)->
   (q∈pre a (p++[0])↔∃ r,q=p++[0]++r/\(ql a r).isSome=true)->(q∈pre b (p++[1])↔∃ r,q=p++[1]++r/\(ql b r).isSome=true)->
   (q∈pre k p↔∃ r,q=p++r/\(ql k r).isSome=true):=λp q k a b h1 h2 ha hb=>by
  rw [h1,ZP,aO,ha,hb]
  constructor
  ·rintro (rfl | ⟨r,rfl,h⟩ | ⟨r,rfl,h⟩)
   ·exact ⟨[],by simp,by simp [ql]⟩
   ·exact ⟨0::r,by simp,by rw [h2,jn rfl];exact h⟩
   ·exact ⟨1::r,by simp,by rw [h2,qz (by decide),jn rfl];exact h⟩
  ·rintro ⟨r,rfl,h⟩
   cases r with
   | nil=>exact .inl (by simp)
   | cons s r=>
    rw [h2] at h
    by_cases h0:s=0
    ·rw [jn h0] at h;subst h0;exact .inr (.inl ⟨r,by simp,h⟩)
    ·rw [qz h0] at h
     by_cases h1':s=1
     ·rw [jn h1'] at h;subst h1';exact .inr (.inr ⟨r,by simp,h⟩)
     ·rw [qz h1'] at h;cases h
 intro k
 induction k with
 | none=>intro p q;exact leaf p q _ rfl λ_ _=>rfl
 | one=>intro p q;exact leaf p q _ rfl λ_ _=>rfl
 | name i=>intro p q;exact leaf p q _ rfl λ_ _=>rfl
 | either a b ha hb=>intro p q;exact inner p q _ a b rfl (λs r=>by simp only [ql,jd];split;rfl;split<;>rfl) (ha _ q) (hb _ q)
 | both a b ha hb=>intro p q;exact inner p q _ a b rfl (λs r=>by simp only [ql,jd];split;rfl;split<;>rfl) (ha _ q) (hb _ q)
theorem EJ:∀ a b:List Int,ZW (a.map .int) (b.map .int)=(a == b)
 | [],[]=>rfl
 | [],_::_=>rfl
 | _::_,[]=>rfl
 | x::a,y::b=>by
  have:(x::a == y::b)=((x == y) && (a == b)):=rfl
  simp only [ZC,ZW,Zm,EJ a b,this]
theorem Ol(a b:List Int):Zm (zw a) (zw b)=(a == b):=by simp [zw,Zm,EJ]
theorem JH(q:List Int):∀ xs:List (List Int),(xs.map zw).any (λy=>Zm y (zw q))=decide (q∈xs)
 | []=>rfl
 | x::xs=>by
  simp only [ZC,fU,Ol,JH q xs]
  by_cases h:x=q
  ·simp [h]
  ·have h':¬ q=x:=λe=>h e.symm
   simp [h,h',ZP]
theorem EL:∀ p:List Int,Zs (p.map .int)=0
 | []=>rfl
 | _::p=>by simp [Zs,ZA,EL p]
theorem Kr(q:List Int)(xs:List (List Int)):m8 (zw q) (.list (xs.map zw))=YW (.bool (!decide (q∈xs))):=by
 have h1:Cr (zw q) (xs.map zw)=true:=by
  have:(zw q).depth=1:=by simp [zw,ZA,EL]
  have h2:(zw q).canLay0=true:=by simp [zw,Zw,C1]
  simp [Cr,h2,Gb,this]
  omega
 simp only [m8,Ep,h1,if_true,JH,fW]
theorem LY(k:Kd)(q:List Int):q∈pre k []↔(ql k q).isSome=true:=by
 rw [S8]
 constructor
 ·rintro ⟨r,rfl,h⟩;simpa using h
 ·intro h;exact ⟨q,by simp,h⟩
theorem Rq(k:Kd):Ot (zj k) .none=YW (.bool false):=by cases k<;>rfl
theorem Q7:Ot .none .none=YW (.bool true):=rfl
theorem Q0(k:Kd):Io (zj k) .none=YW (.bool true):=by cases k<;>rfl
theorem N8:Io .none .none=YW (.bool false):=rfl
theorem S0:lf .none=true:=rfl
theorem Ov(l:Nat):u7 l .none=YW (.loc .none):=rfl
theorem L5(n:Nat)(k:Kd)(w:Z3)(p:List Int)(hk:k.lg<=45)(hn:k.lg+2<=n):yn (n+1) [zj k,.str w,zw p]=YW (.ok (Ej (j7 k w p))):=by
 obtain ⟨n,rfl⟩:∃ m,n=m+2:=⟨n - 2,by omega⟩
 show z7 4 (cx (fx (n+2)) (vz (n+2)) (wo (n+2)) (jm (n+2))) [zj k,.str w,zw p]=_
 have hp:=En n k (by omega)
 have hi:=Kr p (pre k [])
 have hm:=LY k p
 unfold j7
 cases e:ql k p with
 | none=>
  have:decide (p∈pre k [])=false:=by rw [e] at hm;simpa using hm
  rw [this] at hi
  simp [z7,cx,zd,qm,yf,e2,za,zg,zq,zt,zm,zk,hp,jx,hi,zr,eC,lf,Ej]
 | some x=>
  have:decide (p∈pre k [])=true:=by rw [e] at hm;simpa using hm
  rw [this] at hi
  have h1:=Ck (n+1) k x p e
  have h2:=JD (n+1) w x
  have hl:=AY p k x e
  simp only [ZH]
  cases hx:wg w x with
  | none=>
   rw [hx] at h2
   simp only [Ej] at h2
   simp [z7,cx,zd,qm,yf,e2,za,zg,zq,zt,zm,zk,hp,jx,hi,zl,zo,h1,h2,Ov,S0,Sn,eC,Q7,zr,Ej]
  | some y=>
   rw [hx] at h2
   simp only [Ej] at h2
   have h3:=Mv p (n+2) k y x (by omega) (by omega) e
   simp [z7,cx,zd,qm,yf,e2,za,zg,zq,zt,zm,zk,hp,jx,hi,zl,zo,h1,h2,h3,yr,qk,Sn,eC,Rq,zr,Ej]
noncomputable def yo(ts:List (Z3×List Int)):List YX:=ts.map λt=>jy t.1 t.2
theorem LI(w:Z3)(p:List Int):lf (jy w p)=true:=by simp [jy,lf,lfs,jg]
theorem G9:∀ ts,lfs (yo ts)=true
 | []=>rfl
 | t::ts=>by
  show (lf (jy t.1 t.2) && lfs (yo ts))=true
  simp [LI,G9 ts]
noncomputable def Ff(n:Nat):FS:=(qm (JR (zg (vz n) [zg (wo n) [za 0,za 2],za 3]) (eC .none)) (yz 1 (zv [za 3,za 2])) zl)
noncomputable def Qt:FE:=(qv [eC (.str "swap"),eC (.str "group"),eC (.str "spread"),eC (.str "drop")])
noncomputable def ov(k:Kd)(t:Z3×List Int):Prop:=(j7 k t.1 t.2).isSome=true
theorem Hd(n:Nat)(k x:Kd)(p:List Int)(w:Z3)(ts:List (Z3×List Int))(hx:ql k p=YW x)(hl:ts.length<=5000)(hT:∀ t∈ts,ov k t):
  ∃ ts',ts.length<=ts'.length/\ts'.length<=ts.length+1/\(∀ t∈ts',ov k t)/\Ff (n+1) [YW (.par (zj k)),YW (.own (yo ts)),YW (.loc (zw p)),YW (.loc (.str w))]=YW (.next [YW (.par (zj k)),YW (.own (yo ts')),YW (.loc (zw p)),YW (.loc (.str w))]):=by
 have h1:=Ck n k x p hx
 have h2:=JD n w x
 have hb:(yo ts).length < big:=by simp [yo];unfold big;omega
 cases hy:wg w x with
 | none=>
  rw [hy] at h2
  simp only [Ej] at h2
  exact ⟨ts,by exact Ze _,by exact eG _ _,hT,by simp [Ff,qm,JR,e2,zg,zq,za,zt,zm,zk,h1,h2,jx,eC,N8,zl]⟩
 | some y=>
  rw [hy] at h2
  simp only [Ej] at h2
  refine ⟨ts++[(w,p)],by simp,by simp,λt ht=>?_,?_⟩
  ·rcases aO.mp ht with ht | ht
   ·exact hT t ht
   ·simp only [bF] at ht
    subst ht
    simp [ov,j7,hx,hy]
  ·have hlf:=LI w p
   simp only [jy] at hlf
   have e:yo (ts++[(w,p)])=yo ts++[.tuple [.str w,zw p]]:=by simp [yo,jy]
   rw [e]
   simp [Ff,qm,JR,e2,zg,zq,za,zt,zm,zk,h1,h2,jx,eC,Q0,yz,zv,hlf,hb]
theorem Vo(n:Nat)(k x:Kd)(p:List Int)(ts:List (Z3×List Int))(x3:Option Slot)(hx:ql k p=YW x)(hl:ts.length<=4000)(hT:∀ t∈ts,ov k t):
  ∃ ts' x3',ts.length<=ts'.length/\ts'.length<=ts.length+4/\(∀ t∈ts',ov k t)/\bz (mz Qt) (z8 3) (Ff (n+1)) [YW (.par (zj k)),YW (.own (yo ts)),YW (.loc (zw p)),x3]=YW (.next [YW (.par (zj k)),YW (.own (yo ts')),YW (.loc (zw p)),x3']):=by
 obtain ⟨t1,a1,b1,c1,d1⟩:=Hd n k x p "swap" ts hx (by omega) hT
 obtain ⟨t2,a2,b2,c2,d2⟩:=Hd n k x p "group" t1 hx (by omega) c1
 obtain ⟨t3,a3,b3,c3,d3⟩:=Hd n k x p "spread" t2 hx (by omega) c2
 obtain ⟨t4,a4,b4,c4,d4⟩:=Hd n k x p "drop" t3 hx (by omega) c3
 refine ⟨t4,YW (.loc (.str "drop")),by omega,by omega,c4,?_⟩
 simp [bz,mz,Qt,qv,zq,eC,zt,lfs,lf,qy,z8,d1,d2,d3,d4]
theorem IU(n:Nat)(k:Kd):∀ (ps:List (List Int)) (ts:List (Z3×List Int)) (x2 x3:Option Slot),(∀ p∈ps,(ql k p).isSome=true)->ts.length+4 * ps.length<=4000->(∀ t∈ts,ov k t)->
  ∃ ts' x2' x3',(∀ t∈ts',ov k t)/\ts'.length<=ts.length+4 * ps.length/\qy (z8 2) (bz (mz Qt) (z8 3) (Ff (n+1))) (ps.map zw) [YW (.par (zj k)),YW (.own (yo ts)),x2,x3]=YW (.next [YW (.par (zj k)),YW (.own (yo ts')),x2',x3'])
 | [],ts,x2,x3,_,_,hT=>⟨ts,x2,x3,hT,by simp,rfl⟩
 | p::ps,ts,x2,x3,hp,hl,hT=>by
  simp only [Zj] at hl
  obtain ⟨x,hx⟩:=dS.mp (hp p (by simp))
  obtain ⟨t1,y3,a1,b1,c1,d1⟩:=Vo n k x p ts x3 hx (by exact Zq ‹_›) hT
  obtain ⟨t2,z2,z3,e1',e2',e3'⟩:=IU n k ps t1 (YW (.loc (zw p))) y3 (λq hq=>hp q (by simp [hq])) (by omega) c1
  refine ⟨t2,z2,z3,e1',by simp only [Zj];omega,?_⟩
  rw [<- e3']
  exact fh (tg:=z8 2) (d:=zw p) rfl d1
theorem BV:∀ (k:Kd) (p:List Int),(pre k p).length+1=2 * k.lg
 | .none,p=>rfl
 | .one,p=>rfl
 | .name _,p=>rfl
 | .either a b,p=>by have:=BV a (p++[0]);have:=BV b (p++[1]);simp only [pre,Zj,Za,Kd.lg];omega
 | .both a b,p=>by have:=BV a (p++[0]);have:=BV b (p++[1]);simp only [pre,Zj,Za,Kd.lg];omega
theorem TQ(n:Nat)(k:Kd)(hk:k.lg<=45):∃ ts,jl (n+3) [zj k]=YW (.ok (.list (yo ts)))/\(∀ t∈ts,ov k t)/\ts.length<=400:=by
 have e:b8 (vz (n+2)) (wo (n+2)) (jm (n+2))=zd (zo 1 (qv [])) (zd (bz (mz (zg (jm (n+2)) [za 0])) (z8 2) (bz (mz Qt) (z8 3) (Ff (n+2)))) (zr (za 1))):=rfl
 have hp:=En n k (by omega)
 have lq:=BV k []
 obtain ⟨ts,x2,x3,h1,h2,h3⟩:=IU (n+1) k (pre k []) [] YY YY (λp hp=>(LY k p).mp hp) (by simp;omega) (by simp)
 refine ⟨ts,?_,h1,by simp at h2;omega⟩
 show z7 4 (b8 (vz (n+2)) (wo (n+2)) (jm (n+2))) [zj k]=_
 rw [e]
 have h3':qy (z8 2) (bz (mz Qt) (z8 3) (Ff (n+2))) ((pre k []).map zw) [YW (.par (zj k)),YW (.own []),YY,YY]=_:=h3
 simp [z7,zd,zo,qv,zq,zt,zk,u7,lf,lfs,bz,mz,zg,za,hp,jx,FV,h3',zr]
noncomputable def O8(c fac:Int):Int:=((c * fac+7919) % 2147483647) * ((c * fac+7919) % 2147483647) % 2147483647 * 40692 % 2147483399
noncomputable def G3(c f fac:Int):Int:=f * 1000000000+O8 c fac / 7
noncomputable def Fv:FS:=(zd (zo 3 (v9 (qt (kf (za 0) (za 2)) (eC (.int 7919))) (eC (.int 2147483647)))) (zd (zo 3 (v9 (kf (v9 (kf (za 3) (za 3)) (eC (.int 2147483647))) (eC (.int 40692))) (eC (.int 2147483399)))) (zo 1 (qt (kf (za 1) (QK (eC (.int 10)) (eC (.int 9)))) (ni (za 3) (eC (.int 7)))))))
theorem N0(c f fac:Int)(x:Option Slot)(h:fac.natAbs < 2 ^ 64):Fv [YW (.par (.int c)),YW (.loc (.int f)),YW (.loc (.int fac)),x]=
  YW (.next [YW (.par (.int c)),YW (.loc (.int (G3 c f fac))),YW (.loc (.int fac)),YW (.loc (.int (O8 c fac)))]):=by
 have b1:=eO (c * fac+7919) (b:=2147483647) (by decide)
 have b2:=eL (c * fac+7919) (b:=2147483647) (by decide)
 have h1:CMulD c fac:=HB h
 have h2:CMulD ((c * fac+7919) % 2147483647) ((c * fac+7919) % 2147483647):=HB (by omega)
 have h3:∀ i:Int,CMulD i 40692:=λi=>HB (by decide)
 have h4:∀ i:Int,CMulD i 1000000000:=λi=>HB (by decide)
 simp [Fv,zd,zo,v9,qt,kf,za,eC,QK,ni,e2,zm,zk,il,FP,Az,Nu,Vc,h1,h2,h3,h4,u7,lf,lim,G3,O8]
noncomputable def Pi(c:Int):Int:=G3 c (G3 c (G3 c (G3 c 0 48271) 69621) 39373) 44488
theorem Me(n:Nat)(c:Int):dn (n+1) [.int c]=YW (.ok (.int (Pi c))):=by
 have e:Er=zd (zo 1 (eC (.int 0))) (zd (bz (mz (qv [eC (.int 48271),eC (.int 69621),eC (.int 39373),eC (.int 44488)])) (z8 2) Fv) (zr (za 1))):=rfl
 unfold dn
 rw [e]
 simp [z7,zd,zo,eC,zk,u7,lf,lfs,bz,mz,qv,zq,zt,qy,z8,N0,zr,za,Pi]
noncomputable def uu(ns:List Int)(k:Nat):Int:=Pi (ns.getD k 0)
theorem SH{α:Type}{xs:List α}{k:Nat}{v:α}(h:xs[k]? =YW v):vg xs (k:Int)=YW v:=by
 have hk:k < xs.length:=(Zi.mp h).1
 unfold vg BE
 rw [jn (by omega),jn (by omega)]
 simpa using h
theorem AZ(n:Nat)(ns:List Int)(k:Nat):qi (n+2) [.list (ns.map .int),.int (k:Int)]=YW (.ok (.int (uu ns k))):=by
 unfold qi
 by_cases h:k < ns.length
 ·have hx:vg (ns.map eB) (k:Int)=YW (.int ns[k]):=SH (by simp [h])
  have hc:(k:Int) < (ns.length:Int):=by omega
  simp [z7,BD,zd,qm,pq,e2,za,jr,e1,xx,Ih,zm,zk,hc,zr,zg,zq,zt,z9,xr,hx,Me,jx,lf,uu,h]
 ·have hc:¬ (k:Int) < (ns.length:Int):=by omega
  have hg:ns[k]? =YY:=List.getElem?_eq_none (gR h)
  simp [z7,BD,zd,qm,pq,e2,za,jr,e1,xx,Ih,zm,zk,hc,zl,zr,zg,eC,zq,zt,Me,jx,lf,uu,hg]
noncomputable def A5(c k b:Int):Int:=
 let s1:=(c % 2147483629+1+k * 1000003) % 2147483647
 let s2:=s1 * s1 % 2147483647 * 48271 % 2147483629
 let s3:=s2 * s2 % 2147483629 * 40692 % 2147483399
 s3 / 97 % b
theorem p6{c k b:Int}(h:0 < b):0<=A5 c k b:=eO _ (by omega)
theorem r6{c k b:Int}(h:0 < b):A5 c k b < b:=eL _ h
theorem sj(n:Nat)(c k b:Int)(h:0 < b):xc (n+1) [.int c,.int k,.int b]=YW (.ok (.int (A5 c k b))):=by
 have a1:=eO (c % 2147483629+1+k * 1000003) (b:=2147483647) (by decide)
 have a2:=eL (c % 2147483629+1+k * 1000003) (b:=2147483647) (by decide)
 generalize hs1:(c % 2147483629+1+k * 1000003) % 2147483647=s1 at a1 a2
 have b1:=eO (s1 * s1 % 2147483647 * 48271) (b:=2147483629) (by decide)
 have b2:=eL (s1 * s1 % 2147483647 * 48271) (b:=2147483629) (by decide)
 generalize hs2:s1 * s1 % 2147483647 * 48271 % 2147483629=s2 at b1 b2
 have m1:CMulD k 1000003:=HB (by decide)
 have m2:CMulD s1 s1:=HB (by omega)
 have m3:∀ i:Int,CMulD i 48271:=λi=>HB (by decide)
 have m4:CMulD s2 s2:=HB (by omega)
 have m5:∀ i:Int,CMulD i 40692:=λi=>HB (by decide)
 unfold xc
 simp [z7,Ey,zd,zo,v9,qt,kf,za,eC,ni,e2,zm,zk,il,FP,Az,Nu,m1,hs1,m2,m3,hs2,m4,m5,u7,lf,lim,zr,h,A5]
theorem FX(n:Nat)(c lg k:Int)(h:lg < 2):∃ kd:Kd,j5 (n+2) [.int c,.int lg,.int k]=YW (.ok (zj kd))/\kd.Ok/\kd.lg=1:=by
 have d0:=p6 (c:=c) (k:=5 * k) (b:=12) (by decide)
 have d1:=r6 (c:=c) (k:=5 * k) (b:=12) (by decide)
 have e:=sj n c (5 * k) 12 (by decide)
 have m5:CMulD 5 k:=S3 (by decide)
 generalize A5 c (5 * k) 12=w at d0 d1 e
 by_cases w0:w=0
 ·exact ⟨.none,by unfold j5;simp [z7,dz,zd,qm,pq,e2,za,eC,zm,zk,Ih,h,zo,zg,zq,zt,kf,Az,m5,e,jx,u7,lf,lfs,qx,av,vh,w0,zr,zv,zj],trivial,rfl⟩
 ·have w0':(w == 0)=false:=by simp [w0]
  by_cases w3:w < 3
  ·exact ⟨.one,by unfold j5;simp [z7,dz,zd,qm,pq,e2,za,eC,zm,zk,Ih,h,zo,zg,zq,zt,kf,Az,m5,e,jx,u7,lf,lfs,qx,av,vh,w0',w3,zl,zr,zv,zj],trivial,rfl⟩
  ·refine ⟨.name (w % 4),by unfold j5;simp [z7,dz,zd,qm,pq,e2,za,eC,zm,zk,Ih,h,zo,zg,zq,zt,kf,Az,m5,e,jx,u7,lf,lfs,qx,av,vh,w0',w3,zl,zr,zv,v9,FP,zj],?_,rfl⟩
   show 0<=w % 4/\w % 4<=3
   omega
theorem HQ:∀ (L n:Nat) (c lg k:Int),lg<=L->L+1<=n->∃ kd:Kd,j5 (n+1) [.int c,.int lg,.int k]=YW (.ok (zj kd))/\kd.Ok/\(kd.lg:Int)<=max lg 1
 | 0,n+1,c,lg,k,h,_=>by
  obtain ⟨kd,e,o,l⟩:=FX n c lg k (by omega)
  exact ⟨kd,e,o,by omega⟩
 | L+1,n+1,c,lg,k,h,hn=>by
  by_cases h2:lg < 2
  ·obtain ⟨kd,e,o,l⟩:=FX n c lg k h2
   exact ⟨kd,e,o,by omega⟩
  ·have m5:CMulD 5 k:=S3 (by decide)
   have m2:CMulD 2 k:=S3 (by decide)
   have e1:=sj n c (5 * k+1) (lg - 1) (by omega)
   have d0:=p6 (c:=c) (k:=5 * k+1) (b:=lg - 1) (by omega)
   have d1:=r6 (c:=c) (k:=5 * k+1) (b:=lg - 1) (by omega)
   have e2':=sj n c (5 * k+2) 2 (by decide)
   have d2:=p6 (c:=c) (k:=5 * k+2) (b:=2) (by decide)
   have d3:=r6 (c:=c) (k:=5 * k+2) (b:=2) (by decide)
   generalize A5 c (5 * k+1) (lg - 1)=u at d0 d1 e1
   generalize A5 c (5 * k+2) 2=w at d2 d3 e2'
   obtain ⟨ka,ea,oa,la⟩:=HQ L n c (1+u) (2 * k) (by omega) (by exact bJ ‹_›)
   obtain ⟨kb,eb,ob,lb⟩:=HQ L n c (lg - (1+u)) (2 * k+1) (by omega) (by exact bJ ‹_›)
   have hw:w=0∨w=1:=by omega
   rcases hw with rfl | rfl
   ·refine ⟨.either ka kb,?_,⟨oa,ob⟩,by simp only [Kd.lg];push_cast;omega⟩
    unfold j5
    simp [z7,dz,zd,qm,pq,e2,za,eC,zm,zk,Ih,h2,zo,zg,zq,zt,kf,Az,m5,m2,e1,e2',ea,eb,jx,u7,lf,lfs,zl,qt,il,u4,NL,z9,qv,xr,vg,BE,zr,zv,zj,qk]
   ·refine ⟨.both ka kb,?_,⟨oa,ob⟩,by simp only [Kd.lg];push_cast;omega⟩
    unfold j5
    simp [z7,dz,zd,qm,pq,e2,za,eC,zm,zk,Ih,h2,zo,zg,zq,zt,kf,Az,m5,m2,e1,e2',ea,eb,jx,u7,lf,lfs,zl,qt,il,u4,NL,z9,qv,xr,vg,BE,zr,zv,zj,qk]
noncomputable def SJ(gp gt gc ga:FC):FS:=(zd (zo 4 (zg ga [za 2])) (qm (yv (An (za 4) (qv [])) (pq (jr (zg gp [za 2])) (eC (.int 14)))) (zd (Cm (f7 5 6) (z9 (za 4) (v9 (zg gc [za 0,qt (qt (za 1) (eC (.int 1))) (za 3)]) (jr (za 4))))) (zo 2 (zg gt [za 2,za 5,za 6]))) zl))
theorem PX(w:Z3)(p:List Int)(h:aJ w=true):(jy w p).canLay0=true:=by simp [jy,Zw,Zg,h,bf]
theorem M4(gp gt gc ga:FC)(k:Kd)(R:List YX)(x0 x1 x3 x4 x5 x6:Option Slot)(s2:Slot)(h2:s2= .par (zj k)∨s2= .loc (zj k))(ha:ga [zj k]=YW (.ok (.list R)))(hl:lfs R=true)(hc:(yv (An (za 4) (qv [])) (pq (jr (zg gp [za 2])) (eC (.int 14)))) [x0,x1,YW s2,x3,YW (.own R),x5,x6]=YW (.ok 2 (.bool false))):
  SJ gp gt gc ga [x0,x1,YW s2,x3,x4,x5,x6]=YW (.next [x0,x1,YW s2,x3,YW (.own R),x5,x6]):=by
 have v:∀ r r',∃ l,za 2 (r::r'::YW s2::[x3,x4,x5,x6])=YW (.ok l (zj k)):=λr r'=>by rcases h2 with rfl | rfl<;>exact ⟨_,rfl⟩
 obtain ⟨l,e⟩:=v x0 x1
 have s1:zo 4 (zg ga [za 2]) [x0,x1,YW s2,x3,x4,x5,x6]=YW (.next [x0,x1,YW s2,x3,YW (.own R),x5,x6]):=by
  simp [zo,zg,zq,e,zt,zk,ha,jx,gz hl]
 unfold SJ
 rw [jt s1]
 simp only [qm,hc,zk,zl]
theorem QT(gp gt gc ga:FC)(k k':Kd)(R:List YX)(w:Z3)(p:List Int)(D:YX)(f j:Int)(c:Int)(x4 x5 x6:Option Slot)(s2:Slot)(h2:s2= .par (zj k)∨s2= .loc (zj k))(ha:ga [zj k]=YW (.ok (.list R)))(hl:lfs R=true)
  (hc:(yv (An (za 4) (qv [])) (pq (jr (zg gp [za 2])) (eC (.int 14)))) [YW (.par D),YW (.par (.int f)),YW s2,YW (.loc (.int j)),YW (.own R),x5,x6]=YW (.ok 2 (.bool true)))
  (hg:gc [D,.int (f+1+j)]=YW (.ok (.int c))) (hR:0 < R.length) (hat:vg R (c % (R.length:Int))=YW (jy w p)) (ht:gt [zj k,.str w,zw p]=YW (.ok (zj k'))):
  SJ gp gt gc ga [YW (.par D),YW (.par (.int f)),YW s2,YW (.loc (.int j)),x4,x5,x6]=YW (.next [YW (.par D),YW (.par (.int f)),YW (.loc (zj k')),YW (.loc (.int j)),YW (.own R),YW (.loc (.str w)),YW (.loc (zw p))]):=by
 have v:∀ r r' rr,∃ l,za 2 (r::r'::YW s2::rr)=YW (.ok l (zj k)):=λr r' rr=>by rcases h2 with rfl | rfl<;>exact ⟨_,rfl⟩
 obtain ⟨l,e⟩:=v (YW (.par D)) (YW (.par (.int f))) [YW (.loc (.int j)),x4,x5,x6]
 have s1:zo 4 (zg ga [za 2]) [YW (.par D),YW (.par (.int f)),YW s2,YW (.loc (.int j)),x4,x5,x6]=YW (.next [YW (.par D),YW (.par (.int f)),YW s2,YW (.loc (.int j)),YW (.own R),x5,x6]):=by
  simp [zo,zg,zq,e,zt,zk,ha,jx,gz hl]
 have hm:FP (.int c) (.int (R.length:Int))=YW (.int (c % (R.length:Int))):=H4 (by omega)
 have lp:=jg p
 have s3:Cm (f7 5 6) (z9 (za 4) (v9 (zg gc [za 0,qt (qt (za 1) (eC (.int 1))) (za 3)]) (jr (za 4)))) [YW (.par D),YW (.par (.int f)),YW s2,YW (.loc (.int j)),YW (.own R),x5,x6]=YW (.next [YW (.par D),YW (.par (.int f)),YW s2,YW (.loc (.int j)),YW (.own R),YW (.loc (.str w)),YW (.loc (zw p))]):=by
  have lt:lf (.tuple [.str w,zw p])=true:=by simp [lf,lfs,lp]
  unfold jy at hat
  simp [Cm,z9,e2,za,v9,zg,zq,qt,eC,jr,e1,zt,zm,zk,Fp,hg,jx,xx,hm,xr,hat,lt,f7]
 obtain ⟨l',e'⟩:=v (YW (.par D)) (YW (.par (.int f))) [YW (.loc (.int j)),YW (.own R),YW (.loc (.str w)),YW (.loc (zw p))]
 have lk:=qk k'
 have s4:zo 2 (zg gt [za 2,za 5,za 6]) [YW (.par D),YW (.par (.int f)),YW s2,YW (.loc (.int j)),YW (.own R),YW (.loc (.str w)),YW (.loc (zw p))]=YW (.next [YW (.par D),YW (.par (.int f)),YW (.loc (zj k')),YW (.loc (.int j)),YW (.own R),YW (.loc (.str w)),YW (.loc (zw p))]):=by
  have v5:za 5 [YW (.par D),YW (.par (.int f)),YW s2,YW (.loc (.int j)),YW (.own R),YW (.loc (.str w)),YW (.loc (zw p))]=YW (.ok 1 (.str w)):=rfl
  have v6:za 6 [YW (.par D),YW (.par (.int f)),YW s2,YW (.loc (.int j)),YW (.own R),YW (.loc (.str w)),YW (.loc (zw p))]=YW (.ok 1 (zw p)):=rfl
  simp [zo,zg,zq,e',v5,v6,zt,zk,ht,jx,u7,lk]
 unfold SJ
 rw [jt s1]
 simp only [qm,hc,zk]
 rw [jt s3,s4]
theorem K3{k:Kd}{t:Z3×List Int}(h:ov k t):aJ t.1=true:=by
 obtain ⟨k',e⟩:=dS.mp h
 obtain ⟨x,y,_,hh,_⟩:=mq e
 rcases n5 t.1 with w | w | w | w | hno
 ·rw [w];decide +kernel
 ·rw [w];decide +kernel
 ·rw [w];decide +kernel
 ·rw [w];decide +kernel
 ·rw [ue t.1 x hno] at hh;cases hh
theorem OT(k:Kd):∀ ts:List (Z3×List Int),(∀ t∈ts,ov k t)->Zg (yo ts)=true
 | [],_=>rfl
 | t::ts,h=>by
  show ((jy t.1 t.2).canLay0 && Zg (yo ts))=true
  rw [PX _ _ (K3 (h t (Zz ..))),OT k ts λu hu=>h u (Z5 _ hu)];rfl
theorem Sw(n:Nat)(ns:List Int)(f j:Nat)(k:Kd)(hk:k.lg<=45)(hn:k.lg+2<=n)(x4 x5 x6:Option Slot)(s2:Slot)(h2:s2= .par (zj k)∨s2= .loc (zj k)):
  ∃ (k':Kd) (s2':Slot) (y4 y5 y6:Option Slot),(k'=k∨∃ w p,j7 k w p=YW k')/\(s2'= .par (zj k')∨s2'= .loc (zj k'))/\
   SJ (jm (n+3)) (yn (n+3)) (qi (n+3)) (jl (n+3)) [YW (.par (.list (ns.map .int))),YW (.par (.int (f:Int))),YW s2,YW (.loc (.int (j:Int))),x4,x5,x6]=YW (.next [YW (.par (.list (ns.map .int))),YW (.par (.int (f:Int))),YW s2',YW (.loc (.int (j:Int))),y4,y5,y6]):=by
 obtain ⟨ts,ha,hG,lq⟩:=TQ n k hk
 have hp:=En (n+1) k (by omega)
 have hl:=G9 ts
 have hc:=AZ (n+1) ns (f+1+j)
 have lay:=K7 (yo ts) (OT k ts hG)
 have v:∀ r r' rr,∃ l,za 2 (r::r'::YW s2::rr)=YW (.ok l (zj k)):=λr r' rr=>by rcases h2 with rfl | rfl<;>exact ⟨_,rfl⟩
 generalize hD:gD (ns.map .int)=D at *
 by_cases h0:ts=[]
 ·subst h0
  refine ⟨k,s2,YW (.own []),x5,x6,.inl rfl,h2,?_⟩
  refine M4 _ _ _ _ k [] _ _ _ _ _ _ s2 h2 ha rfl ?_
  have q:Ir (.list []) (.list [])=YW (.bool false):=lay
  simp [yv,An,e2,za,qv,zq,zt,zm,lfs,q]
 ·obtain ⟨t0,tr,rfl⟩:=fH h0
  obtain ⟨l,e⟩:=v (YW (.par D)) (YW (.par (.int (f:Int)))) [YW (.loc (.int (j:Int))),YW (.own (yo (t0::tr))),x5,x6]
  have q:Ir (.list (yo (t0::tr))) (.list [])=YW (.bool true):=lay
  have cond:(yv (An (za 4) (qv [])) (pq (jr (zg (jm (n+3)) [za 2])) (eC (.int 14)))) [YW (.par D),YW (.par (.int (f:Int))),YW s2,YW (.loc (.int (j:Int))),YW (.own (yo (t0::tr))),x5,x6]=YW (.ok 2 (.bool (decide (((pre k []).map zw).length < 14)))):=by
   have q4:za 4 [YW (.par D),YW (.par (.int (f:Int))),YW s2,YW (.loc (.int (j:Int))),YW (.own (yo (t0::tr))),x5,x6]=YW (.ok 1 (.list (yo (t0::tr)))):=rfl
   generalize yo (t0::tr)=R at *
   generalize (pre k []).map zw=PP at *
   have ii:(decide ((PP.length:Int) < 14))=decide (PP.length < 14):=by
    by_cases z:PP.length < 14
    ·rw [decide_eq_true z,decide_eq_true (by omega)]
    ·rw [decide_eq_false z,decide_eq_false (by omega)]
   simp [yv,An,e2,q4,qv,zq,zt,zm,lfs,q,pq,jr,e1,zg,e,hp,jx,xx,eC,Ih,ii]
  by_cases hp14:((pre k []).map zw).length < 14
  ·rw [decide_eq_true hp14] at cond
   have hR:0 < (yo (t0::tr)).length:=by simp [yo]
   have hlt:(uu ns (f+1+j) % ((yo (t0::tr)).length:Int)).toNat < (t0::tr).length:=by
    have h1:=eO (uu ns (f+1+j)) (b:=((yo (t0::tr)).length:Int)) (by omega)
    have h2:=eL (uu ns (f+1+j)) (b:=((yo (t0::tr)).length:Int)) (by omega)
    have h3:(yo (t0::tr)).length=(t0::tr).length:=by simp [yo]
    omega
   obtain ⟨u,hu⟩:∃ u,(t0::tr)[(uu ns (f+1+j) % ((yo (t0::tr)).length:Int)).toNat]? =YW u:=⟨_,List.getElem?_eq_getElem hlt⟩
   have hg:=hG u (hV hu)
   obtain ⟨k',hk'⟩:=dS.mp hg
   have ht:=L5 (n+2) k u.1 u.2 hk (by omega)
   rw [hk'] at ht
   have hat:vg (yo (t0::tr)) (uu ns (f+1+j) % ((yo (t0::tr)).length:Int))=YW (jy u.1 u.2):=by
    have h1:=eO (uu ns (f+1+j)) (b:=((yo (t0::tr)).length:Int)) (by omega)
    rw [<- Int.toNat_of_nonneg h1]
    exact KU (by simp only [yo,ZG];simp only [yo] at hu;rw [hu];rfl)
   refine ⟨k',.loc (zj k'),YW (.own (yo (t0::tr))),YW (.loc (.str u.1)),YW (.loc (zw u.2)),.inr ⟨u.1,u.2,hk'⟩,.inr rfl,?_⟩
   have hc':qi (n+3) [D,.int ((f:Int)+1+(j:Int))]=YW (.ok (.int (uu ns (f+1+j)))):=by
    rw [<- hc];congr 2
   exact QT _ _ _ _ k k' (yo (t0::tr)) u.1 u.2 D _ _ _ _ _ _ s2 h2 ha hl cond hc' hR hat ht
  ·rw [decide_eq_false hp14] at cond
   exact ⟨k,s2,YW (.own (yo (t0::tr))),x5,x6,.inl rfl,h2,M4 _ _ _ _ k _ _ _ _ _ _ _ s2 h2 ha hl cond⟩
theorem Mu(n:Nat)(ns:List Int)(f:Nat):∀ (js:List Nat) (k:Kd) (x3 x4 x5 x6:Option Slot) (s2:Slot),sE k<=40->42<=n->(s2= .par (zj k)∨s2= .loc (zj k))->
  ∃ (k':Kd) (r:vm) (s2':Slot) (y3 y4 y5 y6:Option Slot),df k r=YW k'/\(s2'= .par (zj k')∨s2'= .loc (zj k'))/\
   qy (z8 3) (SJ (jm (n+3)) (yn (n+3)) (qi (n+3)) (jl (n+3))) (js.map λ(j:Nat)=>eB (j:Int)) [YW (.par (.list (ns.map .int))),YW (.par (.int (f:Int))),YW s2,x3,x4,x5,x6]=YW (.next [YW (.par (.list (ns.map .int))),YW (.par (.int (f:Int))),YW s2',y3,y4,y5,y6])
 | [],k,x3,x4,x5,x6,s2,_,_,h2=>⟨k,[],s2,x3,x4,x5,x6,rfl,h2,rfl⟩
 | j::js,k,x3,x4,x5,x6,s2,hs,hn,h2=>by
  have hl:=vv k
  obtain ⟨k1,s1,y4,y5,y6,hk,h2',e⟩:=Sw n ns f j k (by omega) (by omega) x4 x5 x6 s2 h2
  have hk1:∃ r,df k r=YW k1:=by
   rcases hk with rfl | ⟨w,p,hw⟩
   ·exact ⟨[],rfl⟩
   ·exact ⟨[(w,p)],PR hw⟩
  obtain ⟨r1,hr1⟩:=hk1
  obtain ⟨k',r,s2',z3,z4,z5,z6,g,h3,e2⟩:=Mu n ns f js k1 (YW (.loc (.int (j:Int)))) y4 y5 y6 s1 (Zo (O1 _ _ _ hr1) hs) hn h2'
  refine ⟨k',r1++r,s2',z3,z4,z5,z6,f6 hr1 g,h3,?_⟩
  rw [ZC,<- e2]
  exact fh rfl e
theorem Pw(n:Nat)(ns:List Int)(f:Nat)(k:Kd)(hs:sE k<=40)(hn:42<=n):∃ (k':Kd) (r:vm),df k r=YW k'/\ve (n+4) [.list (ns.map .int),.int (f:Int),zj k]=YW (.ok (zj k')):=by
 have c:=AZ (n+1) ns f
 have hm:FP (.int (uu ns f)) (.int 9)=YW (.int (uu ns f % 9)):=H4 (by decide)
 have h9:0<=uu ns f % 9/\uu ns f % 9 < 9:=by omega
 have hb:(uu ns f % 9).natAbs<=big:=by
  have:(9:Nat)<=big:=by decide
  omega
 obtain ⟨k',r,s2',y3,y4,y5,y6,g,h2,e⟩:=Mu n ns f (ZR (uu ns f % 9).toNat) k YY YY YY YY (.par (zj k)) hs hn (.inl rfl)
 refine ⟨k',r,g,?_⟩
 have eq:AK (jm (n+3)) (yn (n+3)) (qi (n+3)) (jl (n+3))=(zd (bz (Ra (v9 (zg (qi (n+3)) [za 0,za 1]) (eC (.int 9)))) (z8 3) (SJ (jm (n+3)) (yn (n+3)) (qi (n+3)) (jl (n+3)))) (zr (za 2))):=rfl
 have lk:=qk k'
 have hn':bu (uu ns f % 9).toNat=(ZR (uu ns f % 9).toNat).map λ(j:Nat)=>eB (j:Int):=rfl
 generalize gD (ns.map .int)=D at *
 have s1:bz (Ra (v9 (zg (qi (n+3)) [za 0,za 1]) (eC (.int 9)))) (z8 3) (SJ (jm (n+3)) (yn (n+3)) (qi (n+3)) (jl (n+3))) [YW (.par D),YW (.par (.int (f:Int))),YW (.par (zj k)),YY,YY,YY,YY]=YW (.next [YW (.par D),YW (.par (.int (f:Int))),YW s2',y3,y4,y5,y6]):=by
  have q:(Ra (v9 (zg (qi (n+3)) [za 0,za 1]) (eC (.int 9)))) [YW (.par D),YW (.par (.int (f:Int))),YW (.par (zj k)),YY,YY,YY,YY]=YW (.ok 2 (bu (uu ns f % 9).toNat)):=by
   simp [Ra,v9,e2,zg,zq,za,eC,zt,zm,c,jx,hm,hb]
  unfold bz
  rw [q,hn']
  exact e
 have s2:zr (za 2) [YW (.par D),YW (.par (.int (f:Int))),YW s2',y3,y4,y5,y6]=YW (.ret (zj k')):=by
  rcases h2 with rfl | rfl<;>simp [zr,za,zk,lk]
 unfold ve
 refine AW ?_
 show AK (jm (n+3)) (yn (n+3)) (qi (n+3)) (jl (n+3)) [YW (.par D),YW (.par (.int (f:Int))),YW (.par (zj k)),YY,YY,YY,YY]=_
 rw [eq,jt s1,s2]
noncomputable def Bm:Kd->Kd
 | .either a b=>.either (Bm a) (Bm b)
 | .both a b=>.both (Bm a) (Bm b)
 | _=>.one
theorem Dr:∀ k:Kd,sE (Bm k)=sE k/\nE (Bm k)=nE k/\(Bm k).lg=k.lg
 | .none=>⟨rfl,rfl,rfl⟩
 | .one=>⟨rfl,rfl,rfl⟩
 | .name _=>⟨rfl,rfl,rfl⟩
 | .either a b=>by
  obtain ⟨a1,a2,a3⟩:=Dr a;obtain ⟨b1,b2,b3⟩:=Dr b
  simp only [Bm,sE,nE,Kd.lg,a1,a2,a3,b1,b2,b3,and_self]
 | .both a b=>by
  obtain ⟨a1,a2,a3⟩:=Dr a;obtain ⟨b1,b2,b3⟩:=Dr b
  simp only [Bm,sE,nE,Kd.lg,a1,a2,a3,b1,b2,b3,and_self]
theorem OM(gl gd:FC)(k:Kd)(c j d0 d1 d2:Int)(hk:Ki k=false)(h0:gd [.int c,.int j,.int 6]=YW (.ok (.int d0)))(h1:gd [.int c,.int (j+1),.int 4]=YW (.ok (.int d1)))(h2:gd [.int c,.int (j+2),.int 2]=YW (.ok (.int d2)))(hd1:0<=d1/\d1 < 4)(hd2:0<=d2/\d2 < 2):
  ∃ k',z7 3 (gy gl gd) [zj k,.int c,.int j]=YW (.ok (zj k'))/\Bm k'=Bm k/\(k.Ok->k'.Ok):=by
 obtain ⟨m,hm,hlt⟩:=IE hk
 have lk:=qk k
 have hs:Bm k= .one:=by cases k<;>first | rfl | cases hk
 by_cases z:d0=0
 ·subst z
  have q:d2=0∨d2=1:=by omega
  rcases q with rfl | rfl
  ·refine ⟨.one,?_,hs.symm,λ_=>trivial⟩
   simp [z7,gy,zd,qm,pq,e2,jr,e1,za,eC,zm,zk,hm,Ih,hlt,qx,zg,zq,zt,h0,h1,h2,jx,nu,zr,z9,qv,zv,qt,Fp,lf,lfs,xr,vg,BE,zj]
  ·refine ⟨.name d1,?_,hs.symm,λ_=>by simp only [Kd.Ok];omega⟩
   simp [z7,gy,zd,qm,pq,e2,jr,e1,za,eC,zm,zk,hm,Ih,hlt,qx,zg,zq,zt,h0,h1,h2,jx,nu,zr,z9,qv,zv,qt,Fp,lf,lfs,xr,vg,BE,zj]
 ·refine ⟨k,?_,rfl,id⟩
  have z':(d0 == 0)=false:=by simpa using z
  simp [z7,gy,zd,qm,pq,e2,jr,e1,za,eC,zm,zk,hm,Ih,hlt,qx,zg,zq,zt,h0,jx,nu,z',zl,zr,lk]
theorem pf:∀ (k:Kd) (n:Nat) (c j:Int),k.lg<=n->∃ k',w9 (n+1) [zj k,.int c,.int j]=YW (.ok (zj k'))/\Bm k'=Bm k/\(k.Ok->k'.Ok):=by
 intro k
 by_cases hk:Ki k=false
 ·intro n c j hn
  obtain ⟨m,rfl⟩:∃ m,n=m+1:=⟨n - 1,by have:=k.pos;omega⟩
  exact OM _ _ k c j _ _ _ hk (sj m c j 6 (by decide)) (sj m c (j+1) 4 (by decide)) (sj m c (j+2) 2 (by decide)) ⟨p6 (by decide),r6 (by decide)⟩ ⟨p6 (by decide),r6 (by decide)⟩
 ·have two:∀ (w:Z3) (C:Kd->Kd->Kd) (a b:Kd),(∀ x y,zj (C x y)= .tuple [.str w,zj x,zj y])->∀ (gl gd:FC) (c j:Int) (a' b':Kd),gl [zj a,.int c,.int (2 * j)]=YW (.ok (zj a'))->gl [zj b,.int c,.int (2 * j+1)]=YW (.ok (zj b'))->z7 3 (gy gl gd) [zj (C a b),.int c,.int j]=YW (.ok (zj (C a' b'))):=λw C a b hC gl gd c j a' b' h1 h2=>by
    rw [hC,hC]
    have m1:Az (.int 2) (.int j)=YW (.int (2 * j)):=TY (S3 (by decide))
    have a0:vg [Zu w,zj a,zj b] 0=YW (.str w):=rfl
    have a1:vg [Zu w,zj a,zj b] 1=YW (zj a):=rfl
    have a2:vg [Zu w,zj a,zj b] 2=YW (zj b):=rfl
    have la:=qk a'
    have lb':=qk b'
    simp [z7,gy,zd,qm,pq,e2,jr,e1,za,eC,zm,zk,xx,Ih,zl,zr,zv,zq,zt,z9,xr,a0,a1,a2,zg,kf,m1,qt,Fp,h1,h2,jx,lf,lfs,la,lb']
  intro n c j hn
  cases k with
  | none=>exact absurd rfl hk
  | one=>exact absurd rfl hk
  | name i=>exact absurd rfl hk
  | either a b=>
   have pa:=a.pos
   have pb:=b.pos
   simp only [Kd.lg] at hn
   obtain ⟨m,rfl⟩:∃ m,n=m+1:=⟨n - 1,by omega⟩
   obtain ⟨a',e1,s1,o1⟩:=pf a m c (2 * j) (by omega)
   obtain ⟨b',e2,s2,o2⟩:=pf b m c (2 * j+1) (by omega)
   exact ⟨.either a' b',two "either" .either a b (λ_ _=>rfl) _ _ c j a' b' e1 e2,by simp only [Bm,s1,s2],λo=>⟨o1 o.1,o2 o.2⟩⟩
  | both a b=>
   have pa:=a.pos
   have pb:=b.pos
   simp only [Kd.lg] at hn
   obtain ⟨m,rfl⟩:∃ m,n=m+1:=⟨n - 1,by omega⟩
   obtain ⟨a',e1,s1,o1⟩:=pf a m c (2 * j) (by omega)
   obtain ⟨b',e2,s2,o2⟩:=pf b m c (2 * j+1) (by omega)
   exact ⟨.both a' b',two "both" .both a b (λ_ _=>rfl) _ _ c j a' b' e1 e2,by simp only [Bm,s1,s2],λo=>⟨o1 o.1,o2 o.2⟩⟩
termination_by k=>k.lg
decreasing_by all_goals (simp only [Kd.lg];omega)
noncomputable def Il:FS:=(yz 3 (sr (fe (qt (za 4) (za 5)))))
theorem UC(r0 r1 r2:Option Slot)(acc:List YX)(x y:List Int)(h:x.length+y.length < 64)(ha:acc.length < big):
  Il [r0,r1,r2,YW (.own acc),YW (.loc (qu x)),YW (.loc (qu y))]=YW (.next [r0,r1,r2,YW (.own (acc++[qu (jw BF (x++y))])),YW (.loc (qu x)),YW (.loc (qu y))]):=by
 have h1:=JC x y (by unfold big;omega)
 have h2:=EH (x:=x++y) (by simpa using h)
 simp [Il,yz,sr,fe,qt,e1,e2,za,zm,zk,h1,h2,Iu,Ym,ha]
theorem Ms(r0 r1 r2:Option Slot)(x:List Int):∀ (ys acc:List (List Int)) (x5:Option Slot),(∀ y∈ys,x.length+y.length < 64)->acc.length+ys.length<=5000->
  ∃ x',qy (z8 5) Il (ys.map qu) [r0,r1,r2,YW (.own (acc.map qu)),YW (.loc (qu x)),x5]=YW (.next [r0,r1,r2,YW (.own ((acc++fq x ys).map qu)),YW (.loc (qu x)),x'])
 | [],acc,x5,_,_=>⟨x5,by simp [qy,fq]⟩
 | y::ys,acc,x5,h,hz=>by
  simp only [Zj] at hz
  have t:=UC r0 r1 r2 (acc.map qu) x y (h y (Zz ..)) (by unfold big;simp;omega)
  obtain ⟨x',e⟩:=Ms r0 r1 r2 x ys (acc++[jw BF (x++y)]) (YW (.loc (qu y))) (λz hz=>h z (Z5 _ hz)) (by simp;omega)
  refine ⟨x',?_⟩
  simp only [ZC,qy,z8,cT,cU,t]
  rw [show acc.map qu++[qu (jw BF (x++y))]=(acc++[jw BF (x++y)]).map qu by simp,e]
  simp [fq]
theorem Ju(r0 r1:Option Slot)(ys:List (List Int))(hy:ys.length<=18):∀ (xs acc:List (List Int)) (s2 x4 x5:Option Slot),(s2=YW (.own (ys.map qu))∨s2=YW (.loc (.list (ys.map qu))))->(∀ x∈xs,∀ y∈ys,x.length+y.length < 64)->acc.length+xs.length * 18<=5000->
  ∃ s2' x4' x5',qy (z8 4) (vf 2 (z8 5) Il) (xs.map qu) [r0,r1,s2,YW (.own (acc.map qu)),x4,x5]=YW (.next [r0,r1,s2',YW (.own ((acc++wq xs ys).map qu)),x4',x5'])
 | [],acc,s2,x4,x5,_,_,_=>⟨s2,x4,x5,by simp [qy,wq]⟩
 | x::xs,acc,s2,x4,x5,hs,h,hz=>by
  simp only [Zj] at hz
  have hl:(fq x ys).length=ys.length:=by simp [fq]
  obtain ⟨x',e⟩:=Ms r0 r1 (YW (.loc (.list (ys.map qu)))) x ys acc x5 (h x (Zz ..)) (by omega)
  obtain ⟨s2',x4',x5',e'⟩:=Ju r0 r1 ys hy xs (acc++fq x ys) (YW (.loc (.list (ys.map qu)))) (YW (.loc (qu x))) x' (.inr rfl) (λz hz=>h z (Z5 _ hz)) (by rw [Za,hl];omega)
  refine ⟨s2',x4',x5',?_⟩
  have t:vf 2 (z8 5) Il [r0,r1,s2,YW (.own (acc.map qu)),YW (.loc (qu x)),x5]=YW (.next [r0,r1,YW (.loc (.list (ys.map qu))),YW (.own ((acc++fq x ys).map qu)),YW (.loc (qu x)),x']):=by
   rcases hs with rfl | rfl
   ·simpa [vf] using e
   ·simpa [vf,HS] using e
  simp only [ZC,qy,z8,cT,cU,t]
  rw [e',yw,Z6]
theorem XU:((2:Int) == 1)=false:=rfl
theorem WI:((3:Int) == 1)=false:=rfl
theorem Wp:((3:Int) == 2)=false:=rfl
theorem JY(b:Bool):Az (.list [.tuple []]) (.int (if b=true then 1 else 0))=YW (.list (if b=true then [.tuple []] else [])):=by
 cases b<;>simp [Az,lfs,lf,big]
theorem ae:∀ (k:Kd) (n:Nat),k.lg<=n->k.lg<=63->K8 k->qf n [zj k]=YW (.ok (wa (lb k)))
 | .none,n+1,_,_,_=>by
  have hm:=JY false
  simp only [Z4,if_false] at hm
  unfold qf
  simp [z7,xa,zd,qm,qx,jr,e1,xx,e2,za,eC,zm,zk,zj,av,vh,zr,kf,qv,zv,zq,zt,lf,lfs,r8,z9,xr,vg,BE,Wx,Jy,hm,wa,lb]
 | .one,n+1,_,_,_=>by
  have hm:=JY true
  simp only [if_true] at hm
  unfold qf
  simp [z7,xa,zd,qm,qx,jr,e1,xx,e2,za,eC,zm,zk,zj,av,vh,zr,kf,qv,zv,zq,zt,lf,lfs,r8,z9,xr,vg,BE,Jy,hm,wa,qu,lb]
 | .name i,n+1,_,_,_=>by
  have e1':vg [Zu "name",.int i] 1=YW (.int i):=rfl
  unfold qf
  simp [z7,xa,zd,qm,qx,jr,e1,xx,e2,za,eC,zm,zk,zj,av,vh,zr,qv,zv,zq,zt,lf,lfs,z9,xr,e1',zl,XU,wa,qu,lb]
 | .either a b,n+1,hn,h8,⟨fa,fb,hab⟩=>by
  have pa:=a.pos
  have pb:=b.pos
  simp only [Kd.lg] at hn h8
  have ea:=ae a n (by omega) (by exact Zq ‹_›) fa
  have eb:=ae b n (by omega) (by exact Z2 ‹_›) fb
  have la:=Fc a fa
  have lb':=Fc b fb
  have e0:vg [Zu "either",zj a,zj b] 0=YW (.str "either"):=rfl
  have e1':vg [Zu "either",zj a,zj b] 1=YW (zj a):=rfl
  have e2':vg [Zu "either",zj a,zj b] 2=YW (zj b):=rfl
  have had:il (.list ((lb a).map qu)) (.list ((lb b).map qu))=YW (wa (lb a++lb b)):=by
   have:(lb a).length+(lb b).length<=big:=by unfold big;omega
   simp [il,wa,HS,this]
  have hs:=AF (rs:=lb a++lb b) (by simp;omega)
  simp only [wa] at ea eb
  unfold qf
  simp [z7,xa,zd,qm,qx,jr,e1,xx,e2,za,eC,zm,zk,zj,av,vh,zr,zq,zt,z9,xr,e0,e1',e2',zl,WI,Wp,zo,zg,ea,eb,jx,gz (HS _),fe,qt,had,hs,lb]
 | .both a b,n+1,hn,h8,hF=>by
  obtain ⟨fa,fb,hab⟩:=id hF
  have pa:=a.pos
  have pb:=b.pos
  have h18:=Fc (.both a b) hF
  simp only [Kd.lg] at hn h8
  have ea:=ae a n (by omega) (by exact Zq ‹_›) fa
  have eb:=ae b n (by omega) (by exact Z2 ‹_›) fb
  have la:=Fc a fa
  have lb':=Fc b fb
  have e0:vg [Zu "both",zj a,zj b] 0=YW (.str "both"):=rfl
  have e1':vg [Zu "both",zj a,zj b] 1=YW (zj a):=rfl
  have e2':vg [Zu "both",zj a,zj b] 2=YW (zj b):=rfl
  simp only [lb,vx] at h18
  have hs:=AF (rs:=wq (lb a) (lb b)) (by omega)
  obtain ⟨s2',x4',x5',el⟩:=Ju (YW (.par (zj (.both a b)))) (YW (.loc (.list ((lb a).map qu)))) (lb b) lb' (lb a) [] (YW (.own ((lb b).map qu))) YY YY (.inl rfl) (λx hx y hy=>by have:=By a x hx;have:=By b y hy;omega) (by simp;omega)
  simp only [zj,iJ,dG] at el
  simp only [wa] at ea eb hs
  have shape:xa (qf n)=(zd (qm (qx (jr (za 0)) (eC (.int 1))) (zr (kf (qv [zv []]) (r8 (qx (z9 (za 0) (eC (.int 0))) (eC (.str "one")))))) zl) (zd (qm (qx (jr (za 0)) (eC (.int 2))) (zr (qv [zv [z9 (za 0) (eC (.int 1))]])) zl) (zd (zo 1 (zg (qf n) [z9 (za 0) (eC (.int 1))])) (zd (zo 2 (zg (qf n) [z9 (za 0) (eC (.int 2))])) (zd (qm (qx (z9 (za 0) (eC (.int 0))) (eC (.str "either"))) (zr (fe (qt (za 1) (za 2)))) zl) (zd (zo 3 (qv [])) (zd (vf 1 (z8 4) (vf 2 (z8 5) Il)) (zr (fe (za 3)))))))))):=rfl
  show z7 6 (xa (qf n)) [zj (.both a b)]=_
  rw [shape]
  have hF:∀ ρ:f9,ρ[1]? =YW (YW (.own ((lb a).map qu)))->vf 1 (z8 4) (vf 2 (z8 5) Il) ρ=qy (z8 4) (vf 2 (z8 5) Il) ((lb a).map qu) (ρ.set 1 (YW (.loc (.list ((lb a).map qu))))):=λρ h=>by
   rw [vf,h]
  simp [z7,zd,qm,qx,jr,e1,xx,e2,za,eC,zm,zk,zj,av,vh,zr,zq,zt,z9,xr,e0,e1',e2',zl,WI,Wp,zo,zg,ea,eb,jx,gz (HS _),gz (show lfs []=true from rfl),KW,qv,lfs,hF,el,fe,hs,lb,wa]
 | .none,0,h,_,_=>by simp [Kd.lg] at h
 | .one,0,h,_,_=>by simp [Kd.lg] at h
 | .name _,0,h,_,_=>by simp [Kd.lg] at h
 | .either a b,0,h,_,_=>by have:=a.pos;simp only [Kd.lg] at h;omega
 | .both a b,0,h,_,_=>by have:=a.pos;simp only [Kd.lg] at h;omega
theorem sd{z:Sz}(hz:z.In 0 1000000):∀ (k:Kd) (n:Nat),k.lg<=n->k.lg<=12->k.Ok->j3 n [zj k,u5 z]=YW (.ok (.int (dk z k)))
 | .none,n+1,_,_,_=>by
  unfold j3
  simp [z7,aj,zd,zo,z9,e2,za,eC,zm,zk,zj,xr,vg,BE,u7,lf,qm,qx,av,vh,zr,dk,jr,e1,xx,r8,Jy,Wx]
 | .one,n+1,_,_,_=>by
  unfold j3
  simp [z7,aj,zd,zo,z9,e2,za,eC,zm,zk,zj,xr,vg,BE,u7,lf,qm,qx,av,vh,zr,dk,jr,e1,xx,r8,Jy]
 | .name i,n+1,_,_,⟨h0,h3⟩=>by
  unfold j3
  have e1':vg [Zu "name",.int i] 1=YW (.int i):=rfl
  simp [z7,aj,zd,zo,z9,e2,za,eC,zm,zk,zj,xr,e1',Tf h0 h3,u5,u7,lf,qm,qx,av,vh,zr,dk,zl,jr,e1,xx]
 | .either a b,n+1,hn,h8,⟨oa,ob⟩=>by
  have pa:=a.pos
  have pb:=b.pos
  simp only [Kd.lg] at hn h8
  have ea:=sd hz a n (by omega) (by exact Zq ‹_›) oa
  have eb:=sd hz b n (by omega) (by exact Z2 ‹_›) ob
  unfold j3
  have e0:vg [Zu "either",zj a,zj b] 0=YW (.str "either"):=rfl
  have e1':vg [Zu "either",zj a,zj b] 1=YW (zj a):=rfl
  have e2':vg [Zu "either",zj a,zj b] 2=YW (zj b):=rfl
  simp [z7,aj,zd,zo,z9,e2,za,eC,zm,zk,zj,xr,e0,e1',e2',u7,lf,qm,qx,av,vh,zr,dk,zl,zg,zq,zt,ea,eb,jx,qt,il,jr,e1,xx]
 | .both a b,n+1,hn,h8,⟨oa,ob⟩=>by
  have pa:=a.pos
  have pb:=b.pos
  simp only [Kd.lg] at hn h8
  have ea:=sd hz a n (by omega) (by exact Zq ‹_›) oa
  have eb:=sd hz b n (by omega) (by exact Z2 ‹_›) ob
  have em:=QQ hz (a:=a) (b:=b) (by exact Zq ‹_›) (by exact Z2 ‹_›)
  unfold j3
  have e0:vg [Zu "both",zj a,zj b] 0=YW (.str "both"):=rfl
  have e1':vg [Zu "both",zj a,zj b] 1=YW (zj a):=rfl
  have e2':vg [Zu "both",zj a,zj b] 2=YW (zj b):=rfl
  simp [z7,aj,zd,zo,z9,e2,za,eC,zm,zk,zj,xr,e0,e1',e2',u7,lf,qm,qx,av,vh,zr,dk,KW,zl,zg,zq,zt,ea,eb,jx,kf,Az,em,jr,e1,xx]
 | .none,0,h,_,_=>by simp [Kd.lg] at h
 | .one,0,h,_,_=>by simp [Kd.lg] at h
 | .name _,0,h,_,_=>by simp [Kd.lg] at h
 | .either a b,0,h,_,_=>by have:=a.pos;simp only [Kd.lg] at h;omega
 | .both a b,0,h,_,_=>by have:=a.pos;simp only [Kd.lg] at h;omega
theorem Wo:bu 4=[.int 0,.int 1,.int 2,.int 3]:=rfl
theorem IY(n:Nat)(c de:Int)(h:0<=de):∃ z:Sz,yc (n+2) [.int c,.int de]=YW (.ok (u5 z))/\z.In 0 de:=by
 have hp:0 < de+1:=by omega
 refine ⟨⟨A5 c 900 (de+1),A5 c 901 (de+1),A5 c 902 (de+1),A5 c 903 (de+1)⟩,?_,?_⟩
 ·unfold yc
  simp [z7,Du,zr,sr,e1,ro,Ra,eC,big,Wo,b7,mw,zg,zq,za,zt,zm,zk,qt,e2,il,sj _ _ _ _ hp,jx,lf,lfs,Fn,u5]
 ·have a:=λk=>p6 (c:=c) (k:=k) hp
  have b:=λk=>r6 (c:=c) (k:=k) hp
  have a0:=a 900;have a1:=a 901;have a2:=a 902;have a3:=a 903
  have b0:=b 900;have b1:=b 901;have b2:=b 902;have b3:=b 903
  exact ⟨⟨a0,fI b0⟩,⟨a1,fI b1⟩,⟨a2,fI b2⟩,⟨a3,fI b3⟩⟩
theorem Pb(a b:List Int):Zm (qu a) (qu b)=(a == b):=by simp [qu,Zm,EJ]
theorem Js:∀ a b:List (List Int),ZW (a.map qu) (b.map qu)=(a == b)
 | [],[]=>rfl
 | [],_::_=>rfl
 | _::_,[]=>rfl
 | x::xs,y::ys=>by simp only [ZC,ZW,Pb,Js xs ys,List.cons_beq_cons]
theorem JI:∀ a:List (List Int),Zg (a.map qu)=true
 | []=>rfl
 | x::xs=>by
  have:=bf x
  simp only [ZC,Zg,JI xs,Bool.and_true]
  exact this
theorem RZ(a b:List (List Int)):Ir (wa a) (wa b)=YW (.bool (!(a == b))):=by
 have h1:ij (wa a) (wa b)=true:=by
  have d:=HH a
  simp only [ij,wa,Zw,JI,bI,ZA,decide_eq_true_eq]
  omega
 unfold wa at *
 simp [Ir,vh,h1,Zm,Js]
theorem GQ:∀ us:List Th,Zg (us.map zh)=true
 | []=>rfl
 | u::us=>by simp only [ZC,Zg,GQ us,KN.kD_lay _ (dg u),Bool.and_self]
theorem IR:∀ us:List Th,lfs (us.map zh)=true
 | []=>rfl
 | u::us=>by simp [lfs,fj,IR us]
theorem OZ{z:Sz}{k:Kd}(hk:k.lg<=8){u:Th}(hu:jo z k u):m8 (zh u) (.list (e7 z k))=YW (.bool false):=by
 have hd:=fg z k u hu
 rw [sq]
 have h1:Cr (zh u) ((Eu z k).map zh)=true:=by
  simp only [Cr,KN.kD_lay _ (dg u),GQ,bI,decide_eq_true_eq]
  omega
 have h2:((Eu z k).map zh).any (λy=>Zm y (zh u))=true:=by
  rw [List.any_eq_true]
  exact ⟨zh u,aV.mpr ⟨u,(en z k u).mpr hu,rfl⟩,(KN.kD_eqv _ _ (dg u) (dg u)).mpr rfl⟩
 simp [m8,Ep,h1,h2]
theorem Sa{t:Th}(h:(zh t).depth<=60):Ir (zh t) (zh t)=YW (.bool false):=by
 have hq:Zm (zh t) (zh t)=true:=(KN.kD_eqv _ _ (dg t) (dg t)).mpr rfl
 have hl:=KN.kD_lay _ (dg t)
 have ho:ij (zh t) (zh t)=true:=by simp [ij,hl,h]
 have he:vh (zh t) (zh t)=YW true:=by
  cases t with
  | num i=>simp [zh,vh]
  | unit=>simp only [zh] at *;simp [vh,ho,hq]
  | left t=>simp only [zh] at *;simp [vh,ho,hq]
  | right t=>simp only [zh] at *;simp [vh,ho,hq]
  | pair a b=>simp only [zh] at *;simp [vh,ho,hq]
 simp [Ir,he]
noncomputable def We(gs:FC):FS:=(zd (zo 8 (zg gs [za 1,za 2,za 7])) (zd (qm (o7 (yf (za 8) (za 5)) (o7 (Ow false (za 8) 6) (An (zg gs [za 2,za 1,za 8]) (za 7)))) (zr (eC (.bool false))) zl) (I9 6 (za 8))))
theorem P6{z:Sz}(gs:FC)(a b:Kd)(f:Th->Th)(ha:a.lg<=8)(hb:b.lg<=8)(f1:∀ t,jo z a t->jo z b (f t)/\gs [zj a,zj b,zh t]=YW (.ok (zh (f t))))(f2:∀ t u,jo z a t->jo z a u->f t=f u->t=u)
  (f3:∀ t,jo z a t->gs [zj b,zj a,zh (f t)]=YW (.ok (zh t))) (x0 x3 x4:Option Slot):∀ (ts ds:List Th) (x7 x8:Option Slot),(∀ t∈ts,jo z a t)->(∀ t∈ds,jo z a t)->(ds++ts).Nodup->(ds++ts).length < big->
  ∃ y7 y8,qy (z8 7) (We gs) (ts.map zh) [x0,YW (.loc (zj a)),YW (.loc (zj b)),x3,x4,YW (.own (e7 z b)),YW (.dct ((ds.map f).map zh)),x7,x8]=
   YW (.next [x0,YW (.loc (zj a)),YW (.loc (zj b)),x3,x4,YW (.own (e7 z b)),YW (.dct (((ds++ts).map f).map zh)),y7,y8])
 | [],ds,x7,x8,_,_,_,_=>⟨x7,x8,by simp [qy]⟩
 | t::ts,ds,x7,x8,hts,hds,nd,hbg=>by
  have ht:=hts t (Zz ..)
  obtain ⟨hu,e1⟩:=f1 t ht
  have e2':=f3 t ht
  have kq:Bp ((ds.map f).map zh) (zh (f t))=true:=Uq hb hu λq hq=>by
   obtain ⟨q',hq',rfl⟩:=aV.mp hq
   exact (f1 _ (hds _ hq')).1
  have hn:Bn ((ds.map f).map zh) (zh (f t))=false:=by
   cases q:Bn ((ds.map f).map zh) (zh (f t)) with
   | false=>rfl
   | true=>
    obtain ⟨q',hq',e⟩:=aV.mp ((QV _ _).mp q)
    have:=f2 _ _ (hds _ hq') ht e
    subst this
    rw [List.nodup_append] at nd
    exact absurd rfl (nd.2.2 _ hq' _ (Zz ..))
  have lq:((ds.map f).map zh).length < big:=by simp at hbg ⊢;omega
  have hne:Ir (zh t) (zh t)=YW (.bool false):=Sa (by have:=fg z a t ht;omega)
  have hin:=OZ hb hu
  have lfu:=fj (f t)
  have sm:We gs [x0,YW (.loc (zj a)),YW (.loc (zj b)),x3,x4,YW (.own (e7 z b)),YW (.dct ((ds.map f).map zh)),YW (.loc (zh t)),x8]=
    YW (.next [x0,YW (.loc (zj a)),YW (.loc (zj b)),x3,x4,YW (.own (e7 z b)),YW (.dct (((ds++[t]).map f).map zh)),YW (.loc (zh t)),YW (.loc (zh (f t)))]):=by
   have ea:((ds++[t]).map f).map zh=(ds.map f).map zh++[zh (f t)]:=by simp
   rw [ea]
   generalize (ds.map f).map zh=KS at kq hn lq
   generalize zh (f t)=U at e1 e2' kq hn lfu hin
   generalize e7 z b=G at hin
   simp [We,zd,zo,zg,zq,za,zt,zk,zm,e1,e2',jx,yr lfu,qm,o7,yf,e2,hin,Ow,kq,hn,An,hne,zl,I9,lq]
  obtain ⟨y7,y8,ih⟩:=P6 gs a b f ha hb f1 f2 f3 x0 x3 x4 ts (ds++[t]) (YW (.loc (zh t))) (YW (.loc (zh (f t)))) (λq hq=>hts q (Z5 _ hq)) (λq hq=>by
   rcases aO.mp hq with m | m
   ·exact hds q m
   ·have:q=t:=by simpa using m
    subst this;exact ht) (by simpa using nd) (by simpa using hbg)
  refine ⟨y7,y8,?_⟩
  rw [ZC]
  refine (fh (tg:=z8 7) (d:=zh t) rfl sm).trans ?_
  rw [ih]
  simp
theorem MZ(n:Nat)(a b:Kd)(d:YX)(h:xb n [zj a,zj b,d]=YW (.exc 5)):wd (n+1) [zj a,zj b,d]=YW (.ok (.bool true)):=by
 show z7 4 (o4 (xb n)) [zj a,zj b,d]=_
 simp [z7,o4,zd,PD,oo,zg,zq,za,zt,zm,zk,h,jx,vp,zr,yv,NY,uw,va,Aw,gn,lf]
theorem VT(xs:List YX):L6 xs YY (YW 10)=xs.take (min 10 xs.length):=by
 simp [L6,V2]
theorem OI{k:Kd}(h:sE k<=8):k.lg<=8/\K8 k:=by
 have:=vv k
 exact ⟨by exact Zo ‹_› ‹_›,Pm k (by exact Zo ‹_› ‹_›)⟩
noncomputable def Q9(gs gt gb gr:FC):FS:=(zd (zo 4 (Tz (zg gt [za 1,za 3]) D5 (BQ (eC (.int 10))))) (zd (qm (An (zg gb [za 1]) (zg gb [za 2])) (zr (o7 (qx (za 4) (qv [])) (zg gr [za 1,za 2,z9 (za 4) (eC (.int 0))]))) zl) (zd (zo 5 (zg gt [za 2,za 3])) (zd (LG 6) (zd (vf 4 (z8 7) (We gs)) (zr (o7 (qx (jr (za 4)) (eC (.int 10))) (qx (IT 6) (jr (za 5))))))))))
theorem Qi{z:Sz}(hz:z.In 0 3)(hz6:z.In 0 1000000)(n:Nat)(a b:Kd)(ha:sE a<=8)(hb:sE b<=8)(oa:a.Ok)(ob:b.Ok)(x0:Option Slot):
  Q9 (xb (n+65)) (ja (n+65)) (qf (n+65)) (wd (n+65)) [x0,YW (.loc (zj a)),YW (.loc (zj b)),YW (.loc (u5 z)),YY,YY,YY,YY,YY]=YW (.ret (.bool true)):=by
 obtain ⟨la,Fa⟩:=OI ha
 obtain ⟨lb',Fb⟩:=OI hb
 have ta:=mh hz hz6 a (n+65) (by omega) la oa
 have tb:=mh hz hz6 b (n+65) (by omega) lb' ob
 have ba:=ae a (n+65) (by omega) (by omega) Fa
 have bb:=ae b (n+65) (by omega) (by omega) Fb
 have fa:=oy z a
 have fb:=oy z b
 have hsa:=dq hz hz6 la
 have hq:=RZ (lb a) (lb b)
 have hT:∃ ts:List Th,(∀ t∈ts,jo z a t)/\ts.Nodup/\ts.length<=10/\(ts.length=10∨ts=Eu z a)/\Vy YY (YW 10) (.list (e7 z a))=YW (.list (ts.map zh)):=by
  refine ⟨(Eu z a).take (min 10 (Eu z a).length),λt h=>(en z a t).mp (List.mem_of_mem_take h),(rn z a).sublist (List.take_sublist _ _),by rw [cM];omega,?_,?_⟩
  ·by_cases h:10<=(Eu z a).length
   ·left;rw [cM];omega
   ·right;rw [List.take_of_length_le (by omega)]
  ·simp only [Vy,fa,if_true,VT]
   rw [sq,Z9,List.map_take]
 obtain ⟨ts,t1,t2,t3,t4,t5⟩:=hT
 have lts:lfs (ts.map zh)=true:=IR ts
 have s1:zo 4 (Tz (zg (ja (n+65)) [za 1,za 3]) D5 (BQ (eC (.int 10)))) [x0,YW (.loc (zj a)),YW (.loc (zj b)),YW (.loc (u5 z)),YY,YY,YY,YY,YY]=YW (.next [x0,YW (.loc (zj a)),YW (.loc (zj b)),YW (.loc (u5 z)),YW (.own (ts.map zh)),YY,YY,YY,YY]):=by
  simp [zo,Tz,zg,zq,za,zt,zm,zk,ta,jx,D5,BQ,eC,t5,gz lts]
 unfold Q9
 rw [jt s1]
 by_cases hl:lb a=lb b
 ·have q:(lb a == lb b)=true:=by simpa using hl
  rw [q] at hq
  have s2:qm (An (zg (qf (n+65)) [za 1]) (zg (qf (n+65)) [za 2])) (zr (o7 (qx (za 4) (qv [])) (zg (wd (n+65)) [za 1,za 2,z9 (za 4) (eC (.int 0))]))) zl [x0,YW (.loc (zj a)),YW (.loc (zj b)),YW (.loc (u5 z)),YW (.own (ts.map zh)),YY,YY,YY,YY]=YW (.next [x0,YW (.loc (zj a)),YW (.loc (zj b)),YW (.loc (u5 z)),YW (.own (ts.map zh)),YY,YY,YY,YY]):=by
   simp [qm,An,e2,zg,zq,za,zt,zm,zk,ba,bb,jx,hq,zl]
  have s3:zo 5 (zg (ja (n+65)) [za 2,za 3]) [x0,YW (.loc (zj a)),YW (.loc (zj b)),YW (.loc (u5 z)),YW (.own (ts.map zh)),YY,YY,YY,YY]=YW (.next [x0,YW (.loc (zj a)),YW (.loc (zj b)),YW (.loc (u5 z)),YW (.own (ts.map zh)),YW (.own (e7 z b)),YY,YY,YY]):=by
   simp [zo,zg,zq,za,zt,zk,tb,jx,gz fb]
  obtain ⟨f,f1,f2,f3,f4⟩:=Rh (z:=z) (n+1) a b ha hb hl (Fc a Fa) Fa Fb
  obtain ⟨y7,y8,L⟩:=P6 (xb (n+65)) a b f la lb' f1 f2 f3 x0 (YW (.loc (u5 z))) (YW (.loc (.list (ts.map zh)))) ts [] YY YY t1 (by simp) (by simpa using t2) (Nat.lt_of_le_of_lt (show ([]++ts).length<=10 by simpa using t3) (by decide))
  have s5:vf 4 (z8 7) (We (xb (n+65))) [x0,YW (.loc (zj a)),YW (.loc (zj b)),YW (.loc (u5 z)),YW (.own (ts.map zh)),YW (.own (e7 z b)),YW (.dct []),YY,YY]=YW (.next [x0,YW (.loc (zj a)),YW (.loc (zj b)),YW (.loc (u5 z)),YW (.loc (.list (ts.map zh))),YW (.own (e7 z b)),YW (.dct ((ts.map f).map zh)),y7,y8]):=L
  have s4:LG 6 [x0,YW (.loc (zj a)),YW (.loc (zj b)),YW (.loc (u5 z)),YW (.own (ts.map zh)),YW (.own (e7 z b)),YY,YY,YY]=YW (.next [x0,YW (.loc (zj a)),YW (.loc (zj b)),YW (.loc (u5 z)),YW (.own (ts.map zh)),YW (.own (e7 z b)),YW (.dct []),YY,YY]):=rfl
  rw [jt s2,jt s3,jt s4,jt s5]
  have hgl:=Ac hz6 b
  rw [f4,<- Ac hz6 a] at hgl
  have lq:((ts.length:Int) == 10)=true∨(((ts.length:Int) == 10)=false/\(((ts.map f).map zh).length:Int) == ((e7 z b).length:Int)):=by
   by_cases h:ts.length=10
   ·left;rw [h];rfl
   ·right
    refine ⟨by simp;omega,?_⟩
    rcases t4 with h' | h'
    ·exact absurd h' h
    ·subst h'
     rw [hgl,sq]
     simp
  rcases lq with h | ⟨h,h'⟩
  ·simp [zr,o7,qx,e2,jr,e1,za,zm,zk,xx,eC,nu,h,lf]
  ·simp only [Z9] at h'
   simp [zr,o7,qx,e2,jr,e1,za,zm,zk,xx,eC,nu,h,IT,h',lf]
 ·have q:(lb a == lb b)=false:=by simpa using hl
  rw [q] at hq
  have hr:=λd=>MZ (n+64) a b d (QI n a b d (by omega) (by omega) Fa Fb hl hq)
  have cond:An (zg (qf (n+65)) [za 1]) (zg (qf (n+65)) [za 2]) [x0,YW (.loc (zj a)),YW (.loc (zj b)),YW (.loc (u5 z)),YW (.own (ts.map zh)),YY,YY,YY,YY]=YW (.ok 2 (.bool true)):=by
   simp [An,e2,zg,zq,za,zt,zm,ba,bb,jx,hq]
  refine Rx ?_
  rw [show (qm (An (zg (qf (n+65)) [za 1]) (zg (qf (n+65)) [za 2])) (zr (o7 (qx (za 4) (qv [])) (zg (wd (n+65)) [za 1,za 2,z9 (za 4) (eC (.int 0))]))) zl) [x0,YW (.loc (zj a)),YW (.loc (zj b)),YW (.loc (u5 z)),YW (.own (ts.map zh)),YY,YY,YY,YY]=_ from Wf cond]
  have lay:=K7 (ts.map zh) (GQ ts)
  have he:av (.list (ts.map zh)) (.list [])=YW (.bool (ts.map zh).isEmpty):=by
   unfold Ir at lay
   unfold av
   cases w:vh (.list (ts.map zh)) (.list []) with
   | none=>rw [w] at lay;cases lay
   | some v=>rw [w] at lay;simp only [aH,ZO,YX.bool.injEq] at lay ⊢;cases v<;>cases h:(ts.map zh).isEmpty<;>simp_all
  cases ts with
  | nil=>
   have he':av (.list []) (.list [])=YW (.bool true):=he
   simp [zr,o7,qx,e2,za,qv,zq,zt,zm,zk,lfs,he',lf]
  | cons t ts=>
   have he':av (.list (zh t::ts.map zh)) (.list [])=YW (.bool false):=he
   have hr':=hr (zh t)
   simp [zr,o7,qx,e2,za,qv,zq,zt,zm,zk,lfs,he',zg,z9,eC,xr,vg,BE,hr',jx,lf]
theorem YT{z:Sz}(h:z.In 0 1):z.In 0 3:=by simp only [Sz.In] at *;omega
theorem Y9{z:Sz}(h:z.In 0 3):z.In 0 1000000:=by simp only [Sz.In] at *;omega
theorem PV(ns:List Int)(_:ns.length<=63):Gj 71 [.list (ns.map .int)]=YW (.ok (.bool true)):=by
 show z7 9 (Mi (xb 70) (ja 70) (qf 70) (wd 70) (j3 70) (yc 70) (qi 70) (w9 70) (ve 70) (j5 70)) [.list (ns.map .int)]=_
 have c0:=AZ 68 ns 0
 have c1:=AZ 68 ns 1
 have c12:=AZ 68 ns 12
 have c13:=AZ 68 ns 13
 simp only [Nat.reduceAdd,Int.cast_ofNat_Int] at c0 c1 c12 c13
 generalize uu ns 0=v0 at c0
 generalize uu ns 1=v1 at c1
 generalize uu ns 12=LZ at c12
 generalize uu ns 13=v13 at c13
 have m4:0<=v1 % 4/\v1 % 4 < 4:=by omega
 obtain ⟨a,ek,oa,la⟩:=HQ 8 69 v0 (1+v1 % 4) 1 (by omega) (by exact aQ _ _)
 have hl4:a.lg<=4:=by omega
 have hs:sE a<=8:=by
  have h1:=(P4 a (by omega)).2
  have h2:∀ i:Nat,i<=4->TS i<=8:=by
   intro i h
   have:i=0∨i=1∨i=2∨i=3∨i=4:=by omega
   rcases this with rfl | rfl | rfl | rfl | rfl<;>decide
  exact Zo h1 (h2 _ hl4)
 obtain ⟨b0,r,g,eo⟩:=Pw 66 ns 2 a (by omega) (by exact aQ _ _)
 simp only [Nat.reduceAdd,Int.cast_ofNat_Int] at eo
 have sb0:sE b0<=8:=Zo (O1 _ _ _ g) hs
 have ob0:b0.Ok:=(BU (z:=⟨1,1,1,1⟩) r a b0 g).ok oa
 have lb0:=vv b0
 obtain ⟨b1,el,hsh,ob1⟩:=pf b0 69 LZ 1 (by omega)
 have sb1:sE b1<=8:=by rw [<- (Dr b1).1,hsh,(Dr b0).1];exact sb0
 obtain ⟨z0,ez0,hz0⟩:=IY 68 v13 3 (by decide)
 obtain ⟨z1,ez1,hz1⟩:=IY 68 v13 1 (by decide)
 simp only [Nat.reduceAdd] at ez0 ez1 el ek
 have ec:=sd (Y9 hz0) a 70 (by omega) (by omega) oa
 have mod4:FP (.int v1) (.int 4)=YW (.int (v1 % 4)):=H4 (by decide)
 have div4:Nu (.int v1) (.int 4)=YW (.int (v1 / 4)):=T9 (by decide) (by decide)
 have mod3:FP (.int (v1 / 4)) (.int 3)=YW (.int (v1 / 4 % 3)):=H4 (by decide)
 have lfa:=qk a
 have lfb0:=qk b0
 have lfb1:=qk b1
 have lz0:lf (u5 z0)=true:=rfl
 have lz1:lf (u5 z1)=true:=rfl
 have e:Mi (xb 70) (ja 70) (qf 70) (wd 70) (j3 70) (yc 70) (qi 70) (w9 70) (ve 70) (j5 70)=(zd (zo 1 (zg (j5 70) [zg (qi 70) [za 0,eC (.int 0)],qt (eC (.int 1)) (v9 (zg (qi 70) [za 0,eC (.int 1)]) (eC (.int 4))),eC (.int 1)])) (zd (zo 2 (zg (ve 70) [za 0,eC (.int 2),za 1])) (zd (qm (qx (v9 (ni (zg (qi 70) [za 0,eC (.int 1)]) (eC (.int 4))) (eC (.int 3))) (eC (.int 1))) (zo 2 (zg (w9 70) [za 2,zg (qi 70) [za 0,eC (.int 12)],eC (.int 1)])) zl) (zd (zo 3 (zg (yc 70) [zg (qi 70) [za 0,eC (.int 13)],eC (.int 3)])) (zd (qm (FA (zg (j3 70) [za 1,za 3]) (eC (.int 10))) (zo 3 (zg (yc 70) [zg (qi 70) [za 0,eC (.int 13)],eC (.int 1)])) zl) (Q9 (xb 70) (ja 70) (qf 70) (wd 70))))))):=rfl
 generalize gD (ns.map .int)=D at *
 have s1:zo 1 (zg (j5 70) [zg (qi 70) [za 0,eC (.int 0)],qt (eC (.int 1)) (v9 (zg (qi 70) [za 0,eC (.int 1)]) (eC (.int 4))),eC (.int 1)]) [YW (.par D),YY,YY,YY,YY,YY,YY,YY,YY]=YW (.next [YW (.par D),YW (.loc (zj a)),YY,YY,YY,YY,YY,YY,YY]):=by
  simp [zo,zg,zq,za,eC,zt,zm,zk,c0,c1,jx,qt,v9,e2,mod4,Fp,ek,u7,lfa]
 have s2:zo 2 (zg (ve 70) [za 0,eC (.int 2),za 1]) [YW (.par D),YW (.loc (zj a)),YY,YY,YY,YY,YY,YY,YY]=YW (.next [YW (.par D),YW (.loc (zj a)),YW (.loc (zj b0)),YY,YY,YY,YY,YY,YY]):=by
  simp [zo,zg,zq,za,eC,zt,zk,eo,jx,u7,lfb0]
 have s3:∃ b:Kd,sE b<=8/\b.Ok/\qm (qx (v9 (ni (zg (qi 70) [za 0,eC (.int 1)]) (eC (.int 4))) (eC (.int 3))) (eC (.int 1))) (zo 2 (zg (w9 70) [za 2,zg (qi 70) [za 0,eC (.int 12)],eC (.int 1)])) zl [YW (.par D),YW (.loc (zj a)),YW (.loc (zj b0)),YY,YY,YY,YY,YY,YY]=YW (.next [YW (.par D),YW (.loc (zj a)),YW (.loc (zj b)),YY,YY,YY,YY,YY,YY]):=by
  cases q:(v1 / 4 % 3 == 1) with
  | true=>exact ⟨b1,sb1,ob1 ob0,by simp [qm,qx,v9,ni,e2,zg,zq,za,eC,zt,zm,zk,c1,jx,div4,mod3,nu,q,zo,c12,el,u7,lfb1]⟩
  | false=>exact ⟨b0,sb0,ob0,by simp [qm,qx,v9,ni,e2,zg,zq,za,eC,zt,zm,zk,c1,jx,div4,mod3,nu,q,zl]⟩
 obtain ⟨b,sb,ob,s3⟩:=s3
 have s4:zo 3 (zg (yc 70) [zg (qi 70) [za 0,eC (.int 13)],eC (.int 3)]) [YW (.par D),YW (.loc (zj a)),YW (.loc (zj b)),YY,YY,YY,YY,YY,YY]=YW (.next [YW (.par D),YW (.loc (zj a)),YW (.loc (zj b)),YW (.loc (u5 z0)),YY,YY,YY,YY,YY]):=by
  simp [zo,zg,zq,za,eC,zt,zk,c13,jx,ez0,u7,lz0]
 have s5:∃ z:Sz,z.In 0 3/\qm (FA (zg (j3 70) [za 1,za 3]) (eC (.int 10))) (zo 3 (zg (yc 70) [zg (qi 70) [za 0,eC (.int 13)],eC (.int 1)])) zl [YW (.par D),YW (.loc (zj a)),YW (.loc (zj b)),YW (.loc (u5 z0)),YY,YY,YY,YY,YY]=YW (.next [YW (.par D),YW (.loc (zj a)),YW (.loc (zj b)),YW (.loc (u5 z)),YY,YY,YY,YY,YY]):=by
  cases q:(decide ((10:Int) < dk z0 a)) with
  | true=>exact ⟨z1,YT hz1,by simp only [qm,FA,e2,zg,zq,za,eC,zt,zm,zk,ZQ,ZU,ec,jx,Vz,q,aH];simp [zo,zg,zq,za,eC,zt,zk,c13,jx,ez1,u7,lz1]⟩
  | false=>exact ⟨z0,hz0,by simp only [qm,FA,e2,zg,zq,za,eC,zt,zm,zk,ZQ,ZU,ec,jx,Vz,q,aH,zl]⟩
 obtain ⟨z,hz,s5⟩:=s5
 have s6:=Qi hz (Y9 hz) 5 a b hs sb oa ob (YW (.par D))
 refine AW ?_
 show Mi (xb 70) (ja 70) (qf 70) (wd 70) (j3 70) (yc 70) (qi 70) (w9 70) (ve 70) (j5 70) [YW (.par D),YY,YY,YY,YY,YY,YY,YY,YY]=_
 rw [e,jt s1,jt s2,jt s3,jt s4,jt s5]
 exact s6
end KT
namespace KT
open PySem PySem.Spec PyProof.Rows L2
structure TxtF(K:Zb)(mg:Z3->Option YZ):Prop where
 t_crossed:FunT K mg "crossed" sy ["thing"]
 t_grouped_pair:FunT K mg "grouped_pair" bo ["thing"]
 t_grouped_side:FunT K mg "grouped_side" bh ["thing"]
 t_swapped:FunT K mg "swapped" tx ["is_both","thing"]
 t_forth_here:FunT K mg "forth_here" eu ["word","found","thing"]
 t_ungrouped_pair:FunT K mg "ungrouped_pair" ud ["thing"]
 t_ungrouped_side:FunT K mg "ungrouped_side" uf ["thing"]
 t_back_here:FunT K mg "back_here" md ["word","found","thing"]
 t_things_along:FunT K mg "things_along" bt ["parts","path","thing"]
 t_thing_by:FunT K mg "thing_by" og ["parts","turning","thing","change"]
 t_kind_here:FunT K mg "kind_here" i6 ["word","found"]
 t_kind_by:FunT K mg "kind_by" Ae ["parts","turning"]
 t_goes:FunT K mg "goes" DZ ["word","found"]
 t_parts_along:FunT K mg "parts_along" az ["kind","path"]
 t_parts_to_turn:FunT K mg "parts_to_turn" uz ["kind","turning"]
 t_brought:FunT K mg "brought" t7 ["kind","row","thing"]
 t_merged:FunT K mg "merged" AX ["first","second","path","row"]
 t_in_line:FunT K mg "in_line" Al ["tree","path","row"]
 t_is_barren:FunT K mg "is_barren" me ["kind"]
 t_barren_tree:FunT K mg "barren_tree" au ["kind","path","row"]
 t_spread_tree:FunT K mg "spread_tree" aw ["first","second","path","row"]
 t_both_of_trees:FunT K mg "both_of_trees" ux ["first","second","path","row"]
 t_factors_in_line:FunT K mg "factors_in_line" g7 ["kind","path","row"]
 t_product_tree:FunT K mg "product_tree" bq ["kind","path","row"]
 t_tree_of:FunT K mg "tree_of" Ai ["kind","path","row"]
 t_row_to_plain:FunT K mg "row_to_plain" br ["kind"]
 t_carried:FunT K mg "carried" t8 ["kind","row","thing"]
 t_gathered:FunT K mg "gathered" oh ["kind"]
 t_bundles:FunT K mg "bundles" tq ["kind"]
 t_sent:FunT K mg "sent" Eb ["one","other","thing"]
 t_law_things:FunT K mg "_law_things" e9 ["kind","sizes"]
 t_law_bundles:FunT K mg "_law_bundles" cq ["kind"]
 t_law_refused:FunT K mg "_law_refused" ax ["one","other","thing"]
 t_law_count:FunT K mg "_law_count" i9 ["kind","sizes"]
 t_law_draw:FunT K mg "_law_draw" om ["cell","k","bound"]
 t_law_sizes:FunT K mg "_law_sizes" i7 ["cell","top"]
 t_law_stir:FunT K mg "_law_stir" n0 ["cell"]
 t_law_cell:FunT K mg "_law_cell" oj ["script","k"]
 t_law_leafed:FunT K mg "_law_leafed" e8 ["kind","cell","k"]
 t_law_part:FunT K mg "_law_part" oq ["kind","path"]
 t_law_paths:FunT K mg "_law_paths" lz ["kind"]
 t_law_put:FunT K mg "_law_put" t6 ["kind","path","piece"]
 t_law_here:FunT K mg "_law_here" n4 ["kind","word"]
 t_law_turned:FunT K mg "_law_turned" eh ["kind","word","path"]
 t_law_all_turnings:FunT K mg "_law_all_turnings" xh ["kind"]
 t_law_other:FunT K mg "_law_other" ly ["script","first","kind"]
 t_law_kind:FunT K mg "_law_kind" oi ["cell","leaves","k"]
 t_law:FunT K mg "law" AA ["script"]
structure ClsF(K:Zb)(mg:Z3->Option YZ)(cv:Nat->YZ)(pp:Params):Prop where
 nought:True
 R_NoTurning:ExcF K mg cv "NoTurning" 2
 R_Unlike:ExcF K mg cv "Unlike" 5
 I_Unlike:IsF K mg cv "Unlike" uw
 I_ValueError:IsF K mg cv "ValueError" va
 I_NoThing:IsF K mg cv "NoThing" gn
 H_KindError:HanF K mg cv "KindError" vp
 V_forth_here:mg "forth_here" =YW (.ref w8)
 V_back_here:mg "back_here" =YW (.ref wu)
 KT_SIDES:KTup K mg "SIDES" (.tuple [.str "left",.str "right"])
 N_sorted:mg "sorted" =YY
structure AllF(P:Z8)(w:ZN)(K:Zb)(mg:Z3->Option YZ)(base:ZM)(cv:Nat->YZ)(n:Nat):Prop where
 f_crossed:FnF (ji P w) P w K mg base cv n "crossed" 1 (xi n)
 f_grouped_pair:FnF (ji P w) P w K mg base cv n "grouped_pair" 1 (vy n)
 f_grouped_side:FnF (ji P w) P w K mg base cv n "grouped_side" 1 (yh n)
 f_swapped:FnF (ji P w) P w K mg base cv n "swapped" 2 (vq n)
 f_forth_here:FnF (ji P w) P w K mg base cv n "forth_here" 3 (yj n)
 f_ungrouped_pair:FnF (ji P w) P w K mg base cv n "ungrouped_pair" 1 (yy n)
 f_ungrouped_side:FnF (ji P w) P w K mg base cv n "ungrouped_side" 1 (wj n)
 f_back_here:FnF (ji P w) P w K mg base cv n "back_here" 3 (vb n)
 f_things_along:FnF (ji P w) P w K mg base cv n "things_along" 3 (vc n)
 f_thing_by:FnF (ji P w) P w K mg base cv n "thing_by" 4 (wc n)
 f_kind_here:FnF (ji P w) P w K mg base cv n "kind_here" 2 (gq n)
 f_kind_by:FnF (ji P w) P w K mg base cv n "kind_by" 2 (vk n)
 f_goes:FnF (ji P w) P w K mg base cv n "goes" 2 (CY n)
 f_parts_along:FnF (ji P w) P w K mg base cv n "parts_along" 2 (fv n)
 f_parts_to_turn:FnF (ji P w) P w K mg base cv n "parts_to_turn" 2 (jb n)
 f_brought:FnF (ji P w) P w K mg base cv n "brought" 3 (af n)
 f_merged:FnR (ji P w) P w K mg base cv n "merged" 4 (ye n)
 f_in_line:FnR (ji P w) P w K mg base cv n "in_line" 3 (xj n)
 f_is_barren:FnF (ji P w) P w K mg base cv n "is_barren" 1 (je n)
 f_barren_tree:FnR (ji P w) P w K mg base cv n "barren_tree" 3 (fy n)
 f_spread_tree:FnR (ji P w) P w K mg base cv n "spread_tree" 4 (jz n)
 f_both_of_trees:FnR (ji P w) P w K mg base cv n "both_of_trees" 4 (qo n)
 f_factors_in_line:FnR (ji P w) P w K mg base cv n "factors_in_line" 3 (jh n)
 f_product_tree:FnR (ji P w) P w K mg base cv n "product_tree" 3 (xk n)
 f_tree_of:FnR (ji P w) P w K mg base cv n "tree_of" 3 (wk n)
 f_row_to_plain:FnF (ji P w) P w K mg base cv n "row_to_plain" 1 (w6 n)
 f_carried:FnF (ji P w) P w K mg base cv n "carried" 3 (u6 n)
 f_gathered:FnF (ji P w) P w K mg base cv n "gathered" 1 (j6 n)
 f_bundles:FnF (ji P w) P w K mg base cv n "bundles" 1 (u9 n)
 f_sent:FnF (ji P w) P w K mg base cv n "sent" 3 (xb n)
 f_law_things:FnF (ji P w) P w K mg base cv n "_law_things" 2 (ja n)
 f_law_bundles:FnF (ji P w) P w K mg base cv n "_law_bundles" 1 (qf n)
 f_law_refused:FnF (ji P w) P w K mg base cv n "_law_refused" 3 (wd n)
 f_law_count:FnF (ji P w) P w K mg base cv n "_law_count" 2 (j3 n)
 f_law_draw:FnF (ji P w) P w K mg base cv n "_law_draw" 3 (xc n)
 f_law_sizes:FnF (ji P w) P w K mg base cv n "_law_sizes" 2 (yc n)
 f_law_stir:FnF (ji P w) P w K mg base cv n "_law_stir" 1 (dn n)
 f_law_cell:FnF (ji P w) P w K mg base cv n "_law_cell" 2 (qi n)
 f_law_leafed:FnF (ji P w) P w K mg base cv n "_law_leafed" 3 (w9 n)
 f_law_part:FnF (ji P w) P w K mg base cv n "_law_part" 2 (wo n)
 f_law_paths:FnF (ji P w) P w K mg base cv n "_law_paths" 1 (jm n)
 f_law_put:FnF (ji P w) P w K mg base cv n "_law_put" 3 (fx n)
 f_law_here:FnF (ji P w) P w K mg base cv n "_law_here" 2 (vz n)
 f_law_turned:FnF (ji P w) P w K mg base cv n "_law_turned" 3 (yn n)
 f_law_all_turnings:FnF (ji P w) P w K mg base cv n "_law_all_turnings" 1 (jl n)
 f_law_other:FnF (ji P w) P w K mg base cv n "_law_other" 3 (ve n)
 f_law_kind:FnF (ji P w) P w K mg base cv n "_law_kind" 3 (j5 n)
 f_law:FnF (ji P w) P w K mg base cv n "law" 1 (Gj n)
section
variable{P:Z8}{w:ZN}{K:Zb}{mg:Z3->Option YZ}{base:ZM}{cv:Nat->YZ}
theorem VH(T:TxtF K mg):AllF P w K mg base cv 0:=⟨xy T.t_crossed,xy T.t_grouped_pair,xy T.t_grouped_side,xy T.t_swapped,xy T.t_forth_here,xy T.t_ungrouped_pair,xy T.t_ungrouped_side,xy T.t_back_here,xy T.t_things_along,xy T.t_thing_by,xy T.t_kind_here,xy T.t_kind_by,xy T.t_goes,xy T.t_parts_along,xy T.t_parts_to_turn,xy T.t_brought,Jo T.t_merged,Jo T.t_in_line,xy T.t_is_barren,Jo T.t_barren_tree,Jo T.t_spread_tree,Jo T.t_both_of_trees,Jo T.t_factors_in_line,Jo T.t_product_tree,Jo T.t_tree_of,xy T.t_row_to_plain,xy T.t_carried,xy T.t_gathered,xy T.t_bundles,xy T.t_sent,xy T.t_law_things,xy T.t_law_bundles,xy T.t_law_refused,xy T.t_law_count,xy T.t_law_draw,xy T.t_law_sizes,xy T.t_law_stir,xy T.t_law_cell,xy T.t_law_leafed,xy T.t_law_part,xy T.t_law_paths,xy T.t_law_put,xy T.t_law_here,xy T.t_law_turned,xy T.t_law_all_turnings,xy T.t_law_other,xy T.t_law_kind,xy T.t_law⟩
theorem V9{n:Nat}(M:MF mg)(T:TxtF K mg)(C:ClsF K mg cv w.params)(A:AllF P w K mg base cv n):AllF P w K mg base cv (n+1):=
 ⟨gj T.t_crossed λf fd F=>Ko M F,
 gj T.t_grouped_pair λf fd F=>DJ M F,
 gj T.t_grouped_side λf fd F=>DD M F,
 gj T.t_swapped λf fd F=>L4 M F,
 gj T.t_forth_here λf fd F=>F4 M F A.f_crossed A.f_grouped_pair A.f_grouped_side A.f_swapped,
 gj T.t_ungrouped_pair λf fd F=>Cu M F,
 gj T.t_ungrouped_side λf fd F=>BG M F,
 gj T.t_back_here λf fd F=>GR M F A.f_crossed A.f_ungrouped_pair A.f_ungrouped_side A.f_swapped,
 gj T.t_things_along λf fd F=>DC M F C.KT_SIDES,
 gj T.t_thing_by λf fd F=>IH M F A.f_forth_here A.f_back_here A.f_things_along C.V_forth_here C.V_back_here,
 gj T.t_kind_here λf fd F=>GU M F,
 gj T.t_kind_by λf fd F=>Ln M F A.f_kind_here,
 gj T.t_goes λf fd F=>RK M F,
 gj T.t_parts_along λf fd F=>ES M F C.R_NoTurning,
 gj T.t_parts_to_turn λf fd F=>CK M F A.f_goes A.f_parts_along C.R_NoTurning,
 gj T.t_brought λf fd F=>L9 M F A.f_thing_by A.f_kind_by A.f_parts_to_turn C.V_back_here,
 IC T.t_merged λf fd F=>Nt M F,
 IC T.t_in_line λf fd F=>Kp M F A.f_merged A.f_in_line,
 gj T.t_is_barren λf fd F=>Hq M F A.f_is_barren,
 IC T.t_barren_tree λf fd F=>Fj M F A.f_is_barren A.f_tree_of,
 IC T.t_spread_tree λf fd F=>E6 M F A.f_both_of_trees,
 IC T.t_both_of_trees λf fd F=>Dc M F A.f_merged A.f_spread_tree,
 IC T.t_factors_in_line λf fd F=>B6 M F A.f_merged A.f_factors_in_line,
 IC T.t_product_tree λf fd F=>DQ M F A.f_both_of_trees A.f_tree_of A.f_factors_in_line,
 IC T.t_tree_of λf fd F=>Kt M F A.f_tree_of A.f_is_barren A.f_barren_tree A.f_product_tree,
 gj T.t_row_to_plain λf fd F=>DM M F A.f_in_line A.f_tree_of,
 gj T.t_carried λf fd F=>Ls M F A.f_kind_by A.f_thing_by A.f_parts_to_turn C.V_forth_here,
 gj T.t_gathered λf fd F=>J6 M F A.f_gathered A.f_is_barren C.N_sorted,
 gj T.t_bundles λf fd F=>Lh M F A.f_gathered C.N_sorted,
 gj T.t_sent λf fd F=>RU M F A.f_brought A.f_row_to_plain A.f_carried A.f_bundles C.R_Unlike,
 gj T.t_law_things λf fd F=>FG M F A.f_law_things,
 gj T.t_law_bundles λf fd F=>Fo M F A.f_law_bundles C.N_sorted,
 gj T.t_law_refused λf fd F=>Fq M F A.f_sent C.I_Unlike C.I_ValueError C.I_NoThing C.H_KindError,
 gj T.t_law_count λf fd F=>H0 M F A.f_law_count,
 gj T.t_law_draw λf fd F=>Jj M F,
 gj T.t_law_sizes λf fd F=>HF M F A.f_law_draw,
 gj T.t_law_stir λf fd F=>Jh M F,
 gj T.t_law_cell λf fd F=>IF M F A.f_law_stir,
 gj T.t_law_leafed λf fd F=>FJ M F A.f_law_leafed A.f_law_draw,
 gj T.t_law_part λf fd F=>JG M F,
 gj T.t_law_paths λf fd F=>HY M F A.f_law_part,
 gj T.t_law_put λf fd F=>K1 M F A.f_law_put,
 gj T.t_law_here λf fd F=>IJ M F,
 gj T.t_law_turned λf fd F=>F3 M F A.f_law_put A.f_law_here A.f_law_part A.f_law_paths,
 gj T.t_law_all_turnings λf fd F=>Bk M F A.f_law_here A.f_law_part A.f_law_paths,
 gj T.t_law_other λf fd F=>Hh M F A.f_law_paths A.f_law_turned A.f_law_cell A.f_law_all_turnings,
 gj T.t_law_kind λf fd F=>Je M F A.f_law_kind A.f_law_draw,
 gj T.t_law λf fd F=>OG M F A.f_sent A.f_law_things A.f_law_bundles A.f_law_refused A.f_law_count A.f_law_sizes A.f_law_cell A.f_law_leafed A.f_law_other A.f_law_kind⟩
theorem Ta(M:MF mg)(T:TxtF K mg)(C:ClsF K mg cv w.params):∀ n,AllF P w K mg base cv n
 | 0=>VH T
 | n+1=>V9 M T C (Ta M T C n)
theorem Vt{f:Zh}{fd:fR}(M:MF mg)(T:TxtF K mg)(C:ClsF K mg cv w.params)(F:Fun K "law" "law" AA f fd):FnOk P w K mg base (ji P w) 71 f fd ["script"] (iw cv 1 (Gj 71)):=
 have A:=Ta (P:=P) (w:=w) (base:=base) M T C 70
 OG M F A.f_sent A.f_law_things A.f_law_bundles A.f_law_refused A.f_law_count A.f_law_sizes A.f_law_cell A.f_law_leafed A.f_law_other A.f_law_kind
theorem FN:∀ c,vp (c+6)=vp 0:=λc=>by simp [vp]
theorem JJ:∀ c,gn (c+6)=gn 0:=λc=>by simp [gn]
theorem Lm:∀ c,uw (c+6)=uw 0:=λc=>by simp [uw]
theorem ED:∀ c,va (c+6)=va 0:=λc=>by simp [va]
noncomputable def FD(K:Zb)(x:Z3)(st:aG):Prop:=∀ Q:Prop,(∀ (f:Zh) (od an:Option Zh) (sl:Array (Option YZ)) (oc kV dc pm cd ct:YZ),bO K ZF x=YW (YW (.ref f))->
 K.lookup f=YW ⟨oc,od,.func (aU x x (u0 st) (g8 st) (zx st) .none kV dc pm an cd ct),sl⟩->fD K cd x=true->eF K (.ref f)=true->Q)->Q
theorem j8{x:Z3}{st:aG}{f:Zh}{od an:Option Zh}{sl:Array (Option YZ)}{oc kV dc pm cd ct:YZ}(a:bO K ZF x=YW (YW (.ref f)))
 (l:K.lookup f=YW ⟨oc,od,.func (aU x x (u0 st) (g8 st) (zx st) .none kV dc pm an cd ct),sl⟩) (c:fD K cd x=true) (k:eF K (.ref f)=true):FD K x st:=λ_ h=>h f od an sl oc kV dc pm cd ct a l c k
theorem Hc{h:ZM}{x:Z3}{st:aG}{ps:List Z3}(X:K.In h)(G:h.Ns ZF mg)(d:FD K x st)
  (hb:∀ (kV doc pm:YZ) (an:Option Zh) (cdv ct:YZ) (us:List YZ),us.length=ps.length->iO (aU x x (u0 st) (g8 st) (zx st) .none kV doc pm an cdv ct) ⟨us,[]⟩=pure (ps.zip us)):FunT K mg x st ps:=
 d _ λ_ _ _ _ _ _ _ _ _ _ a l c k=>RQ X G a l c k hb
theorem cm{h:ZM}{x y0:Z3}{st:aG}(X:K.In h)(G:h.Ns ZF mg)(d:FD K x st)(H:∀ (kV doc pm:YZ) (an:Option Zh) (cdv ct a0:YZ),iO (aU x x (u0 st) (g8 st) (zx st) .none kV doc pm an cdv ct) ⟨[a0],[]⟩=pure ([y0].zip [a0])):FunT K mg x st [y0]:=
 Hc X G d λkV doc pm an cdv ct us hl=>let ⟨a0,e⟩:=WX hl;e ▸ H kV doc pm an cdv ct a0
theorem iz{h:ZM}{x y0 y1:Z3}{st:aG}(X:K.In h)(G:h.Ns ZF mg)(d:FD K x st)(H:∀ (kV doc pm:YZ) (an:Option Zh) (cdv ct a0 a1:YZ),iO (aU x x (u0 st) (g8 st) (zx st) .none kV doc pm an cdv ct) ⟨[a0,a1],[]⟩=pure ([y0,y1].zip [a0,a1])):FunT K mg x st [y0,y1]:=
 Hc X G d λkV doc pm an cdv ct us hl=>let ⟨a0,a1,e⟩:=W3 hl;e ▸ H kV doc pm an cdv ct a0 a1
theorem fz{h:ZM}{x y0 y1 y2:Z3}{st:aG}(X:K.In h)(G:h.Ns ZF mg)(d:FD K x st)(H:∀ (kV doc pm:YZ) (an:Option Zh) (cdv ct a0 a1 a2:YZ),iO (aU x x (u0 st) (g8 st) (zx st) .none kV doc pm an cdv ct) ⟨[a0,a1,a2],[]⟩=pure ([y0,y1,y2].zip [a0,a1,a2])):FunT K mg x st [y0,y1,y2]:=
 Hc X G d λkV doc pm an cdv ct us hl=>let ⟨a0,a1,a2,e⟩:=Wv hl;e ▸ H kV doc pm an cdv ct a0 a1 a2
theorem Ia{h:ZM}{x y0 y1 y2 y3:Z3}{st:aG}(X:K.In h)(G:h.Ns ZF mg)(d:FD K x st)(H:∀ (kV doc pm:YZ) (an:Option Zh) (cdv ct a0 a1 a2 a3:YZ),iO (aU x x (u0 st) (g8 st) (zx st) .none kV doc pm an cdv ct) ⟨[a0,a1,a2,a3],[]⟩=pure ([y0,y1,y2,y3].zip [a0,a1,a2,a3])):FunT K mg x st [y0,y1,y2,y3]:=
 Hc X G d λkV doc pm an cdv ct us hl=>let ⟨a0,a1,a2,a3,e⟩:=XQ hl;e ▸ H kV doc pm an cdv ct a0 a1 a2 a3
set_option maxHeartbeats 0 in
theorem Vw{h:ZM}(X:K.In h)(G:h.Ns ZF mg)
  (d1:FD K "crossed" sy)
  (d2:FD K "grouped_pair" bo)
  (d3:FD K "grouped_side" bh)
  (d4:FD K "swapped" tx)
  (d5:FD K "forth_here" eu)
  (d6:FD K "ungrouped_pair" ud)
  (d7:FD K "ungrouped_side" uf)
  (d8:FD K "back_here" md)
  (d9:FD K "things_along" bt)
  (d10:FD K "thing_by" og)
  (d11:FD K "kind_here" i6)
  (d12:FD K "kind_by" Ae)
  (d13:FD K "goes" DZ)
  (d14:FD K "parts_along" az)
  (d15:FD K "parts_to_turn" uz)
  (d16:FD K "brought" t7)
  (d17:FD K "merged" AX)
  (d18:FD K "in_line" Al)
  (d19:FD K "is_barren" me)
  (d20:FD K "barren_tree" au)
  (d21:FD K "spread_tree" aw)
  (d22:FD K "both_of_trees" ux)
  (d23:FD K "factors_in_line" g7)
  (d24:FD K "product_tree" bq)
  (d25:FD K "tree_of" Ai)
  (d26:FD K "row_to_plain" br)
  (d27:FD K "carried" t8)
  (d28:FD K "gathered" oh)
  (d29:FD K "bundles" tq)
  (d30:FD K "sent" Eb)
  (d31:FD K "_law_things" e9)
  (d32:FD K "_law_bundles" cq)
  (d33:FD K "_law_refused" ax)
  (d34:FD K "_law_count" i9)
  (d35:FD K "_law_draw" om)
  (d36:FD K "_law_sizes" i7)
  (d37:FD K "_law_stir" n0)
  (d38:FD K "_law_cell" oj)
  (d39:FD K "_law_leafed" e8)
  (d40:FD K "_law_part" oq)
  (d41:FD K "_law_paths" lz)
  (d42:FD K "_law_put" t6)
  (d43:FD K "_law_here" n4)
  (d44:FD K "_law_turned" eh)
  (d45:FD K "_law_all_turnings" xh)
  (d46:FD K "_law_other" ly)
  (d47:FD K "_law_kind" oi)
  (d48:FD K "law" AA)
  (zM:(["len","int","bool","str","tuple","list","isinstance","range","enumerate","zip","reversed"]:List Z3).all (λx=>bO K ZF x == YW YY)=true) (zRNoTurning:SD K "NoTurning" =true) (zRUnlike:SD K "Unlike" =true) (zX:O5 K=true) (zIUnlike:S5 K "Unlike" uw=true) (zV:bO K ZF "ValueError" =YW YY) (zIValueError:VG K va=true) (zINoThing:S5 K "NoThing" gn=true) (zHKindError:TV K "KindError" vp=true) (zFforth_here:bO K ZF "forth_here" =YW (YW (.ref w8))) (zFback_here:bO K ZF "back_here" =YW (YW (.ref wu))) (zTSIDES:Pu K "SIDES" (.tuple [.str "left",.str "right"])=true) (zNsorted:bO K ZF "sorted" =YW YY):
  FunT K mg "law" AA ["script"]/\∀ f fd,Fun K "law" "law" AA f fd->∀ base:ZM,FnOk P w K mg base (ji P w) 71 f fd ["script"] (iw (rq K) 1 (Gj 71)):=by
 have T:TxtF K mg:=⟨cm X G d1 λ_ _ _ _ _ _ _=>rfl,cm X G d2 λ_ _ _ _ _ _ _=>rfl,cm X G d3 λ_ _ _ _ _ _ _=>rfl,iz X G d4 λ_ _ _ _ _ _ _ _=>rfl,fz X G d5 λ_ _ _ _ _ _ _ _ _=>rfl,cm X G d6 λ_ _ _ _ _ _ _=>rfl,cm X G d7 λ_ _ _ _ _ _ _=>rfl,fz X G d8 λ_ _ _ _ _ _ _ _ _=>rfl,fz X G d9 λ_ _ _ _ _ _ _ _ _=>rfl,Ia X G d10 λ_ _ _ _ _ _ _ _ _ _=>rfl,iz X G d11 λ_ _ _ _ _ _ _ _=>rfl,iz X G d12 λ_ _ _ _ _ _ _ _=>rfl,iz X G d13 λ_ _ _ _ _ _ _ _=>rfl,iz X G d14 λ_ _ _ _ _ _ _ _=>rfl,iz X G d15 λ_ _ _ _ _ _ _ _=>rfl,fz X G d16 λ_ _ _ _ _ _ _ _ _=>rfl,Ia X G d17 λ_ _ _ _ _ _ _ _ _ _=>rfl,fz X G d18 λ_ _ _ _ _ _ _ _ _=>rfl,cm X G d19 λ_ _ _ _ _ _ _=>rfl,fz X G d20 λ_ _ _ _ _ _ _ _ _=>rfl,Ia X G d21 λ_ _ _ _ _ _ _ _ _ _=>rfl,Ia X G d22 λ_ _ _ _ _ _ _ _ _ _=>rfl,fz X G d23 λ_ _ _ _ _ _ _ _ _=>rfl,fz X G d24 λ_ _ _ _ _ _ _ _ _=>rfl,fz X G d25 λ_ _ _ _ _ _ _ _ _=>rfl,cm X G d26 λ_ _ _ _ _ _ _=>rfl,fz X G d27 λ_ _ _ _ _ _ _ _ _=>rfl,cm X G d28 λ_ _ _ _ _ _ _=>rfl,cm X G d29 λ_ _ _ _ _ _ _=>rfl,fz X G d30 λ_ _ _ _ _ _ _ _ _=>rfl,iz X G d31 λ_ _ _ _ _ _ _ _=>rfl,cm X G d32 λ_ _ _ _ _ _ _=>rfl,fz X G d33 λ_ _ _ _ _ _ _ _ _=>rfl,iz X G d34 λ_ _ _ _ _ _ _ _=>rfl,fz X G d35 λ_ _ _ _ _ _ _ _ _=>rfl,iz X G d36 λ_ _ _ _ _ _ _ _=>rfl,cm X G d37 λ_ _ _ _ _ _ _=>rfl,iz X G d38 λ_ _ _ _ _ _ _ _=>rfl,fz X G d39 λ_ _ _ _ _ _ _ _ _=>rfl,iz X G d40 λ_ _ _ _ _ _ _ _=>rfl,cm X G d41 λ_ _ _ _ _ _ _=>rfl,fz X G d42 λ_ _ _ _ _ _ _ _ _=>rfl,iz X G d43 λ_ _ _ _ _ _ _ _=>rfl,fz X G d44 λ_ _ _ _ _ _ _ _ _=>rfl,cm X G d45 λ_ _ _ _ _ _ _=>rfl,fz X G d46 λ_ _ _ _ _ _ _ _ _=>rfl,fz X G d47 λ_ _ _ _ _ _ _ _ _=>rfl,cm X G d48 λ_ _ _ _ _ _ _=>rfl⟩
 have M:MF mg:=WO X G zM
 have C:ClsF K mg (rq K) w.params:=⟨trivial,IP (x:="NoTurning") (c:=2) X G rfl zRNoTurning,IP (x:="Unlike") (c:=5) X G rfl zRUnlike,MT (x:="Unlike") X G Lm zX zIUnlike,Sx X G ED zX zV zIValueError,MT (x:="NoThing") X G JJ zX zINoThing,PH (x:="KindError") X G FN zHKindError,gZ X G zFforth_here,gZ X G zFback_here,R8 X G zTSIDES,aB X G zNsorted⟩
 exact ⟨T.t_law,λf fd F base=>Vt M T C F⟩
end
end KT
open PySem PySem.W PyProof.Rows
namespace PySem.W.Fast
def tw17396278533185567667:Unit:=()
theorem te8225088165316475934:True:=trivial
def tw15592121666902044767:Unit:=()
def tw4249608176459913587:Unit:=()
def tw14131985198692351843:Unit:=()
def tw9164190317283565100:PySem.Program:=PySem.Challenge.pw_kindturn_k13_whole_sent
theorem te9164190317283565100:PySem.Challenge.pw_kindturn_k13_whole_sent=tw9164190317283565100:=rfl
def tw6514290539674338306:Unit:=()
def tw5011561493018130821:Unit:=()
def tw14202571310900746444:Unit:=()
def tw17653535725496881630:Unit:=()
def tw12917175173112874213:Unit:=()
def tw4253778526859763174:Unit:=()
def tw8127273350060409443:Unit:=()
def tw14379939954851269490:Unit:=()
def tw11585166360873040505:Unit:=()
def tw6425075566396712983:Unit:=()
def tw7172074798371422316:Unit:=()
def tw17755574093001654554:Unit:=()
def tw16718713293652043754:Unit:=()
def tw5050486656941236406:Unit:=()
def tw8400183161756559660:Unit:=()
def tw18300257006723860576:Unit:=()
def tw1973889456810313670:Unit:=()
def tw8759680897224067721:Unit:=()
def tw3888657167168958255:Unit:=()
def tw17524146119725280985:Unit:=()
def tw14388016555898960229:Unit:=()
def tw241703913462466098:Unit:=()
def tw7210412812351039548:Unit:=()
def tw8962898984298413318:Unit:=()
def tw8473019806369329845:Unit:=()
def tw2181052836227271533:Unit:=()
def tw18372079891732204757:Unit:=()
def tw596332576460521378:Unit:=()
def tw9620050111477085610:Unit:=()
def tw1943530163655715799:Unit:=()
def tw14254653280565944743:Unit:=()
def tw4888845379200350471:Unit:=()
def tw16443981431694486593:Unit:=()
def tw8985763104806498867:Unit:=()
def tw9598758681227106848:Unit:=()
def tw2066427216974975314:Unit:=()
def tw8818175059144273579:Unit:=()
def tw6996372976886471481:Unit:=()
def tw2130645507231044421:Unit:=()
def tw11161160707335791950:Unit:=()
def tw18379760933831333594:Unit:=()
def tw10674784817520392115:Unit:=()
def tw3264000375946697524:Unit:=()
def tw1280506350282367233:Unit:=()
def tw8941361987689895617:Unit:=()
def tw3684639399619356837:Unit:=()
def tw14441072085005316798:Unit:=()
def tw4774082172974955167:Unit:=()
def tw1298219098634962159:Unit:=()
def tw3777389526477940787:Unit:=()
def tw3778184189443945077:Unit:=()
def tw86606930493820379:Unit:=()
def tw11198580423645149339:Unit:=()
def tw11540464463419813901:Unit:=()
def tw5557872750862770090:Unit:=()
def tw15012370694175420260:Unit:=()
def tw10220893357483769300:Unit:=()
def tw11950957602382229376:Unit:=()
def tw6987245033352386624:Unit:=()
def tw9763465209941946439:Unit:=()
def tw4854661724154215334:Unit:=()
def tw789163257917691494:Unit:=()
def tw3612093288232085167:Unit:=()
def tw5150549463349132813:Unit:=()
def tw8270877591308744632:Unit:=()
def tw16601356980835318562:Unit:=()
def tw12414218834236331770:Unit:=()
def tw11999013370945341433:Unit:=()
def tw5047992651988390294:Unit:=()
def tw18172597290248871104:Unit:=()
def tw17955519495067608659:Unit:=()
def tw7399025703893756943:Unit:=()
def tw14106675849204398154:Unit:=()
def tw16023813901969324894:Unit:=()
def tw13329456113861170067:Unit:=()
def tw2545357765228856770:Unit:=()
def tw13133395154167644615:Unit:=()
def tw5781936389293527706:Unit:=()
def tw9127721516733723612:Unit:=()
def tw3169949628188459783:Unit:=()
def tw16671458327699361123:Unit:=()
def tw577061316669256853:Unit:=()
def tw4557305998882006486:Unit:=()
def tw8904712176990600389:Unit:=()
def tw15777280414348742724:Unit:=()
def tw13940700322126307909:Unit:=()
def tw1965342458543227465:Unit:=()
def tw5376624583643895652:Unit:=()
def tw6692385727376174372:Unit:=()
def tw9188122436678256972:Unit:=()
def tw5183653083610074870:Unit:=()
def tw4023126511136020214:Unit:=()
def tw7771728210026611163:Unit:=()
def tw15845633877417509509:Unit:=()
def tw16861126869986932915:Unit:=()
def tw11835364111941152686:Unit:=()
def tw10185127274631552125:Unit:=()
def tw18247743511831443383:Unit:=()
def tw3534440156379475054:Unit:=()
def tw3469163152142976779:Unit:=()
def tw5879263184430248741:Unit:=()
def tw5538181838018591736:Unit:=()
def tw17733620660902573474:Unit:=()
def tw2946884644049739425:Unit:=()
def tw2276159454018537887:Unit:=()
def tw6320741527548275283:Unit:=()
def tw17612305764109376019:Unit:=()
def tw14691918552701324571:Unit:=()
def tw1033792159721259259:Unit:=()
def tw14230645375655982546:Unit:=()
def tw18328093524742087329:Unit:=()
def tw14222631318426480387:Unit:=()
def tw4668168500640653646:Unit:=()
def tw9058659165343919684:Unit:=()
def tw8073365549010126377:Unit:=()
def tw527959076124589599:Unit:=()
def tw12498855519973329650:Unit:=()
def tw2752797445486079275:Unit:=()
def tw5349273850953442316:Unit:=()
def tw17595410779360377802:Unit:=()
def tw11623614422283058095:Unit:=()
def tw16999877833673451758:Unit:=()
def tw1023915225242625074:Unit:=()
def tw880903436434089230:Unit:=()
def tw12837038171481779353:Unit:=()
def tw5166799352389519064:Unit:=()
def tw3178083115215723673:Unit:=()
def tw17503704962979921179:Unit:=()
def tw14891943876336446916:Unit:=()
def tw8020999553203614688:Unit:=()
def tw596364596569298310:Unit:=()
def tw1951692605778275146:Unit:=()
def tw12088984404199935162:Unit:=()
def tw13352422523744495730:Unit:=()
def tw259324344010262935:Unit:=()
def tw8916917510998631541:Unit:=()
def tw10194831980345986726:Unit:=()
def tw11361371062378543289:Unit:=()
def tw14619353292020380295:Unit:=()
def tw11121819744967518308:Unit:=()
def tw18246677788533751857:Unit:=()
def tw7894442929054237637:Unit:=()
def tw1224448701853514501:Unit:=()
def tw1363750650090480008:Unit:=()
def tw7141541421882052646:Unit:=()
def tw9436356466618191967:Unit:=()
def tw8521809394879057944:Unit:=()
end PySem.W.Fast
set_option maxRecDepth 100000 in
set_option maxHeartbeats 0 in
theorem PySem.Challenge.cw_kindturn_k13_whole_sent_holds : PySem.Challenge.rw_kindturn_k13_whole_sent.Holds := by
 w_on;o_law;k_head;(case hw=>w_witness2)
 k_fill
 refine KT.XR (l:=PySem.Challenge.rw_kindturn_k13_whole_sent) (g:=KT.Gj 71) (N:=71) (st:=KT.AA) rfl rfl ⟨rfl,by decide,by decide⟩ (λw h Y=>PySem.W.kIn_of Y) rfl ?F ?L λns hns=>KT.PV ns hns
 case L=>intro w;kernel_rfl
 case F=>
  intro w mg h KX G
  refine' KT.Vw KX G (KT.j8 ?a1 ?l1 ?c1 ?k1) (KT.j8 ?a2 ?l2 ?c2 ?k2) (KT.j8 ?a3 ?l3 ?c3 ?k3) (KT.j8 ?a4 ?l4 ?c4 ?k4) (KT.j8 ?a5 ?l5 ?c5 ?k5) (KT.j8 ?a6 ?l6 ?c6 ?k6) (KT.j8 ?a7 ?l7 ?c7 ?k7) (KT.j8 ?a8 ?l8 ?c8 ?k8) (KT.j8 ?a9 ?l9 ?c9 ?k9) (KT.j8 ?a10 ?l10 ?c10 ?k10) (KT.j8 ?a11 ?l11 ?c11 ?k11) (KT.j8 ?a12 ?l12 ?c12 ?k12) (KT.j8 ?a13 ?l13 ?c13 ?k13) (KT.j8 ?a14 ?l14 ?c14 ?k14) (KT.j8 ?a15 ?l15 ?c15 ?k15) (KT.j8 ?a16 ?l16 ?c16 ?k16) (KT.j8 ?a17 ?l17 ?c17 ?k17) (KT.j8 ?a18 ?l18 ?c18 ?k18) (KT.j8 ?a19 ?l19 ?c19 ?k19) (KT.j8 ?a20 ?l20 ?c20 ?k20) (KT.j8 ?a21 ?l21 ?c21 ?k21) (KT.j8 ?a22 ?l22 ?c22 ?k22) (KT.j8 ?a23 ?l23 ?c23 ?k23) (KT.j8 ?a24 ?l24 ?c24 ?k24) (KT.j8 ?a25 ?l25 ?c25 ?k25) (KT.j8 ?a26 ?l26 ?c26 ?k26) (KT.j8 ?a27 ?l27 ?c27 ?k27) (KT.j8 ?a28 ?l28 ?c28 ?k28) (KT.j8 ?a29 ?l29 ?c29 ?k29) (KT.j8 ?a30 ?l30 ?c30 ?k30) (KT.j8 ?a31 ?l31 ?c31 ?k31) (KT.j8 ?a32 ?l32 ?c32 ?k32) (KT.j8 ?a33 ?l33 ?c33 ?k33) (KT.j8 ?a34 ?l34 ?c34 ?k34) (KT.j8 ?a35 ?l35 ?c35 ?k35) (KT.j8 ?a36 ?l36 ?c36 ?k36) (KT.j8 ?a37 ?l37 ?c37 ?k37) (KT.j8 ?a38 ?l38 ?c38 ?k38) (KT.j8 ?a39 ?l39 ?c39 ?k39) (KT.j8 ?a40 ?l40 ?c40 ?k40) (KT.j8 ?a41 ?l41 ?c41 ?k41) (KT.j8 ?a42 ?l42 ?c42 ?k42) (KT.j8 ?a43 ?l43 ?c43 ?k43) (KT.j8 ?a44 ?l44 ?c44 ?k44) (KT.j8 ?a45 ?l45 ?c45 ?k45) (KT.j8 ?a46 ?l46 ?c46 ?k46) (KT.j8 ?a47 ?l47 ?c47 ?k47) (KT.j8 ?a48 ?l48 ?c48 ?k48) ?zM ?zRNoTurning ?zRUnlike ?zX ?zIUnlike ?zV ?zIValueError ?zINoThing ?zHKindError ?zFforth_here ?zFback_here ?zTSIDES ?zNsorted
  case a1|l1|c1|k1|a2|l2|c2|k2|a3|l3|c3|k3|a4|l4|c4|k4|a5|l5|c5|k5|a6|l6|c6|k6|a7|l7|c7|k7|a8|l8|c8|k8|a9|l9|c9|k9|a10|l10|c10|k10|a11|l11|c11|k11|a12|l12|c12|k12|a13|l13|c13|k13|a14|l14|c14|k14|a15|l15|c15|k15|a16|l16|c16|k16|a17|l17|c17|k17|a18|l18|c18|k18|a19|l19|c19|k19|a20|l20|c20|k20|a21|l21|c21|k21|a22|l22|c22|k22|a23|l23|c23|k23|a24|l24|c24|k24|a25|l25|c25|k25|a26|l26|c26|k26|a27|l27|c27|k27|a28|l28|c28|k28|a29|l29|c29|k29|a30|l30|c30|k30|a31|l31|c31|k31|a32|l32|c32|k32|a33|l33|c33|k33|a34|l34|c34|k34|a35|l35|c35|k35|a36|l36|c36|k36|a37|l37|c37|k37|a38|l38|c38|k38|a39|l39|c39|k39|a40|l40|c40|k40|a41|l41|c41|k41|a42|l42|c42|k42|a43|l43|c43|k43|a44|l44|c44|k44|a45|l45|c45|k45|a46|l46|c46|k46|a47|l47|c47|k47|a48|l48|c48|k48=>k_is
  (case zM=>kernel_rfl)
  (case zRNoTurning=>kernel_rfl)
  (case zRUnlike=>kernel_rfl)
  (case zX=>kernel_rfl)
  (case zIUnlike=>kernel_rfl)
  (case zV=>kernel_rfl)
  (case zIValueError=>kernel_rfl)
  (case zINoThing=>kernel_rfl)
  (case zHKindError=>kernel_rfl)
  (case zFforth_here=>kernel_rfl)
  (case zFback_here=>kernel_rfl)
  (case zTSIDES=>kernel_rfl)
  (case zNsorted=>kernel_rfl)
