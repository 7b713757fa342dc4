import PyProof.Rows.All
import Wide.All
import OpenK.AllK
import Wide.FinOn
import PyProof.EqAt
import PyProof.EqKinds
import PyProof.TupleCall
import PyProof.P3Statements
import KE.KSortTup
import PyProof.StrLoop
import PyProof.StrWalks
import PyProof.StrBlockI
import PyProof.StrCalls
import PyProof.AttrMissHeap
import PyProof.ListNew
import Lean
import PySem.Challenge.RW_kindturn_k14_whole_put_to_both
set_option Elab.async false
set_option linter.all false
set_option maxRecDepth 100000
namespace L2
open PySem PySem.Spec PyProof.Rows
abbrev Key:=Sum Int Str
def Cj:Key→Value→Bool
  | .inl k,v=>Value.isInt k v
  | .inr x,v=>Value.isStrOf x v
def P3(w:World):Key→Int
  | .inl k=>hashInt k
  | .inr x=>hashStr w x
theorem w9:∀ {k:Key} {v:Value},Cj k v=true→(∃ i t,k=Sum.inl i∧v=Value.int i t)∨(∃ x t,k=Sum.inr x∧v=Value.str x t)
  | .inl i,v,h=>by
    obtain ⟨t,e⟩:=Value.isInt_shape (k:=i) (v:=v) h
    exact .inl ⟨i,t,rfl,e⟩
  | .inr x,v,h=>by
    obtain ⟨t,e⟩:=Value.isStrOf_shape (x:=x) (v:=v) h
    exact .inr ⟨x,t,rfl,e⟩
theorem Im(i:Int)(t:Tok):Cj (.inl i) (.int i t)=true:=by simp [Cj,Value.isInt]
theorem Ho(x:Str)(t:Tok):Cj (.inr x) (.str x t)=true:=by simp [Cj,Value.isStrOf]
theorem Np(a b:Int):decide ((Sum.inl a:Key)=Sum.inl b)=(a == b):=by
  by_cases e:a=b
  · subst e;simp
  · have h:¬ (Sum.inl a:Key)=Sum.inl b:=fun q=>e (Sum.inl.inj q)
    rw [decide_eq_false h]
    exact (beq_eq_false_iff_ne.mpr e).symm
theorem NS(a b:Str):decide ((Sum.inr a:Key)=Sum.inr b)=decide (a=b):=by
  by_cases e:a=b
  · subst e;simp
  · have h:¬ (Sum.inr a:Key)=Sum.inr b:=fun q=>e (Sum.inr.inj q)
    rw [decide_eq_false h,decide_eq_false e]
theorem NA(a:Int)(b:Str):decide ((Sum.inl a:Key)=Sum.inr b)=false:=decide_eq_false (fun q=>nomatch q)
theorem MN(a:Str)(b:Int):decide ((Sum.inr a:Key)=Sum.inl b)=false:=decide_eq_false (fun q=>nomatch q)
def yi(prog:Program)(w:World):PySem.KeyKind prog w Key where
  is:=Cj
  hash:=P3 w
  inj:=fun v a b ha hb=>by
    rcases w9 ha with ⟨i,t,rfl,rfl⟩ | ⟨x,t,rfl,rfl⟩
    · rcases w9 hb with ⟨j,u,rfl,e⟩ | ⟨y,u,rfl,e⟩
      · injection e with e1 _;rw [e1]
      · exact nomatch e
    · rcases w9 hb with ⟨j,u,rfl,e⟩ | ⟨y,u,rfl,e⟩
      · exact nomatch e
      · injection e with e1 _;rw [e1]
  byValue:=fun k v h=>by
    rcases w9 h with ⟨i,t,rfl,rfl⟩ | ⟨x,t,rfl,rfl⟩<;>rfl
  pyHash:=fun hv h=>by
    rcases w9 hv with ⟨i,t,rfl,rfl⟩ | ⟨x,t,rfl,rfl⟩
    · exact wpAny_pyHash_int h
    · exact wpAny_pyHash_str h
  eqBool:=fun hu hv h=>by
    rcases w9 hu with ⟨i,t,rfl,rfl⟩ | ⟨x,t,rfl,rfl⟩
    · rcases w9 hv with ⟨j,u,rfl,rfl⟩ | ⟨y,u,rfl,rfl⟩
      · rw [Np] at h;exact wpAny_eqBool_int h
      · rw [NA] at h;exact SeqAt.EqAt.int_str i t y u _ _ _ _ h
    · rcases w9 hv with ⟨j,u,rfl,rfl⟩ | ⟨y,u,rfl,rfl⟩
      · rw [MN] at h;exact SeqAt.EqAt.str_int x t j u _ _ _ _ h
      · rw [NS] at h;exact wpAny_eqBool_str h
  «strs»:=fun k x t v h=>by
    rcases w9 h with ⟨i,u,rfl,e⟩ | ⟨y,u,rfl,e⟩
    · exact nomatch e
    · injection e with e1 _
      subst e1
      cases v<;>rfl
theorem Eb(prog:Program)(w:World)(i:Int)(t:Tok):(yi prog w).is (.inl i) (.int i t)=true:=Im i t
theorem Eh(prog:Program)(w:World)(x:Str)(t:Tok):(yi prog w).is (.inr x) (.str x t)=true:=Ho x t
end L2
namespace L2
open PySem PySem.Spec PyProof.Rows
inductive V where
  | non | bl (b:Bool) | int (i:Int) | str (x:Str) | byt (b:Array UInt8) | flt (b:UInt64) | ref (a:Addr) | ty (n:String)
  deriving DecidableEq
def RelV:V→Value→Prop
  | .non,u=>u=Value.none
  | .bl b,u=>u=Value.bool b
  | .int i,u=>∃ t,u=Value.int i t
  | .str x,u=>∃ t,u=Value.str x t
  | .byt b,u=>∃ t,u=Value.bytes b t
  | .flt b,u=>∃ t,u=Value.float b t
  | .ref a,u=>u=Value.ref a
  | .ty n,u=>u=Value.type n
abbrev Vals:List V→List Value→Prop:=Paired RelV
theorem Vals.length{xs:List V}{us:List Value}(r:Vals xs us):xs.length=us.length:=Paired.length r
theorem Vals.get:∀ {xs:List V} {us:List Value} {i:Nat} {x:V},Vals xs us→xs[i]? =some x→∃ u,us[i]? =some u∧RelV x u
  | _,_,_,_,.nil,e=>by simp at e
  | _,_,0,_,.cons r _,e=>by simp at e;subst e;exact ⟨_,rfl,r⟩
  | _,_,i+1,x,.cons _ t,e=>by
    obtain ⟨u,h1,h2⟩:=Vals.get (i:=i) (x:=x) t (by simpa using e)
    exact ⟨u,by simpa using h1,h2⟩
theorem Vals.append:∀ {xs ys:List V} {us ws:List Value},Vals xs us→Vals ys ws→Vals (xs++ys) (us++ws)
  | _,_,_,_,.nil,s=>s
  | _,_,_,_,.cons r t,s=>.cons r (Vals.append t s)
theorem Vals.take:∀ {xs:List V} {us:List Value} (n:Nat),Vals xs us→Vals (xs.take n) (us.take n)
  | _,_,0,_=>.nil
  | _,_,_+1,.nil=>.nil
  | _,_,n+1,.cons r t=>.cons r (Vals.take n t)
theorem Vals.drop:∀ {xs:List V} {us:List Value} (n:Nat),Vals xs us→Vals (xs.drop n) (us.drop n)
  | _,_,0,r=>r
  | _,_,_+1,.nil=>.nil
  | _,_,n+1,.cons _ t=>Vals.drop n t
def RelO:Option V→Option Value→Prop
  | some v,some u=>RelV v u
  | none,none=>True
  | _,_=>False
def KV{κ:Type}:List (κ×V)→List (κ×Value)→Prop:=Paired fun (p:κ×V) (q:κ×Value)=>p.1=q.1∧RelV p.2 q.2
def kV:Key→V
  | .inl i=>.int i
  | .inr x=>.str x
inductive HO where
  /-- a list -/
  | lst (xs:List V)
  /-- a tuple (never changes) -/
  | tup (xs:List V)
  /-- a dict whose keys are ints and texts;one whose keys are tuples of ints and texts (the empty one is both) -/
  | dK (kvs:List (Key×V)) | dT (kvs:List (List Key×V)) (ep:Nat)
  /-- a set of ints:its members,its size -/
  | set (S:Int→Bool) (n:Nat)
  /-- an instance of the class at C,its dict at dx,its attributes -/
  | ins (C dx:Addr) (fs:List (Str×V))
  /-- the dict of the instance at x -/
  | own (x:Addr)
  /-- the dict of an exception -/
  | xd (fs:List (Str×V))
  /-- a bound method,f of x -/
  | met (f x:Addr)
  /-- a range object lo,lo+1,.. below hi -/
  | rng (lo hi:Int)
  /-- a thing that is known to the object (the script;a dict while a loop walks it):read,never written while it is so -/
  | frz (o:Obj) (u:HO)
  /-- a code object's table -/
  | tbl (ps:Array Value)
  /-- any other thing,by what is true of its one object (a def of one's own:SetO a S n:=HO.ext fun h=>..) -/
  | ext (φ:Heap→Prop)
abbrev Hp:=Addr→Option HO
def upd(H:Hp)(a:Addr)(o:HO):Hp:=fun b=>if b=a then some o else H b
theorem z9{H:Hp}{a:Addr}{o:HO}:upd H a o a=some o:=by unfold upd;rw [if_pos rfl]
theorem zt{H:Hp}{a b:Addr}{o:HO}(h:b≠a):upd H a o b=H b:=by unfold upd;rw [if_neg h]
theorem Hj{H:Hp}{a b:Addr}{o u:HO}(h:H a=some o)(h':H b=some u)(d:o≠u):a≠b:=by
  intro e;subst e;rw [h] at h';exact d (Option.some.inj h')
theorem jk{H:Hp}{a b:Addr}{o:HO}(h:H a=some o)(h':H b=none):a≠b:=by
  intro e;subst e;rw [h] at h';cases h'
theorem sh{h:Heap}{a:Addr}{o:Obj}(e:h.get? a=some o)(q:o.dict=none):∀ o',h.get? a=some o'→o'.dict=none:=fun o' e'=>by rw [e] at e';cases e';exact q
section
variable(P:Program)(w:World)
def ObjOk(H:Hp)(h:Heap)(a:Addr):HO→Prop
  | .lst xs=>xs.length≤sizeLine∧∃ (its:List Value) (n:Nat),Vals xs its∧h.get? a=some {cls:=.type "list",data:=.seq its.toArray n}
  | .tup xs=>(xs.length≤sizeLine∧∀ o,h.get? a=some o→o.dict=none)∧∃ its:List Value,Vals xs its∧IsTup h a its.toArray
  | .dK kvs=>kvs.length≤sizeLine∧(a == sysModules)=false∧∃ vs,KV kvs vs∧h.DictOf (yi P w) a vs
  | .dT kvs ep=>kvs.length≤sizeLine∧(a == sysModules)=false∧∃ xs:List (List Key×Addr×Value),
      Paired (fun (p:List Key×V) (q:List Key×Addr×Value)=>p.1=q.1∧(H q.2.1=some (.tup (p.1.map kV))∨∃ ob,H q.2.1=some (.frz ob (.tup (p.1.map kV))))∧RelV p.2 q.2.2) kvs xs∧
      ∃ o es,h.get? a=some o∧o.ExactDict∧o.data= .dict es ep∧es.toList=xs.map (entryOfKey (tupleKind (yi P w)))∧(xs.map (·.1)).Nodup
  | .set S n=>h.SetOf (intKind P w) a S n
  | .ins C dx fs=>H dx=some (.own a)∧fs.length≤1000∧dx≠a∧h.get? a=some (PySem.W.instObj C dx)∧
      ∃ mA,h.Ns1 dx mA∧(∀ f,RelO (fs.lookup f) (mA f))∧PySem.Within mA (fs.map (·.1))
  | .own _=>∃ o,h.get? a=some o
  | .xd fs=>∃ mA,h.Ns1 a mA∧∀ f,RelO (fs.lookup f) (mA f)
  | .rng lo hi=>∃ t u v,h.get? a=some {cls:=.type "range",data:=.fields #[.int lo t,.int hi u,.int 1 v]}
  | .frz o u=>h.get? a=some o∧ObjOk H h a u
  | .tbl ps=>h.get? a=some {cls:=.none,data:=.fields ps}
  | .met f x=>h.get? a=some (PySem.W.methodObj (.ref f) (.ref x))
  | .ext φ=>φ h∧(∃ o,h.get? a=some o)∧∀ h1 h2:Heap,φ h1→(∀ o,h1.get? a=some o→h2.get? a=some o)→φ h2
def HOk(H:Hp)(h:Heap):Prop:=∀ a o,H a=some o→ObjOk P w H h a o
end
section
variable{P:Program}{w:World}{H H':Hp}{h h':Heap}{a:Addr}{o:HO}
theorem ObjOk.lt(x:ObjOk P w H h a o):a < h.objs.size:=by
  cases o with
  | lst xs=>obtain ⟨_,_,_,_,e⟩:=x;exact Heap.lt_size e
  | tup xs=>obtain ⟨_,_,_,p⟩:=x;exact p.lt
  | dK kvs=>obtain ⟨_,_,_,_,o,_,_,e,_⟩:=x;exact Heap.lt_size e
  | dT kvs ep=>obtain ⟨_,_,_,_,o,_,e,_⟩:=x;exact Heap.lt_size e
  | set S n=>obtain ⟨o,_,_,_,e,_⟩:=x;exact Heap.lt_size e
  | ins C dx fs=>obtain ⟨_,_,_,e,_⟩:=x;exact Heap.lt_size e
  | own y=>obtain ⟨_,e⟩:=x;exact Heap.lt_size e
  | xd fs=>obtain ⟨_,⟨_,_,_,e,_⟩,_⟩:=x;exact Heap.lt_size e
  | rng lo hi=>obtain ⟨_,_,_,e⟩:=x;exact Heap.lt_size e
  | frz ob u=>obtain ⟨e,_⟩:=x;exact Heap.lt_size e
  | tbl ps=>exact Heap.lt_size (show h.get? a=some _ from x)
  | met f y=>exact Heap.lt_size (show h.get? a=some _ from x)
  | ext φ=>obtain ⟨_,⟨_,e⟩,_⟩:=x;exact Heap.lt_size e
theorem Paired.mapP{α β:Type}{F G:α→β→Prop}:∀ {l₁:List α} {l₂:List β},Paired F l₁ l₂→(∀ a b,F a b→G a b)→Paired G l₁ l₂
  | _,_,.nil,_=>.nil
  | _,_,.cons r t,f=>.cons (f _ _ r) (Paired.mapP t f)
theorem ObjOk.stay(x:ObjOk P w H h a o)(k:∀ b u,(b=a∨H b=some (.own a))→h.get? b=some u→h'.get? b=some u)
    (ho:∀ b,H b=some (.own a)→H' b=some (.own a)) (ht:∀ b xs,H b=some (.tup xs)→H' b=some (.tup xs))
    (hf:∀ b o u,H b=some (.frz o u)→H' b=some (.frz o u):=by first | exact fun _ _ _ q=>q | exact fun _ _ _ q=>(zt (jk q (by assumption))).trans q):ObjOk P w H' h' a o:=by
  induction o with
  | lst xs=>obtain ⟨z,its,n,r,e⟩:=x;exact ⟨z,its,n,r,k _ _ (.inl rfl) e⟩
  | tup xs=>obtain ⟨⟨z,nd⟩,its,r,ob,e,c⟩:=x;exact ⟨⟨z,sh (k _ _ (.inl rfl) e) (nd ob e)⟩,its,r,ob,k _ _ (.inl rfl) e,c⟩
  | dK kvs=>obtain ⟨z,y,vs,r,ob,es,ep,e,c⟩:=x;exact ⟨z,y,vs,r,ob,es,ep,k _ _ (.inl rfl) e,c⟩
  | dT kvs ep=>
    obtain ⟨z,y,xs,r,ob,es,e,c⟩:=x
    exact ⟨z,y,xs,Paired.mapP r fun p q z=>⟨z.1,z.2.1.imp (ht _ _) (fun ⟨o,q⟩=>⟨o,hf _ _ _ q⟩),z.2.2⟩,ob,es,k _ _ (.inl rfl) e,c⟩
  | set S n=>obtain ⟨ob,es,ep,t,e,c⟩:=x;exact ⟨ob,es,ep,t,k _ _ (.inl rfl) e,c⟩
  | ins C dx fs=>
    obtain ⟨d,z,ne,e,mA,⟨od,es,ep,e2,c⟩,r⟩:=x
    exact ⟨ho _ d,z,ne,k _ _ (.inl rfl) e,mA,⟨od,es,ep,k _ _ (.inr d) e2,c⟩,r⟩
  | own y=>obtain ⟨ob,e⟩:=x;exact ⟨ob,k _ _ (.inl rfl) e⟩
  | xd fs=>obtain ⟨mA,⟨od,es,ep,e,c⟩,r⟩:=x;exact ⟨mA,⟨od,es,ep,k _ _ (.inl rfl) e,c⟩,r⟩
  | rng lo hi=>obtain ⟨t,u,v,e⟩:=x;exact ⟨t,u,v,k _ _ (.inl rfl) e⟩
  | frz ob u ih=>obtain ⟨e,q⟩:=x;exact ⟨k _ _ (.inl rfl) e,ih q⟩
  | tbl ps=>
    have e:h.get? a=some {cls:=.none,data:=.fields ps}:=x
    show h'.get? a=some {cls:=.none,data:=.fields ps}
    exact k a _ (.inl rfl) e
  | met f y=>
    have e:h.get? a=some (PySem.W.methodObj (.ref f) (.ref y)):=x
    show h'.get? a=some (PySem.W.methodObj (.ref f) (.ref y))
    exact k a _ (.inl rfl) e
  | ext φ=>obtain ⟨p,⟨o,e⟩,st⟩:=x;exact ⟨st _ _ p fun o q=>k _ _ (.inl rfl) q,⟨o,k _ _ (.inl rfl) e⟩,st⟩
theorem HOk.lt(x:HOk P w H h)(e:H a=some o):a < h.objs.size:=(x a o e).lt
theorem HOk.fresh(x:HOk P w H h)(e:h.objs.size≤a):H a=none:=by
  cases q:H a with
  | none=>rfl
  | some u=>exact absurd (Nat.lt_of_lt_of_le (x.lt q) e) (Nat.lt_irrefl _)
theorem HOk.kept(x:HOk P w H h)(k:∀ b u,h.get? b=some u→h'.get? b=some u):HOk P w H h':=fun a o e=>
  (x a o e).stay (fun b u _ q=>k b u q) (fun _ q=>q) fun _ _ q=>q
theorem HOk.laid(x:HOk P w H h)(k:∀ b u,h.get? b=some u→h'.get? b=some u)(hp:h.objs.size≤a)(new:ObjOk P w (upd H a o) h' a o):HOk P w (upd H a o) h':=fun b u e=>by
  have hn:=x.fresh hp
  by_cases hb:b=a
  · subst hb;rw [z9] at e;cases e;exact new
  · rw [zt hb] at e
    exact (x b u e).stay (fun c v _ q=>k c v q) (fun c q=>by rw [zt (jk q hn)];exact q) fun c xs q=>by rw [zt (jk q hn)];exact q
end
def Rd(H:Hp)(a:Addr)(u:HO):Prop:=H a=some u∨∃ o,H a=some (.frz o u)
theorem Rd.ok{P:Program}{w:World}{H:Hp}{h:Heap}{a:Addr}{u:HO}(r:Rd H a u)(x:HOk P w H h):ObjOk P w H h a u:=by
  rcases r with r | ⟨o,r⟩
  · exact x a u r
  · obtain ⟨_,q⟩:=x a _ r
    exact q
def Mut:Option HO→Prop
  | some (.lst _)=>True
  | some (.dK _)=>True
  | some (.dT _ _)=>True
  | some (.set _ _)=>True
  | some (.ins _ _ _)=>True
  | some (.ext _)=>True
  | _=>False
section
variable{P:Program}{w:World}{H:Hp}{h h':Heap}{x e:Addr}{o':HO}
theorem HOk.write(ok:HOk P w H h)(mu:Mut (H x))(he:e=x∨H e=some (.own x))(k:∀ b u,b≠e→h.get? b=some u→h'.get? b=some u)(heo:∃ u,h'.get? e=some u)
    (new:ObjOk P w (upd H x o') h' x o'):HOk P w (upd H x o') h':=fun b u q=>by
  have nown:∀ c y,H c=some (.own y)→c≠x:=fun c y r z=>by subst z;rw [r] at mu;exact mu
  have ntup:∀ c xs,H c=some (.tup xs)→c≠x:=fun c xs r z=>by subst z;rw [r] at mu;exact mu
  by_cases hb:b=x
  · subst hb;rw [z9] at q;cases q;exact new
  · rw [zt hb] at q
    by_cases hbe:b=e
    · have q':H b=some (.own x):=by
        rcases he with z | z
        · exact absurd (hbe.trans z) hb
        · rw [hbe];exact z
      rw [q] at q';cases q'
      obtain ⟨v,hv⟩:=heo
      exact ⟨v,by rw [hbe];exact hv⟩
    · refine (ok b u q).stay (fun c v hc r=>k c v ?_ r) (fun c r=>by rw [zt (nown c b r)];exact r) (fun c xs r=>by rw [zt (ntup c xs r)];exact r) (fun c o u r=>by rw [zt (fun z=>by subst z;rw [r] at mu;exact mu)];exact r)
      rcases hc with rfl | hc
      · exact hbe
      · rintro rfl
        rcases he with z | z
        · exact nown c b hc z
        · rw [hc] at z;cases z;exact hb rfl
end
structure Un(fs ex:List Addr)(H H':Hp)(h h':Heap):Prop where
  keep:∀ b o,h.get? b=some o→H b=none→b∉fs→b∉ex→h'.get? b=some o
  slot:∀ b o,h.get? b=some o→H b=none→b∈fs→b∉ex→∃ sl,h'.get? b=some {o with slots:=sl}
  free:∀ b o,h.get? b=some o→H b=none→b∉ex→H' b=none
  there:∀ b o,h.get? b=some o→b∉ex→∃ o',h'.get? b=some o'
  tups:∀ b xs,H b=some (.tup xs)→H' b=some (.tup xs)
  frzs:∀ b o u,H b=some (.frz o u)→H' b=some (.frz o u)
  tbls:∀ b ps,H b=some (.tbl ps)→∃ more,H' b=some (.tbl (ps++more))
section
variable{fs fs' ex ex':List Addr}{H H1 H2:Hp}{h h1 h2 h':Heap}{a x e:Addr}{o:HO}
theorem Un.any(u:Un fs ex H H1 h h1){b:Addr}{ob:Obj}(q:h.get? b=some ob)(n:H b=none)(hx:b∉ex):∃ sl,h1.get? b=some {ob with slots:=sl}:=by
  by_cases hb:b∈fs
  · exact u.slot b ob q n hb hx
  · exact ⟨ob.slots,u.keep b ob q n hb hx⟩
theorem Un.trans(a:Un fs ex H H1 h h1)(b:Un fs ex H1 H2 h1 h2):Un fs ex H H2 h h2 where
  keep:=fun c ob q n hc hx=>b.keep c ob (a.keep c ob q n hc hx) (a.free c ob q n hx) hc hx
  slot:=fun c ob q n hc hx=>by
    obtain ⟨sl,e1⟩:=a.slot c ob q n hc hx
    obtain ⟨sl',e2⟩:=b.slot c _ e1 (a.free c ob q n hx) hc hx
    exact ⟨sl',e2⟩
  free:=fun c ob q n hx=>by
    obtain ⟨o',e1⟩:=a.there c ob q hx
    exact b.free c o' e1 (a.free c ob q n hx) hx
  there:=fun c ob q hx=>by
    obtain ⟨o',e1⟩:=a.there c ob q hx
    exact b.there c o' e1 hx
  tups:=fun c xs q=>b.tups c xs (a.tups c xs q)
  frzs:=fun c ob xs q=>b.frzs c ob xs (a.frzs c ob xs q)
  tbls:=fun c ps q=>by
    obtain ⟨m1,e1⟩:=a.tbls c ps q
    obtain ⟨m2,e2⟩:=b.tbls c _ e1
    exact ⟨m1++m2,by rw [e2,Array.append_assoc]⟩
theorem Un.kept(k:∀ b u,h.get? b=some u→h'.get? b=some u):Un fs ex H H h h':=
  ⟨fun b ob q _ _ _=>k b ob q,fun b ob q _ _ _=>⟨ob.slots,k b ob q⟩,fun _ _ _ n _=>n,fun b ob q _=>⟨ob,k b ob q⟩,fun _ _ q=>q,fun _ _ _ q=>q,fun _ ps q=>⟨#[],by rw [q];simp⟩⟩
theorem Un.refl:Un fs ex H H h h:=Un.kept fun _ _ q=>q
theorem Un.laid(k:∀ b u,h.get? b=some u→h'.get? b=some u)(hp:h.objs.size≤a)(hn:H a=none):Un fs ex H (upd H a o) h h' where
  keep:=fun b u q _ _ _=>k b u q
  slot:=fun b u q _ _ _=>⟨u.slots,k b u q⟩
  free:=fun b u q n _=>by rw [zt (Nat.ne_of_lt (Nat.lt_of_lt_of_le (Heap.lt_size q) hp))];exact n
  there:=fun b u q _=>⟨u,k b u q⟩
  tups:=fun b xs q=>by rw [zt (jk q hn)];exact q
  frzs:=fun b u xs q=>by rw [zt (jk q hn)];exact q
  tbls:=fun b ps q=>⟨#[],by rw [zt (jk q hn),q];simp⟩
theorem Un.write(mu:Mut (H x))(he:e=x∨H e=some (.own x))(k:∀ b u,b≠e→h.get? b=some u→h'.get? b=some u)(heo:∃ u,h'.get? e=some u):Un fs ex H (upd H x o) h h':=by
  have hx:∀ b,H b=none→b≠x:=fun b n z=>by subst z;rw [n] at mu;exact mu
  have hb:∀ b,H b=none→b≠e:=fun b n z=>by
    subst z
    rcases he with r | r
    · exact hx b n r
    · rw [n] at r;cases r
  have hm:∀ b u,H b=some u→¬ Mut (some u)→b≠x:=fun b u q nm z=>by subst z;rw [q] at mu;exact nm mu
  refine ⟨fun b u q n _ _=>k b u (hb b n) q,fun b u q n _ _=>⟨u.slots,k b u (hb b n) q⟩,fun b u q n _=>by rw [zt (hx b n)];exact n,fun b u q _=>?_,
    fun b xs q=>by rw [zt (hm b _ q fun z=>z)];exact q,fun b u xs q=>by rw [zt (hm b _ q fun z=>z)];exact q,fun b ps q=>⟨#[],by rw [zt (hm b _ q fun z=>z),q];simp⟩⟩
  by_cases hbe:b=e
  · subst hbe;exact heo
  · exact ⟨u,k b u hbe q⟩
theorem Un.mono(u:Un fs ex H H1 h h1)(hs:∀ b∈fs,b∈fs')(hx:∀ b∈ex,b∈ex'):Un fs' ex' H H1 h h1:=
  ⟨fun b ob q n hb he=>u.keep b ob q n (fun z=>hb (hs b z)) fun z=>he (hx b z),fun _ _ q n _ he=>u.any q n fun z=>he (hx _ z),fun b ob q n he=>u.free b ob q n fun z=>he (hx b z),fun b ob q he=>u.there b ob q fun z=>he (hx b z),u.tups,u.frzs,u.tbls⟩
end
def trk(h:Heap)(H:Hp):List Addr:=(List.range h.objs.size).filter fun a=>(H a).isSome
def Bz(h:Heap)(H:Hp):Heap:=PySem.W.hideAll h (trk h H)
theorem HL(h:Heap)(H:Hp):(Bz h H).objs.size=h.objs.size:=PySem.W.hideAll_size _ _
theorem IG{h:Heap}{H:Hp}{b:Addr}{o:Obj}(e:h.get? b=some o)(n:H b=none):(Bz h H).get? b=some o:=
  PySem.W.hideAll_get _ e fun hm=>by
    have q:(H b).isSome=true:=(List.mem_filter.mp hm).2
    rw [n] at q;simp at q
theorem LD{h:Heap}{H:Hp}{b:Addr}{o:Obj}(e:(Bz h H).get? b=some o):h.get? b=some o∧H b=none:=by
  have e':h.get? b=some o:=PySem.W.of_hideAll (trk h H) e
  refine ⟨e',?_⟩
  cases q:H b with
  | none=>rfl
  | some x=>
    have hm:b∈trk h H:=List.mem_filter.mpr ⟨List.mem_range.mpr (Heap.lt_size e'),by simp [q]⟩
    have z:(Bz h H).get? b=none:=PySem.W.hideAll_none (trk h H) hm
    rw [z] at e;cases e
end L2
namespace L2
open PySem PySem.Spec PyProof.Rows
structure Mod(K:PySem.W.Frag)(mg:Str→Option Value)(base:Heap):Prop where
  kin:K.In base
  glob:base.Ns mainGlobals mg
  blt:∃ mb,base.Ns builtinsNs mb∧∀ x:Str,x≠"__name__"→mb x=bootBuiltins x
  nolimit:base.NoLimit
structure Cx where
  prog:Program
  w:World
  K:PySem.W.Frag
  mg:Str→Option Value
  base:Heap
  A:Around
  N:List Str
  s₀:Shared
  H₀:Hp
  env:Env
  outer:List Env
  stack:List Env
  ex:List Addr
  fn:Str→Bool
  calm:Bool
  pn:List (Addr×Obj)
  xe:Value→Shared→Prop
def frs(l:List Env):List Addr:=l.filterMap (·.frame)
abbrev Cx.fs(X:Cx):List Addr:=frs X.outer
def Vis(sc:Scope)(x:Str):Prop:=sc.names.lookup x=some .local∨sc.names.lookup x=some .cell∨sc.names.lookup x=some .free
def Loc(sc:Scope)(x:Str):Prop:=sc.names.lookup x=some .local∨sc.names.lookup x=some .cell
def PJ(env:Env)(h:Heap)(m:Str→Option Value)(x:Str)(u:Value):Prop:=
  (env.kindOf x=some .local∧m x=some u)∨((env.kindOf x=some .cell∨env.kindOf x=some .free)∧∃ c,env.cells.lookup x=some c∧h.IsCell c (some u))
def stV:Value→Option V
  | .int i _=>some (.int i)
  | .str x _=>some (.str x)
  | _=>none
def Mj:List Value→Option (List V)
  | []=>some []
  | v::r=>match stV v,Mj r with
    | some x,some xs=>some (x::xs)
    | _,_=>none
def stO:Obj→Option (List V)
  | ⟨.type c,none,.seq its _,_⟩=>if c= "tuple"∧its.size≤sizeLine then Mj its.toList else none
  | _=>none
def Sb(K:PySem.W.Frag)(H:Hp)(b:Addr)(o:Obj):Prop:=(H b=none∨∃ u,H b=some (.frz o u))∧∀ vs,K.lookup b=some o→stO o=some vs→H b=some (.frz o (.tup vs))
theorem E0:∀ {us:List Value} {vs:List V},Mj us=some vs→Vals vs us
  | [],vs,e=>by cases e;exact .nil
  | u::us,vs,e=>by
    unfold Mj at e
    split at e
    · rename_i x xs h1 h2
      cases e
      refine .cons ?_ (E0 h2)
      unfold stV at h1
      split at h1
      · cases h1;exact ⟨_,rfl⟩
      · cases h1;exact ⟨_,rfl⟩
      · cases h1
    · cases e
theorem N3{P:Program}{w:World}{H:Hp}{h:Heap}{b:Addr}{o:Obj}{vs:List V}(e:h.get? b=some o)(q:stO o=some vs):ObjOk P w H h b (.tup vs):=by
  unfold stO at q
  split at q
  · rename_i c its n sl
    split at q
    · rename_i hc
      obtain ⟨rfl,hz⟩:=hc
      have r:=E0 q
      have hl:vs.length≤sizeLine:=by rw [r.length];simpa using hz
      exact ⟨⟨hl,sh e rfl⟩,its.toList,r,_,e,rfl,n,by simp⟩
    · cases q
  · cases q
structure Cx.Ok(X:Cx):Prop where
  mod:Mod X.K X.mg X.base
  kind:X.env.scope.kind= .function
  glob:X.env.globals=mainGlobals
  blt:X.env.builtins=builtinsNs
  above:X.s₀.heap.objs.size≤X.env.locals
  inj:∀ x y c,X.env.cells.lookup x=some c→X.env.cells.lookup y=some c→x=y
  has:∀ x,(X.env.kindOf x=some .cell∨X.env.kindOf x=some .free)→∃ c,X.env.cells.lookup x=some c
  cab:∀ x c,X.fn x=true→X.env.cells.lookup x=some c→X.s₀.heap.objs.size≤c
  hd:X.calm=true→X.A.handled=none
  frames:X.A.frames=some X.stack
  stk:X.stack=X.outer∨(X.stack=X.env::X.outer∧X.env.frame=some X.env.locals)
  exf:∀ b∈X.ex,b≠X.env.locals∧∀ x c,X.env.cells.lookup x=some c→c≠b
  bs:∀ b o,X.base.get? b=some o→X.s₀.heap.get? b=some o∧Sb X.K X.H₀ b o
  bsz:X.base.objs.size≤X.s₀.heap.objs.size
  noex:∀ b o,X.base.get? b=some o→b∉X.ex
  exfs:∀ b∈X.ex,b∉X.fs
  funs:X.s₀.heap.FunFrames X.base X.outer
  frf:∀ b∈X.fs,X.H₀ b=none
structure Inv(X:Cx)(pins:List (Addr×Obj))(σ:List (Option V))(H:Hp)(s:Shared):Prop where
  ok:X.Ok
  os:s.os=X.s₀.os
  bare:AllBare s.gens
  base:Un X.fs X.ex X.H₀ H X.s₀.heap s.heap
  loc:∃ m,s.heap.Ns X.env.locals m∧∀ (i:Nat) (x:Str) (v:V),X.N[i]? =some x→σ[i]? =some (some v)→Vis X.env.scope x→∃ u,RelV v u∧PJ X.env s.heap m x u
  cell:∀ x c,X.env.cells.lookup x=some c→∃ v,s.heap.IsCell c v
  free:H X.env.locals=none
  freeC:∀ x c,X.env.cells.lookup x=some c→H c=none
  pin:∀ p∈X.pn++pins,s.heap.get? p.1=some p.2∧H p.1=none∧p.1≠X.env.locals∧p.1∉X.fs∧∀ v,p.2.data≠.cell v
  hok:HOk X.prog X.w H s.heap
  len:σ.length=X.N.length
section
variable{X:Cx}{pins:List (Addr×Obj)}{σ:List (Option V)}{H H':Hp}{s:Shared}{h':Heap}
theorem Cx.Ok.nofr(ok:X.Ok){b:Addr}{o:Obj}(e:X.base.get? b=some o):b∉X.fs:=fun hb=>by
  have:=(ok.funs.mem hb).1
  rw [e] at this;cases this
theorem Inv.bs(I:Inv X pins σ H s):∀ b o,X.base.get? b=some o→s.heap.get? b=some o∧Sb X.K H b o:=fun b o e=>by
  obtain ⟨h1,h2,h3⟩:=I.ok.bs b o e
  have h4:∀ vs,X.K.lookup b=some o→stO o=some vs→H b=some (.frz o (.tup vs)):=fun vs k q=>I.base.frzs b o _ (h3 vs k q)
  rcases h2 with h2 | ⟨u,h2⟩
  · exact ⟨I.base.keep b o h1 h2 (I.ok.nofr e) (I.ok.noex b o e),.inl (I.base.free b o h1 h2 (I.ok.noex b o e)),h4⟩
  · have q:=I.base.frzs b o u h2
    exact ⟨(I.hok b _ q).1,.inr ⟨u,q⟩,h4⟩
theorem Inv.bk(I:Inv X pins σ H s):∀ b o,X.base.get? b=some o→s.heap.get? b=some o:=fun b o e=>(I.bs b o e).1
theorem Inv.mod(I:Inv X pins σ H s):Mod X.K X.mg X.base:=I.ok.mod
theorem Inv.kIn(I:Inv X pins σ H s):X.K.In s.heap:=I.ok.mod.kin.keeps I.bk
theorem Inv.lt(I:Inv X pins σ H s):X.env.locals < s.heap.objs.size:=let ⟨_,hn,_⟩:=I.loc;hn.lt
theorem Inv.sz(I:Inv X pins σ H s):X.s₀.heap.objs.size≤s.heap.objs.size:=Nat.le_trans I.ok.above (Nat.le_of_lt I.lt)
theorem Inv.nofs(I:Inv X pins σ H s){a:Addr}(h:s.heap.objs.size≤a):a∉X.fs:=fun hb=>by
  obtain ⟨_,o,ho,_⟩:=I.ok.funs.mem hb
  exact absurd (Nat.lt_of_lt_of_le (Heap.lt_size ho) (Nat.le_trans I.sz h)) (Nat.lt_irrefl _)
theorem Inv.cne(I:Inv X pins σ H s):∀ x c,X.env.cells.lookup x=some c→c≠X.env.locals:=fun x c e z=>by
  obtain ⟨v,o,ho,hd⟩:=I.cell x c e
  obtain ⟨m,⟨o',es,ep,ho',hd',_⟩,_⟩:=I.loc
  rw [z,ho'] at ho;cases ho;rw [hd'] at hd;cases hd
theorem Inv.funs(I:Inv X pins σ H s):s.heap.FunFrames X.base X.outer:=by
  have all:∀ (l:List Env),(∀ b∈frs l,b∈X.fs)→X.s₀.heap.FunFrames X.base l→s.heap.FunFrames X.base l:=by
    intro l
    induction l with
    | nil=>intro _ _;trivial
    | cons env r ih=>
      intro hs hl
      obtain ⟨hk,⟨L,o,hf,hn,ho,hd⟩,hr⟩:=hl
      have hL:L∈X.fs:=hs L (by unfold frs;rw [List.filterMap_cons,hf];exact List.mem_cons_self)
      obtain ⟨sl,e⟩:=I.base.slot L o ho (I.ok.frf L hL) hL fun z=>I.ok.exfs L z hL
      exact ⟨hk,⟨L,_,hf,hn,e,hd⟩,ih (fun b hb=>hs b (by unfold frs;rw [List.filterMap_cons,hf];exact List.mem_cons_of_mem _ hb)) hr⟩
  exact all X.outer (fun _ hb=>hb) I.ok.funs
theorem Inv.stack(I:Inv X pins σ H s):s.heap.FunFrames X.base X.stack:=by
  rcases I.ok.stk with e | ⟨e,hf⟩
  · rw [e];exact I.funs
  · rw [e]
    obtain ⟨m,hn,_⟩:=I.loc
    refine .cons (by rw [I.ok.kind];decide) hf hn ?_ I.funs
    exact Heap.get?_none_of_le (Nat.le_trans I.ok.bsz I.ok.above)
theorem Inv.stkSub(I:Inv X pins σ H s):∀ b∈frs X.stack,b∈X.env.locals::X.fs:=fun b hb=>by
  rcases I.ok.stk with e | ⟨e,hf⟩
  · rw [e] at hb;exact List.mem_cons_of_mem _ hb
  · rw [e] at hb
    unfold frs at hb
    rw [List.filterMap_cons,hf] at hb
    exact hb
theorem Inv.stkFree(I:Inv X pins σ H s):∀ b∈frs X.stack,H b=none:=fun b hb=>by
  rcases List.mem_cons.mp (I.stkSub b hb) with e | hb
  · rw [e];exact I.free
  · obtain ⟨_,o,ho,_⟩:=I.ok.funs.mem hb
    exact I.base.free b o ho (I.ok.frf b hb) fun z=>I.ok.exfs b z hb
theorem Inv.step{g':Array GenState}{t':Nat}{d':Drawn}{ch:List Addr}(I:Inv X pins σ H s)
    (hch:∀ b∈ch,(b∈X.ex∨X.s₀.heap.objs.size≤b)∧b≠X.env.locals∧(∀ x c,X.env.cells.lookup x=some c→c≠b)∧∀ p∈X.pn++pins,p.1≠b)
    (keep:∀ b o,b≠X.env.locals→b∉X.fs→b∉ch→s.heap.get? b=some o→H b=none→h'.get? b=some o)
    (slot:∀ b o,b≠X.env.locals→b∈X.fs→b∉ch→s.heap.get? b=some o→H b=none→∃ sl,h'.get? b=some {o with slots:=sl}) (free:∀ b o,b∉ch→s.heap.get? b=some o→H b=none→H' b=none)
    (there:∀ b o,b∉ch→s.heap.get? b=some o→∃ o',h'.get? b=some o')
    (tups:∀ b xs,H b=some (.tup xs)→H' b=some (.tup xs)) (frzs:∀ b o u,H b=some (.frz o u)→H' b=some (.frz o u)) (tbls:∀ b ps,H b=some (.tbl ps)→∃ more,H' b=some (.tbl (ps++more)))
    (ns:∀ m,s.heap.Ns X.env.locals m→h'.Ns X.env.locals m) (hok:HOk X.prog X.w H' h') (hg:AllBare g'):
    Inv X pins σ H' {s with heap:=h',gens:=g',drawn:=d',toks:=t'}:=by
  have neL:∀ b o,X.s₀.heap.get? b=some o→b≠X.env.locals:=fun b o e=>Nat.ne_of_lt (Nat.lt_of_lt_of_le (Heap.lt_size e) I.ok.above)
  have neC:∀ b o,X.s₀.heap.get? b=some o→b∉X.ex→b∉ch:=fun b o e hx hb=>by
    rcases (hch b hb).1 with z | z
    · exact hx z
    · exact absurd (Nat.lt_of_lt_of_le (Heap.lt_size e) z) (Nat.lt_irrefl _)
  have cellK:∀ x c,X.env.cells.lookup x=some c→∀ v,s.heap.IsCell c v→h'.IsCell c v:=fun x c e v ⟨o,ho,hd⟩=>by
    have nch:c∉ch:=fun z=>(hch c z).2.2.1 x c e rfl
    by_cases hc:c∈X.fs
    · obtain ⟨sl,q⟩:=slot c o (I.cne x c e) hc nch ho (I.freeC x c e)
      exact ⟨_,q,hd⟩
    · exact ⟨o,keep c o (I.cne x c e) hc nch ho (I.freeC x c e),hd⟩
  refine ⟨I.ok,I.os,hg,⟨fun b o e n hb hx=>?_,fun b o e n hb hx=>?_,fun b o e n hx=>?_,fun b o e hx=>?_,fun b xs e=>tups b xs (I.base.tups b xs e),fun b o xs e=>frzs b o xs (I.base.frzs b o xs e),fun b ps e=>?_⟩,?_,fun x c e=>?_,?_,fun x c e=>?_,fun p hp=>?_,hok,I.len⟩
  · exact keep b o (neL b o e) hb (neC b o e hx) (I.base.keep b o e n hb hx) (I.base.free b o e n hx)
  · obtain ⟨sl,e1⟩:=I.base.slot b o e n hb hx
    obtain ⟨sl',e2⟩:=slot b _ (neL b o e) hb (neC b o e hx) e1 (I.base.free b o e n hx)
    exact ⟨sl',e2⟩
  · obtain ⟨o',e1⟩:=I.base.there b o e hx
    exact free b o' (neC b o e hx) e1 (I.base.free b o e n hx)
  · obtain ⟨o',e1⟩:=I.base.there b o e hx
    exact there b o' (neC b o e hx) e1
  · obtain ⟨m1,e1⟩:=I.base.tbls b ps e
    obtain ⟨m2,e2⟩:=tbls b _ e1
    exact ⟨m1++m2,by rw [e2,Array.append_assoc]⟩
  · obtain ⟨m,hn,hl⟩:=I.loc
    refine ⟨m,ns m hn,fun i x v e1 e2 e3=>?_⟩
    obtain ⟨u,r,l⟩:=hl i x v e1 e2 e3
    refine ⟨u,r,?_⟩
    rcases l with l | ⟨k,c,e,z⟩
    · exact .inl l
    · exact .inr ⟨k,c,e,cellK x c e _ z⟩
  · obtain ⟨v,z⟩:=I.cell x c e
    exact ⟨v,cellK x c e v z⟩
  · obtain ⟨m,⟨o,_,_,ho,_⟩,_⟩:=I.loc
    exact free _ o (fun z=>(hch _ z).2.1 rfl) ho I.free
  · obtain ⟨v,o,ho,hd⟩:=I.cell x c e
    exact free c o (fun z=>(hch c z).2.2.1 x c e rfl) ho (I.freeC x c e)
  · obtain ⟨e,n,ne,nf,d⟩:=I.pin p hp
    have nch:p.1∉ch:=fun z=>(hch p.1 z).2.2.2 p hp rfl
    exact ⟨keep p.1 p.2 ne nf nch e n,free p.1 p.2 nch e n,ne,nf,d⟩
theorem Inv.un{t':Nat}(I:Inv X pins σ H s)(u:Un X.fs [] H H' s.heap h')(hok:HOk X.prog X.w H' h'):Inv X pins σ H' {s with heap:=h',toks:=t'}:=by
  obtain ⟨m,⟨o,es,ep,ho,r⟩,_⟩:=id I.loc
  obtain ⟨sl,hL⟩:=u.any ho I.free (by simp)
  exact I.step (g':=s.gens) (d':=s.drawn) (ch:=[]) (fun _ z=>nomatch z) (fun b o _ hb _ e n=>u.keep b o e n hb (by simp)) (fun b o _ hb _ e n=>u.slot b o e n hb (by simp)) (fun b o _ e n=>u.free b o e n (by simp)) (fun b o _ e=>u.there b o e (by simp)) u.tups u.frzs u.tbls (fun m' hm=>by
    obtain ⟨o',es',ep',ho',r'⟩:=hm
    rw [ho] at ho';cases ho'
    exact ⟨_,es',ep',hL,r'⟩) hok I.bare
theorem Inv.call{g':Array GenState}{t':Nat}{d':Drawn}{ch:List Addr}(I:Inv X pins σ H s)(u:Un (frs X.stack) ch H H' s.heap h')(hok:HOk X.prog X.w H' h')(hg:AllBare g')
    (hch:∀ b∈ch,(b∈X.ex∨X.s₀.heap.objs.size≤b)∧b≠X.env.locals∧(∀ x c,X.env.cells.lookup x=some c→c≠b)∧∀ p∈X.pn++pins,p.1≠b):
    Inv X pins σ H' {s with heap:=h',gens:=g',drawn:=d',toks:=t'}:=by
  obtain ⟨m,⟨o,es,ep,ho,r⟩,_⟩:=id I.loc
  obtain ⟨sl,hL⟩:=u.any ho I.free fun z=>(hch _ z).2.1 rfl
  exact I.step (ch:=ch) hch (fun b o hL hb hc e n=>u.keep b o e n (fun z=>(List.mem_cons.mp (I.stkSub b z)).elim hL hb) hc) (fun b o _ _ hc e n=>u.any e n hc) (fun b o hc e n=>u.free b o e n hc) (fun b o hc e=>u.there b o e hc) u.tups u.frzs u.tbls (fun m' hm=>by
    obtain ⟨o',es',ep',ho',r'⟩:=hm
    rw [ho] at ho';cases ho'
    exact ⟨_,es',ep',hL,r'⟩) hok hg
theorem Inv.turned{t':Nat}{it:Addr}(I:Inv X pins σ H s)(k:∀ b o,b≠it→s.heap.get? b=some o→h'.get? b=some o)(hn:H it=none)(hL:it≠X.env.locals)
    (h1:it∈X.ex∨X.s₀.heap.objs.size≤it) (h2:∀ x c,X.env.cells.lookup x=some c→c≠it) (h3:∀ p∈X.pn++pins,p.1≠it):Inv X pins σ H {s with heap:=h',toks:=t'}:=by
  have nit:∀ b u,H b=some u→b≠it:=fun b u e z=>by rw [z,hn] at e;cases e
  refine I.step (g':=s.gens) (d':=s.drawn) (ch:=[it]) (fun b hb=>?_) (fun b o _ _ hc e _=>k b o (fun z=>hc (by simp [z])) e) (fun b o _ _ hc e _=>⟨o.slots,k b o (fun z=>hc (by simp [z])) e⟩) (fun _ _ _ _ n=>n)
    (fun b o hc e=>⟨o,k b o (fun z=>hc (by simp [z])) e⟩) (fun _ _ e=>e) (fun _ _ _ e=>e) (fun b ps e=>⟨#[],by rw [e];simp⟩) (fun m hm=>?_) (fun b u e=>?_) I.bare
  · have e:b=it:=by simpa using hb
    subst e
    exact ⟨h1,hL,h2,h3⟩
  · obtain ⟨o,es,ep,ho,r⟩:=hm
    exact ⟨o,es,ep,k _ o (Ne.symm hL) ho,r⟩
  · refine (I.hok b u e).stay (fun c v hc q=>k c v ?_ q) (fun _ q=>q) fun _ _ q=>q
    rcases hc with z | z
    · rw [z];exact nit b u e
    · exact nit c _ z
theorem Inv.tok(I:Inv X pins σ H s)(t:Nat):Inv X pins σ H {s with toks:=t}:=I.un (h':=s.heap) (t':=t) Un.refl I.hok
theorem Inv.kept{t':Nat}(I:Inv X pins σ H s)(k:∀ b u,s.heap.get? b=some u→h'.get? b=some u):Inv X pins σ H {s with heap:=h',toks:=t'}:=I.un (Un.kept k) (I.hok.kept k)
theorem Inv.laid{a:Addr}{o:HO}{t':Nat}(I:Inv X pins σ H s)(k:∀ b u,s.heap.get? b=some u→h'.get? b=some u)(hp:s.heap.objs.size≤a)(new:ObjOk X.prog X.w (upd H a o) h' a o):
    Inv X pins σ (upd H a o) {s with heap:=h',toks:=t'}:=I.un (Un.laid k hp (I.hok.fresh hp)) (I.hok.laid k hp new)
theorem Inv.write{x e:Addr}{o:HO}{t':Nat}(I:Inv X pins σ H s)(mu:Mut (H x))(he:e=x∨H e=some (.own x))(k:∀ b u,b≠e→s.heap.get? b=some u→h'.get? b=some u)(heo:∃ u,h'.get? e=some u)
    (new:ObjOk X.prog X.w (upd H x o) h' x o):Inv X pins σ (upd H x o) {s with heap:=h',toks:=t'}:=I.un (Un.write mu he k heo) (I.hok.write mu he k heo new)
theorem Inv.pins_of{pins':List (Addr×Obj)}(I:Inv X pins σ H s)(h:∀ p∈pins',s.heap.get? p.1=some p.2∧H p.1=none∧p.1≠X.env.locals∧p.1∉X.fs∧∀ v,p.2.data≠.cell v):Inv X pins' σ H s:=
  ⟨I.ok,I.os,I.bare,I.base,I.loc,I.cell,I.free,I.freeC,fun p hp=>(List.mem_append.mp hp).elim (fun z=>I.pin p (List.mem_append_left _ z)) (h p),I.hok,I.len⟩
theorem D0{N:List Str}(hN:N.Nodup){i j:Nat}{x:Str}(a:N[i]? =some x)(b:N[j]? =some x):i=j:=by
  obtain ⟨h1,e1⟩:=List.getElem?_eq_some_iff.mp a
  obtain ⟨h2,e2⟩:=List.getElem?_eq_some_iff.mp b
  exact (List.getElem_inj hN).mp (e1.trans e2.symm)
theorem HD{M:Model}{A:Around}{E:Value→Shared→Prop}{i:Nat}{x:Str}{v:V}{u:Value}{Q:Unit→Shared→Prop}(I:Inv X pins σ H s)(hN:X.N.Nodup)(hi:X.N[i]? =some x)(hx:Loc X.env.scope x)(r:RelV v u)
    (h:∀ s',Inv X pins (σ.set i (some v)) H s'→(∃ a,Heap.SameBut a s.heap s'.heap∧(a=X.env.locals∨X.env.cells.lookup x=some a))→Q () s') (hf:X.fn x=true∨X.env.scope.names.lookup x=some .local:=by first | exact .inl rfl | exact .inr rfl | assumption):wpAny M A (storeName X.env x u) Q E s:=by
  obtain ⟨m,hn,hl⟩:=id I.loc
  have hcls:(X.env.scope.kind == .class || (X.env.scope.kind == .module && X.env.locals != X.env.globals))=false:=by rw [I.ok.kind];rfl
  have hiσ:i < σ.length:=by rw [I.len];exact (List.getElem?_eq_some_iff.mp hi).1
  have cne:=I.cne
  have tracked:∀ {a:Addr} {h':Heap},(∃ o,s.heap.get? a=some o∧H a=none)→Heap.SameBut a s.heap h'→HOk X.prog X.w H h':=fun {a h'} ha hs b ob e=>by
    obtain ⟨_,_,hfree⟩:=ha
    refine (I.hok b ob e).stay (fun c w' hc q=>(hs.2 c ?_).trans q) (fun _ q=>q) fun _ _ q=>q
    rintro rfl
    rcases hc with rfl | hc
    · rw [hfree] at e;cases e
    · rw [hfree] at hc;cases hc
  rcases hx with hk | hk
  · refine wpAny_storeName_local hk hn (fun h' hn' hs=>?_) hcls
    obtain ⟨oL,_,_,hoL,_⟩:=id hn
    refine h _ ⟨I.ok,I.os,I.bare,⟨fun b o e n hb hx=>?_,fun b o e n hb hx=>?_,I.base.free,fun b o e hx=>?_,I.base.tups,I.base.frzs,I.base.tbls⟩,⟨_,hn',fun j y v' e1 e2 e3=>?_⟩,fun y c e=>?_,I.free,I.freeC,fun p hp=>?_,tracked ⟨oL,hoL,I.free⟩ hs,by simpa using I.len⟩ ⟨_,hs,.inl rfl⟩
    · exact (hs.2 b (Nat.ne_of_lt (Nat.lt_of_lt_of_le (Heap.lt_size e) I.ok.above))).trans (I.base.keep b o e n hb hx)
    · obtain ⟨sl,e1⟩:=I.base.slot b o e n hb hx
      exact ⟨sl,(hs.2 b (Nat.ne_of_lt (Nat.lt_of_lt_of_le (Heap.lt_size e) I.ok.above))).trans e1⟩
    · obtain ⟨o',e1⟩:=I.base.there b o e hx
      exact ⟨o',(hs.2 b (Nat.ne_of_lt (Nat.lt_of_lt_of_le (Heap.lt_size e) I.ok.above))).trans e1⟩
    · by_cases hj:j=i
      · subst hj
        rw [hi] at e1;cases e1
        rw [List.getElem?_set_self hiσ] at e2
        cases e2
        exact ⟨u,r,.inl ⟨hk,by simp⟩⟩
      · rw [List.getElem?_set_ne (Ne.symm hj)] at e2
        obtain ⟨u',r',q⟩:=hl j y v' e1 e2 e3
        refine ⟨u',r',?_⟩
        rcases q with ⟨k,e⟩ | ⟨k,c,e,z⟩
        · refine .inl ⟨k,?_⟩
          have:y≠x:=fun e=>hj (D0 hN e1 (e ▸ hi))
          simp [this,e]
        · exact .inr ⟨k,c,e,z.sameBut hs (cne y c e)⟩
    · obtain ⟨w',z⟩:=I.cell y c e
      exact ⟨w',z.sameBut hs (cne y c e)⟩
    · obtain ⟨e,n,ne,nf,d⟩:=I.pin p hp
      exact ⟨(hs.2 p.1 ne).trans e,n,ne,nf,d⟩
  · have hfn:X.fn x=true:=by
      rcases hf with z | z
      · exact z
      · rw [z] at hk;cases hk
    obtain ⟨c,hc⟩:=I.ok.has x (.inl hk)
    obtain ⟨w',z⟩:=I.cell x c hc
    refine wpAny_storeName_cell I.ok.kind hk hc z (fun h' hc' hs=>?_)
    obtain ⟨oc,hoc,hocd⟩:=id z
    refine h {s with heap:=h'} ⟨I.ok,I.os,I.bare,⟨fun b o e n hb hx=>?_,fun b o e n hb hx=>?_,I.base.free,fun b o e hx=>?_,I.base.tups,I.base.frzs,I.base.tbls⟩,⟨m,hn.sameBut hs (Ne.symm (cne x c hc)),fun j y v' e1 e2 e3=>?_⟩,fun y c' e=>?_,I.free,I.freeC,fun p hp=>?_,tracked ⟨oc,hoc,I.freeC x c hc⟩ hs,by simpa using I.len⟩ ⟨c,hs,.inr hc⟩
    · exact (hs.2 b (Nat.ne_of_lt (Nat.lt_of_lt_of_le (Heap.lt_size e) (I.ok.cab x c hfn hc)))).trans (I.base.keep b o e n hb hx)
    · obtain ⟨sl,e1⟩:=I.base.slot b o e n hb hx
      exact ⟨sl,(hs.2 b (Nat.ne_of_lt (Nat.lt_of_lt_of_le (Heap.lt_size e) (I.ok.cab x c hfn hc)))).trans e1⟩
    · obtain ⟨o',e1⟩:=I.base.there b o e hx
      exact ⟨o',(hs.2 b (Nat.ne_of_lt (Nat.lt_of_lt_of_le (Heap.lt_size e) (I.ok.cab x c hfn hc)))).trans e1⟩
    · by_cases hj:j=i
      · subst hj
        rw [hi] at e1;cases e1
        rw [List.getElem?_set_self hiσ] at e2
        cases e2
        exact ⟨u,r,.inr ⟨.inl hk,c,hc,hc'⟩⟩
      · rw [List.getElem?_set_ne (Ne.symm hj)] at e2
        obtain ⟨u',r',q⟩:=hl j y v' e1 e2 e3
        refine ⟨u',r',?_⟩
        rcases q with q | ⟨k,c',e,z'⟩
        · exact .inl q
        · refine .inr ⟨k,c',e,z'.sameBut hs ?_⟩
          rintro rfl
          exact hj (D0 hN e1 (I.ok.inj _ _ _ e hc ▸ hi))
    · by_cases hcc:c'=c
      · subst hcc;exact ⟨_,hc'⟩
      · obtain ⟨w2,z2⟩:=I.cell y c' e
        exact ⟨w2,z2.sameBut hs hcc⟩
    · obtain ⟨e,n,ne,nf,d⟩:=I.pin p hp
      refine ⟨(hs.2 p.1 ?_).trans e,n,ne,nf,d⟩
      intro q
      rw [q,hoc] at e
      have q':oc=p.2:=Option.some.inj e
      exact d w' (by rw [← q'];exact hocd)
theorem DN{M:Model}{A:Around}{E:Value→Shared→Prop}{i:Nat}{x:Str}{v:V}{u:Value}{Q:Unit→Shared→Prop}(I:Inv X pins σ H s)(hN:X.N.Nodup)(hi:X.N[i]? =some x)(hx:Loc X.env.scope x)(r:RelV v u)
    (h:∀ s',Inv X pins (σ.set i (some v)) H s'→Q () s') (hf:X.fn x=true∨X.env.scope.names.lookup x=some .local:=by first | exact .inl rfl | exact .inr rfl | assumption):wpAny M A (storeName X.env x u) Q E s:=
  HD I hN hi hx r (fun s' I' _=>h s' I') hf
theorem Inv.call'{s':Shared}{ch:List Addr}(I:Inv X pins σ H s)(ho:s'.os=s.os)(u:Un (frs X.stack) ch H H' s.heap s'.heap)(hok:HOk X.prog X.w H' s'.heap)(hg:AllBare s'.gens)
    (hch:∀ b∈ch,(b∈X.ex∨X.s₀.heap.objs.size≤b)∧b≠X.env.locals∧(∀ x c,X.env.cells.lookup x=some c→c≠b)∧∀ p∈X.pn++pins,p.1≠b):Inv X pins σ H' s':=by
  obtain ⟨h',g',d',t',o'⟩:=s'
  have e:o'=s.os:=ho
  subst e
  exact I.call (g':=g') (t':=t') (d':=d') u hok hg hch
end
abbrev XK:=Value→Option Addr→Hp→Prop
abbrev St:=List (Option V)
abbrev VK:=V→Hp→Prop
abbrev TE:=St→Hp→VK→Prop
abbrev TT:=St→Hp→(Bool→Hp→Prop)→Prop
abbrev TA:=St→Hp→(List V→Hp→Prop)→Prop
structure Ends where
  nx:St→Hp→Prop
  rt:VK
  bk:St→Hp→Prop:=fun _ _=>False
  ct:St→Hp→Prop:=fun _ _=>False
abbrev TS:=Ends→St→Hp→Prop
def EP(X:Cx)(pins:List (Addr×Obj))(σ:St)(Q:VK)(u:Value)(s':Shared):Prop:=∃ v H',Inv X pins σ H' s'∧RelV v u∧Q v H'
def TP(X:Cx)(pins:List (Addr×Obj))(σ:St)(Q:Bool→Hp→Prop)(b:Bool)(s':Shared):Prop:=∃ H',Inv X pins σ H' s'∧Q b H'
def AP(X:Cx)(pins:List (Addr×Obj))(σ:St)(Q:List V→Hp→Prop)(us:List Value)(s':Shared):Prop:=∃ vs H',Inv X pins σ H' s'∧Vals vs us∧Q vs H'
def SP(X:Cx)(pins:List (Addr×Obj))(D:Ends)(f:Flow)(s':Shared):Prop:=
  match f with
  | .next=>∃ σ' H',Inv X pins σ' H' s'∧D.nx σ' H'
  | .brk=>∃ σ' H',Inv X pins σ' H' s'∧D.bk σ' H'
  | .cont=>∃ σ' H',Inv X pins σ' H' s'∧D.ct σ' H'
  | .ret u=>∃ v σ' H',Inv X pins σ' H' s'∧RelV v u∧D.rt v H'
def PE(X:Cx)(e:Expr)(t:TE):Prop:=
  ∀ (pins:List (Addr×Obj)) (s:Shared) (σ:St) (H:Hp) (Q:VK),Inv X pins σ H s→t σ H Q→wpAny (model X.prog X.w) X.A (eval e X.env) (EP X pins σ Q) X.xe s
def PT(X:Cx)(e:Expr)(t:TT):Prop:=
  ∀ (pins:List (Addr×Obj)) (s:Shared) (σ:St) (H:Hp) (Q:Bool→Hp→Prop),Inv X pins σ H s→t σ H Q→wpAny (model X.prog X.w) X.A (isTrue e X.env (eval e X.env)) (TP X pins σ Q) X.xe s
def PW(X:Cx)(e:Expr)(t:TT):Prop:=
  ∀ (whole:Sem Value) (pins:List (Addr×Obj)) (s:Shared) (σ:St) (H:Hp) (Q:Bool→Hp→Prop),Inv X pins σ H s→t σ H Q→wpAny (model X.prog X.w) X.A (isTrue e X.env whole) (TP X pins σ Q) X.xe s
theorem PW.pt{X:Cx}{e:Expr}{t:TT}(h:PW X e t):PT X e t:=h _
def PA(X:Cx)(es:List Expr)(t:TA):Prop:=
  ∀ (pos:Pos) (pins:List (Addr×Obj)) (s:Shared) (σ:St) (H:Hp) (Q:List V→Hp→Prop),Inv X pins σ H s→t σ H Q→wpAny (model X.prog X.w) X.A (spliced (backTo pos (starEach es X.env))) (AP X pins σ Q) X.xe s
def PS(X:Cx)(st:Stmt)(t:TS):Prop:=
  ∀ (pins:List (Addr×Obj)) (s:Shared) (σ:St) (H:Hp) (D:Ends),Inv X pins σ H s→t D σ H→wpAny (model X.prog X.w) X.A (exec st X.env) (SP X pins D) X.xe s
def PSs(X:Cx)(st:List Stmt)(t:TS):Prop:=
  ∀ (pins:List (Addr×Obj)) (s:Shared) (σ:St) (H:Hp) (D:Ends),Inv X pins σ H s→t D σ H→wpAny (model X.prog X.w) X.A (execs st X.env) (SP X pins D) X.xe s
theorem thn{α:Type}{t:Sem α}{Q Q':α→Shared→Prop}{M:Model}{A:Around}{E:Value→Shared→Prop}{s:Shared}(h:wpAny M A t Q E s)(hQ:∀ a s,Q a s→Q' a s):wpAny M A t Q' E s:=wpAny_mono h hQ fun _ _ x=>x
end L2
namespace L2
open PySem PySem.Spec PyProof.Rows
section
variable{X:Cx}
def By(i:Nat):TE:=fun σ H Q=>∃ v,σ[i]? =some (some v)∧Q v H
def tC(v:V):TE:=fun _ H Q=>Q v H
theorem w5{i:Nat}{x:Str}{pos:Pos}(hN:X.N[i]? =some x)(hv:Vis X.env.scope x)(hd:(x == ("__debug__":Str))=false:=by decide)(hcd:(x == ("__classdict__":Str))=false:=by decide):PE X (.Name x pos) (By i):=by
  intro pins s σ H Q I h
  obtain ⟨v,e,h⟩:=h
  obtain ⟨m,hn,hl⟩:=I.loc
  obtain ⟨u,r,l⟩:=hl i x v hN e hv
  have fin:EP X pins σ Q u s:=⟨v,H,I,r,h⟩
  rcases l with ⟨hk,hm⟩ | ⟨hk,c,hc,hcell⟩
  · exact wpAny_Name (wpAny_loadName_local I.ok.kind hk hn hm fin) hd
  · rcases hk with hk | hk
    · exact wpAny_Name (wpAny_loadName_cell I.ok.kind hk hc hcell fin) hd
    · exact wpAny_Name (wpAny_loadName_free I.ok.kind hk hc hcell fin hcd) hd
theorem CF{i j pos}:PE X (.Constant (.int i) j pos) (tC (.int i)):=fun _ _ _ H _ I h=>wpAny_Constant_int ⟨.int i,H,I.tok _,⟨_,rfl⟩,h⟩
theorem Ph{b j pos}:PE X (.Constant (.bool b) j pos) (tC (.bl b)):=fun _ _ _ H _ I h=>Constant_bool ⟨.bl b,H,I,rfl,h⟩
theorem Nv{j pos}:PE X (.Constant .none j pos) (tC .non):=fun _ _ _ H _ I h=>Constant_none ⟨.non,H,I,rfl,h⟩
theorem MO{x j pos}:PE X (.Constant (.str x) j pos) (tC (.str x)):=fun _ _ _ H _ I h=>Calls.Constant_str ⟨.str x,H,I.tok _,⟨_,rfl⟩,h⟩
def Gl(X:Cx)(x:Str):Prop:=X.env.kindOf x=some .globalImplicit
theorem Cw{E:Value→Shared→Prop}{pins:List (Addr×Obj)}{s:Shared}{σ:St}{H:Hp}{x:Str}{u:Value}{pos:Pos}{Q:Value→Shared→Prop}(I:Inv X pins σ H s)(hg:Gl X x)(hm:X.mg x=some u)(h:Q u s)
    (hd:(x == ("__debug__":Str))=false:=by decide):wpAny (model X.prog X.w) X.A (eval (.Name x pos) X.env) Q E s:=
  Calls.Name_function_global I.ok.kind hg (Calls.loadGlobal_global (by rw [I.ok.glob];exact I.mod.glob.keeps I.bk) hm h) hd
theorem Bb{E:Value→Shared→Prop}{pins:List (Addr×Obj)}{s:Shared}{σ:St}{H:Hp}{x:Str}{u:Value}{pos:Pos}{Q:Value→Shared→Prop}(I:Inv X pins σ H s)(hg:Gl X x)(hm:X.mg x=none)(hv:bootBuiltins x=some u)(h:Q u s)
    (hn:x≠"__name__":=by decide) (hd:(x == ("__debug__":Str))=false:=by decide):wpAny (model X.prog X.w) X.A (eval (.Name x pos) X.env) Q E s:=by
  obtain ⟨mb,h1,h2⟩:=I.mod.blt
  exact Calls.Name_function_global I.ok.kind hg (Calls.loadGlobal_builtin (by rw [I.ok.glob];exact I.mod.glob.keeps I.bk) hm (by rw [I.ok.blt];exact h1.keeps I.bk) ((h2 x hn).trans hv) h) hd
theorem KG{x:Str}{v:V}{u:Value}{pos:Pos}(hg:Gl X x)(hm:X.mg x=some u)(r:RelV v u)(hd:(x == ("__debug__":Str))=false:=by decide):PE X (.Name x pos) (tC v):=
  fun _ _ _ H _ I h=>Cw I hg hm ⟨v,H,I,r,h⟩ hd
theorem Mm{x:Str}{v:V}{u:Value}{pos:Pos}(hg:Gl X x)(hm:X.mg x=none)(hv:bootBuiltins x=some u)(r:RelV v u)(hn:x≠"__name__":=by decide)(hd:(x == ("__debug__":Str))=false:=by decide):PE X (.Name x pos) (tC v):=
  fun _ _ _ H _ I h=>Bb I hg hm hv ⟨v,H,I,r,h⟩ hn hd
variable{a b:Expr}{ta tb:TE}{pos:Pos}
def tB(t:TE):TT:=fun σ H Q=>t σ H fun x H1=>∃ c,x= .bl c∧Q c H1
theorem MI{e:Expr}{t:TE}(h:PE X e t)(he:∀ whole,isTrue e X.env whole=(do let v ← whole;standAt e.pos;holding [v] (truthy v)):=by intro _;rfl):PT X e (tB t):=by
  intro pins s σ H Q I hw
  refine isTrue_plain (thn (h pins s σ H _ I hw) fun v s1 ⟨x,H1,I1,r1,q1⟩=>?_) (he _)
  obtain ⟨d,rfl,q⟩:=q1
  cases r1
  exact wpAny_truthy_bool ⟨H1,I1,q⟩
variable{tA tB':TT}{rest:List Expr}
def PC(t u:TT):TT:=fun σ H Q=>t σ H fun c H1=>if c=true then u σ H1 Q else Q false H1
def tOr(t u:TT):TT:=fun σ H Q=>t σ H fun c H1=>if c=true then Q true H1 else u σ H1 Q
theorem Mf(ha:PT X a tA):PW X (.BoolOp .And [a] pos) tA:=by
  intro wh pins s σ H Q I h
  refine isTrue_and (thn (ha pins s σ H Q I h) fun c s1 e=>?_)
  cases c with
  | true=>exact isTrue_and_nil e
  | false=>exact e
theorem Nw(ha:PT X a tA):PW X (.BoolOp .Or [a] pos) tA:=by
  intro wh pins s σ H Q I h
  refine isTrue_or (thn (ha pins s σ H Q I h) fun c s1 e=>?_)
  cases c with
  | false=>exact isTrue_or_nil e
  | true=>exact e
theorem NR(ha:PT X a tA)(hb:PW X (.BoolOp .And (b::rest) pos) tB'):PW X (.BoolOp .And (a::b::rest) pos) (PC tA tB'):=by
  intro wh pins s σ H Q I h
  refine isTrue_and (thn (ha pins s σ H _ I h) fun c s1 ⟨H1,I1,q1⟩=>?_)
  cases c with
  | true=>exact hb wh pins s1 σ H1 Q I1 q1
  | false=>exact ⟨H1,I1,q1⟩
theorem OT(ha:PT X a tA)(hb:PW X (.BoolOp .Or (b::rest) pos) tB'):PW X (.BoolOp .Or (a::b::rest) pos) (tOr tA tB'):=by
  intro wh pins s σ H Q I h
  refine isTrue_or (thn (ha pins s σ H _ I h) fun c s1 ⟨H1,I1,q1⟩=>?_)
  cases c with
  | true=>exact ⟨H1,I1,q1⟩
  | false=>exact hb wh pins s1 σ H1 Q I1 q1
def OC(ta tb:TE):TE:=fun σ H Q=>ta σ H fun x H1=>∃ c,x= .bl c∧if c=true then tb σ H1 Q else Q (.bl false) H1
def Pv(ta tb:TE):TE:=fun σ H Q=>ta σ H fun x H1=>∃ c,x= .bl c∧if c=true then Q (.bl true) H1 else tb σ H1 Q
theorem Nz{op}{t:TE}(h:PE X a t):PE X (.BoolOp op [a] pos) t:=fun pins s σ H Q I hw=>BoolOp_one (h pins s σ H Q I hw)
theorem Ng(ha:PE X a ta)(hb:PE X (.BoolOp .And (b::rest) pos) tb):PE X (.BoolOp .And (a::b::rest) pos) (OC ta tb):=by
  intro pins s σ H Q I h
  refine BoolOp_and (thn (ha pins s σ H _ I h) fun v s1 ⟨x,H1,I1,r1,q1⟩=>?_)
  obtain ⟨c,rfl,q1⟩:=q1
  cases r1
  refine wpAny_truthy_bool ?_
  cases c with
  | true=>exact hb pins s1 σ H1 Q I1 q1
  | false=>exact ⟨.bl false,H1,I1,rfl,q1⟩
theorem Ox(ha:PE X a ta)(hb:PE X (.BoolOp .Or (b::rest) pos) tb):PE X (.BoolOp .Or (a::b::rest) pos) (Pv ta tb):=by
  intro pins s σ H Q I h
  refine BoolOp_or (thn (ha pins s σ H _ I h) fun v s1 ⟨x,H1,I1,r1,q1⟩=>?_)
  obtain ⟨c,rfl,q1⟩:=q1
  cases r1
  refine wpAny_truthy_bool ?_
  cases c with
  | false=>exact hb pins s1 σ H1 Q I1 q1
  | true=>exact ⟨.bl true,H1,I1,rfl,q1⟩
def tIf(t:TT)(ta tb:TE):TE:=fun σ H Q=>t σ H fun c H1=>if c=true then ta σ H1 Q else tb σ H1 Q
theorem Kl{c:Expr}(hc:PT X c tA)(ha:PE X a ta)(hb:PE X b tb):PE X (.IfExp c a b pos) (tIf tA ta tb):=by
  intro pins s σ H Q I h
  refine wpAny_IfExp (thn (hc pins s σ H _ I h) fun d s1 ⟨H1,I1,q1⟩=>?_)
  cases d with
  | true=>exact ha pins s1 σ H1 Q I1 q1
  | false=>exact hb pins s1 σ H1 Q I1 q1
end
end L2
namespace L2
open PySem PySem.Spec PyProof.Rows
def SqL(K:PySem.W.Frag)(H:Hp)(a:Addr)(xs:List V):Prop:=
  Rd H a (.lst xs)∨
    ∃ (o:Obj) (its:Array Value) (n:Nat),K.lookup a=some o∧o.cls= .type "list"∧o.dict=none∧o.data= .seq its n∧its.size≤sizeLine∧Vals xs its.toList
def SqT(K:PySem.W.Frag)(H:Hp)(a:Addr)(xs:List V):Prop:=
  Rd H a (.tup xs)∨
    ∃ (o:Obj) (its:Array Value) (n:Nat),K.lookup a=some o∧o.cls= .type "tuple"∧o.data= .seq its n∧its.size≤sizeLine∧Vals xs its.toList
def PD:Value→Option V
  | .none=>some .non
  | .bool b=>some (.bl b)
  | .int i _=>some (.int i)
  | .str x _=>some (.str x)
  | .bytes b _=>some (.byt b)
  | .float b _=>some (.flt b)
  | .ref a=>some (.ref a)
  | .type n=>some (.ty n)
  | _=>none
theorem RelV.abs{x:V}{u:Value}(r:RelV x u):PD u=some x:=by
  cases x with
  | non=>cases r;rfl
  | bl _=>cases r;rfl
  | int _=>obtain ⟨t,rfl⟩:=r;rfl
  | str _=>obtain ⟨t,rfl⟩:=r;rfl
  | byt _=>obtain ⟨t,rfl⟩:=r;rfl
  | flt _=>obtain ⟨t,rfl⟩:=r;rfl
  | ref _=>cases r;rfl
  | ty _=>cases r;rfl
theorem RelV.inj{x y:V}{u:Value}(r:RelV x u)(q:RelV y u):x=y:=Option.some.inj (r.abs.symm.trans q.abs)
theorem Vals.inj:∀ {xs ys:List V} {us:List Value},Vals xs us→Vals ys us→xs=ys
  | _,_,_,.nil,.nil=>rfl
  | _,_,_,.cons r t,.cons r' t'=>by rw [r.inj r',Vals.inj t t']
section
variable{X:Cx}{pins:List (Addr×Obj)}{σ:St}{H:Hp}{s:Shared}{a:Addr}{xs ys:List V}
theorem SqL.of{K:PySem.W.Frag}(h:H a=some (.lst xs)):SqL K H a xs:=.inl (.inl h)
theorem Inv.list(I:Inv X pins σ H s)(h:SqL X.K H a xs):∃ its:List Value,Vals xs its∧PlainL s.heap a its.toArray∧xs.length≤sizeLine:=by
  rcases h with h | ⟨o,its,n,hk,hc,hd,hs,hz,r⟩
  · obtain ⟨z,its,n,r,e⟩:=h.ok I.hok
    exact ⟨its,r,⟨_,n,e,rfl,rfl,rfl⟩,z⟩
  · refine ⟨its.toList,r,⟨o,n,I.kIn a o hk,hc,hd,by simpa using hs⟩,?_⟩
    have e:=r.length
    simp only [Array.length_toList] at e
    omega
theorem Inv.tuple(I:Inv X pins σ H s)(h:SqT X.K H a xs):∃ its:List Value,Vals xs its∧IsTup s.heap a its.toArray∧xs.length≤sizeLine:=by
  rcases h with h | ⟨o,its,n,hk,hc,hs,hz,r⟩
  · obtain ⟨z,its,r,p⟩:=h.ok I.hok
    exact ⟨its,r,p,z.1⟩
  · refine ⟨its.toList,r,⟨o,I.kIn a o hk,hc,n,by simpa using hs⟩,?_⟩
    have e:=r.length
    simp only [Array.length_toList] at e
    omega
theorem Inv.list_inj(I:Inv X pins σ H s)(h:SqL X.K H a xs)(h':SqL X.K H a ys):xs=ys:=by
  obtain ⟨its,r,⟨o,n,e,_,_,d⟩,_⟩:=I.list h
  obtain ⟨its',r',⟨o',n',e',_,_,d'⟩,_⟩:=I.list h'
  rw [e] at e';cases e'
  rw [d] at d'
  injection d' with d1 _
  have:its=its':=by simpa using congrArg Array.toList d1
  subst this
  exact r.inj r'
theorem Inv.tuple_inj(I:Inv X pins σ H s)(h:SqT X.K H a xs)(h':SqT X.K H a ys):xs=ys:=by
  obtain ⟨its,r,⟨o,e,_,n,d⟩,_⟩:=I.tuple h
  obtain ⟨its',r',⟨o',e',_,n',d'⟩,_⟩:=I.tuple h'
  rw [e] at e';cases e'
  rw [d] at d'
  injection d' with d1 _
  have:its=its':=by simpa using congrArg Array.toList d1
  subst this
  exact r.inj r'
end
section
variable{X:Cx}{st:Stmt}{rest:List Stmt}{t u:TS}{e:Expr}{te:TE}{pos:Pos}
def tNext:TS:=fun D σ H=>D.nx σ H
def Py(t u:TS):TS:=fun D σ H=>t {D with nx:=u D} σ H
theorem KM:PSs X [] tNext:=fun _ _ σ H _ I h=>wpAny_execs_nil ⟨σ,H,I,h⟩
theorem Jw(h1:PS X st t)(h2:PSs X rest u):PSs X (st::rest) (Py t u):=by
  intro pins s σ H D I h
  refine wpAny_execs_cons (thn (h1 pins s σ H {D with nx:=u D} I h) fun f s1 q=>?_)
  cases f with
  | next=>
    obtain ⟨σ',H',I',q⟩:=q
    exact h2 pins s1 σ' H' D I' q
  | ret v=>exact q
  | brk=>exact q
  | cont=>exact q
theorem Md(h1:PS X st t):PSs X [st] t:=by
  intro pins s σ H D I h
  refine wpAny_execs_cons (thn (h1 pins s σ H D I h) fun f s1 q=>?_)
  cases f with
  | next=>exact wpAny_execs_nil q
  | ret v=>exact q
  | brk=>exact q
  | cont=>exact q
theorem Inv.quiet{pins:List (Addr×Obj)}{σ:St}{H:Hp}{s:Shared}(I:Inv X pins σ H s):interactive X.env=false:=by simp [interactive,I.ok.kind]
def Pd(te:TE):TS:=fun D σ H=>te σ H fun _ H1=>D.nx σ H1
theorem m7(he:PE X e te)(hs:swapsWith e none pos.line X.env=pure false:=by rfl):PS X (.Expr e pos) (Pd te):=by
  intro pins s σ H D I h
  exact wpAny_Expr_any (thn (he pins s σ H _ I h) fun v s1 ⟨x,H1,I1,r1,q1⟩=>⟨σ,H1,I1,q1⟩) I.quiet hs
def PM(te:TE):TS:=fun D σ H=>te σ H D.rt
theorem lj(he:PE X e te):PS X (.Return (some e) pos) (PM te):=by
  intro pins s σ H D I h
  exact wpAny_Return_some (thn (he pins s σ H _ I h) fun v s1 ⟨x,H1,I1,r1,q1⟩=>⟨x,σ,H1,I1,r1,q1⟩)
def P4(c:TT)(t u:TS):TS:=fun D σ H=>c σ H fun b H1=>if b=true then t D σ H1 else u D σ H1
theorem ON{c:Expr}{a b:List Stmt}{tc:TT}(hc:PT X c tc)(ha:PSs X a t)(hb:PSs X b u):PS X (.If c a b pos) (P4 tc t u):=by
  intro pins s σ H D I h
  refine wpAny_If (thn (hc pins s σ H _ I h) fun d s1 ⟨H1,I1,q1⟩=>?_)
  cases d with
  | true=>exact ha pins s1 σ H1 D I1 q1
  | false=>exact hb pins s1 σ H1 D I1 q1
end
abbrev TG:=V→St→Hp→(St→Hp→Prop)→Prop
abbrev TGs:=List V→St→Hp→(St→Hp→Prop)→Prop
def PG(X:Cx)(target:Expr)(t:TG):Prop:=
  ∀ (pins:List (Addr×Obj)) (s:Shared) (σ:St) (H:Hp) (v:V) (u:Value) (Q:St→Hp→Prop),Inv X pins σ H s→RelV v u→t v σ H Q→
    wpAny (model X.prog X.w) X.A (assign target X.env u) (fun _ s'=>∃ σ' H',Inv X pins σ' H' s'∧Q σ' H') X.xe s
def PGs(X:Cx)(ts:List Expr)(t:TGs):Prop:=
  ∀ (pins:List (Addr×Obj)) (s:Shared) (σ:St) (H:Hp) (vs:List V) (us:List Value) (Q:St→Hp→Prop),Inv X pins σ H s→Vals vs us→t vs σ H Q→
    wpAny (model X.prog X.w) X.A (assignInOrder ((assignEach ts X.env).map (·.2)) us) (fun _ s'=>∃ σ' H',Inv X pins σ' H' s'∧Q σ' H') X.xe s
section
variable{X:Cx}{pos:Pos}
def rh(i:Nat):TG:=fun v σ H Q=>Q (σ.set i (some v)) H
theorem ef{i:Nat}{x:Str}(hN:X.N.Nodup)(hi:X.N[i]? =some x)(hx:Loc X.env.scope x)(hf:X.fn x=true∨X.env.scope.names.lookup x=some .local:=by first | exact .inl rfl | exact .inr rfl | assumption):PG X (.Name x pos) (rh i):=by
  intro pins s σ H v u Q I r h
  exact wpAny_assign_Name (DN I hN hi hx r (fun s' I'=>⟨_,H,I',h⟩) hf)
def gNil:TGs:=fun vs σ H Q=>vs=[]∧Q σ H
def Dx(t:TG)(u:TGs):TGs:=fun vs σ H Q=>∃ v r,vs=v::r∧t v σ H fun σ' H'=>u r σ' H' Q
theorem Gs:PGs X [] gNil:=by
  intro pins s σ H vs us Q I r h
  obtain ⟨e,h⟩:=h
  subst e
  cases r
  exact assignInOrder_nil ⟨σ,H,I,h⟩
theorem mo{e:Expr}{es:List Expr}{t:TG}{u:TGs}(h1:PG X e t)(h2:PGs X es u)
    (hs:(assignEach (e::es) X.env).map (·.2)=assign e X.env::(assignEach es X.env).map (·.2):=by rfl):PGs X (e::es) (Dx t u):=by
  intro pins s σ H vs us Q I r h
  obtain ⟨v,vr,e1,h⟩:=h
  subst e1
  cases r with
  | cons r rr=>
    rw [hs]
    refine assignInOrder_cons (thn (h1 pins s σ H _ _ _ I r h) fun _ s1 ⟨σ1,H1,I1,q1⟩=>?_)
    exact h2 pins s1 σ1 H1 _ _ Q I1 rr q1
def Ny(K:PySem.W.Frag)(n:Nat)(t:TGs):TG:=fun v σ H Q=>∃ a xs,v= .ref a∧SqT K H a xs∧xs.length=n∧t xs σ H Q
theorem Km{es:List Expr}{k:Nat}{t:TGs}{n:Nat}(hc:X.calm=true)(h:PGs X es t)
    (hn:(assignEach es X.env).length=n:=by rfl) (hst:(assignEach es X.env).findIdx? (·.1)=none:=by rfl):PG X (.Tuple es k pos) (Ny X.K n t):=by
  intro pins s σ H v u Q I r hw
  obtain ⟨a,xs,e1,hq,hl,hw⟩:=hw
  subst e1
  cases r
  obtain ⟨its,rv,ht,hz⟩:=I.tuple hq
  refine assign_Tuple_tuple (I.ok.hd hc) ht (by simp [hn,← hl,rv.length]) hst fun h' hx=>?_
  have I1:Inv X pins σ H {s with heap:=h'}:=I.kept (t':=s.toks) fun b o e=>hx b o (Nat.ne_of_lt (Heap.lt_size e)) e
  exact h pins _ σ H xs _ Q I1 (by simpa using rv) hw
def OF(te:TE)(g:TG):TS:=fun D σ H=>te σ H fun x H1=>g x σ H1 D.nx
theorem Oc{tg e:Expr}{te:TE}{g:TG}(he:PE X e te)(hg:PG X tg g)(hs:swapsWithSole [tg] e pos.line X.env=pure false:=by rfl)(hw:swappedStores [tg] e X.env=pure none:=by rfl)
    (h1:(assignEach [tg] X.env).map (·.2)=[assign tg X.env]:=by rfl):PS X (.Assign [tg] e pos) (OF te g):=by
  intro pins s σ H D I h
  refine wpAny_Assign_stores (thn (he pins s σ H _ I h) fun v s1 ⟨x,H1,I1,r1,q1⟩=>?_) hs hw
  rw [h1]
  exact thn (hg pins s1 σ H1 x v _ I1 r1 q1) fun _ s2 q=>q
theorem ol{i:Nat}{x:Str}{e:Expr}{te:TE}{pos':Pos}(hN:X.N.Nodup)(hi:X.N[i]? =some x)(hx:Loc X.env.scope x)(he:PE X e te)(hs:swapsWith e (some (.Name x pos')) pos.line X.env=pure false:=by rfl)(hf:X.fn x=true∨X.env.scope.names.lookup x=some .local:=by first | exact .inl rfl | exact .inr rfl | assumption):
    PS X (.Assign [.Name x pos'] e pos) (OF te (rh i)):=by
  intro pins s σ H D I h
  refine wpAny_Assign_Name (thn (he pins s σ H _ I h) fun v s1 ⟨y,H1,I1,r1,q1⟩=>?_) hs
  exact DN I1 hN hi hx r1 (fun s2 I2=>⟨_,H1,I2,q1⟩) hf
end
section
variable{X:Cx}{pos:Pos}
def MJ(c:TT)(tb:TS):TS:=fun D σ H=>∃ W:Nat→St→Hp→Prop,(∃ m,W m σ H)∧∀ m σ H,W m σ H→
  c σ H fun b H1=>if b=true then ∃ N:St→Hp→Prop,(∀ σ' H',N σ' H'→∃ m',m' < m∧W m' σ' H')∧tb {D with nx:=N,ct:=N,bk:=D.nx} σ H1 else D.nx σ H1
theorem Kt{c:Expr}{body:List Stmt}{tc:TT}{tb:TS}(hp:PassesOwn (model X.prog X.w) X.A X.env X.xe)(hc:PT X c tc)(hb:PSs X body tb):PS X (.While c body [] pos) (MJ tc tb):=by
  intro pins s σ H D I h
  obtain ⟨W,⟨m0,w0⟩,turn⟩:=h
  refine wpAny_While (codeAny_whileLoop (fun n s'=>∃ σ' H',Inv X pins σ' H' s'∧W n σ' H') ?_ m0 ⟨σ,H,I,w0⟩)
  rintro n s1 ⟨σ1,H1,I1,w1⟩
  refine wpAny_passesOwn hp (thn (hc pins s1 σ1 H1 _ I1 (turn n σ1 H1 w1)) fun b s2 ⟨H2,I2,q2⟩=>?_)
  cases b with
  | true=>
    obtain ⟨N,hN,q2⟩:=q2
    rw [if_pos rfl]
    refine wpAny_passesOwn hp (thn (hb pins s2 σ1 H2 _ I2 q2) fun f s3 q3=>?_)
    cases f with
    | next=>
      obtain ⟨σ3,H3,I3,n3⟩:=q3
      obtain ⟨m',hm,w3⟩:=hN σ3 H3 n3
      exact ⟨m',hm,σ3,H3,I3,w3⟩
    | cont=>
      obtain ⟨σ3,H3,I3,n3⟩:=q3
      obtain ⟨m',hm,w3⟩:=hN σ3 H3 n3
      exact ⟨m',hm,σ3,H3,I3,w3⟩
    | brk=>exact q3
    | ret v=>exact q3
  | false=>
    rw [if_neg Bool.false_ne_true]
    exact wpAny_execs_nil ⟨σ1,H2,I2,q2⟩
end
structure It where
  go:Nat→Hp→Prop
  yld:Nat→Hp→V→Hp→Prop
  stop:Nat→Hp→Prop
def C6(X:Cx)(pins:List (Addr×Obj))(H:Hp)(b:Addr):Prop:=
  H b=none∧b≠X.env.locals∧b∉X.fs∧(b∈X.ex∨X.s₀.heap.objs.size≤b)∧(∀ x c,X.env.cells.lookup x=some c→c≠b)∧∀ p∈X.pn++pins,p.1≠b
theorem Inv.fpOk{X:Cx}{pins:List (Addr×Obj)}{σ:St}{H H':Hp}{s:Shared}{b:Addr}(I:Inv X pins σ H s)(hb:s.heap.objs.size≤b)(hn:H' b=none):C6 X pins H' b:=by
  refine ⟨hn,Nat.ne_of_gt (Nat.lt_of_lt_of_le I.lt hb),I.nofs hb,.inr (Nat.le_trans I.sz hb),fun x c e z=>?_,fun p hp z=>?_⟩
  · obtain ⟨v,q⟩:=I.cell x c e
    exact absurd (Nat.lt_of_lt_of_le q.lt (by rw [z];exact hb)) (Nat.lt_irrefl _)
  · exact absurd (Nat.lt_of_lt_of_le (Heap.lt_size (I.pin p hp).1) (by rw [z];exact hb)) (Nat.lt_irrefl _)
structure Turn(P:Program)(w:World)(K:PySem.W.Frag)(tg:Expr)(J:It)(fp:List Addr)(it:Addr)(tn:Nat→Heap→Prop):Prop where
  mem:it∈fp
  obj:∀ i h,tn i h→∀ b∈fp,∃ o,h.get? b=some o∧∀ v,o.data≠.cell v
  keep:∀ i h h',tn i h→(∀ b∈fp,∀ o,h.get? b=some o→h'.get? b=some o)→tn i h'
  item:∀ (X:Cx),X.prog=P→X.w=w→X.K=K→X.calm=true→∀ (i:Nat) (pins:List (Addr×Obj)) (s:Shared) (σ:St) (H:Hp) (E:Value→Shared→Prop),Inv X pins σ H s→(∀ b∈fp,C6 X pins H b)→tn i s.heap→J.go i H→
    wpAny (model P w) X.A (pyNext (.ref it)) (fun r s1=>∃ u,r=some u∧
      wpAny (model P w) X.A (letOwnedTupleGo tg (.ref it) u) (fun _ s2=>∃ x H',Inv X pins σ H' s2∧RelV x u∧J.yld i H x H'∧tn (i+1) s2.heap∧∀ b∈fp,H' b=none) E s1) E s
  done:∀ (X:Cx),X.prog=P→X.w=w→X.K=K→X.calm=true→∀ (i:Nat) (pins:List (Addr×Obj)) (s:Shared) (σ:St) (H:Hp) (E:Value→Shared→Prop),Inv X pins σ H s→(∀ b∈fp,C6 X pins H b)→tn i s.heap→J.stop i H→
    wpAny (model P w) X.A (pyNext (.ref it)) (fun r s1=>r=none∧Inv X pins σ H s1) E s
  self:∀ (A:Around) (i:Nat) (s:Shared) (Q:Value→Shared→Prop) (E:Value→Shared→Prop),tn i s.heap→Q (.ref it) s→wpAny (model P w) A (pyIter (.ref it)) Q E s
abbrev TI:=St→Hp→(It→Hp→Prop)→Prop
def PIE(X:Cx)(pins:List (Addr×Obj))(σ:St)(tg:Expr)(R:It→Hp→Prop)(itv:Value)(s2:Shared):Prop:=
  ∃ (it:Addr) (fp:List Addr) (tn:Nat→Heap→Prop) (J:It) (H':Hp),itv= .ref it∧Inv X pins σ H' s2∧Turn X.prog X.w X.K tg J fp it tn∧tn 0 s2.heap∧(∀ b∈fp,C6 X pins H' b)∧R J H'
def PI(X:Cx)(tg iter:Expr)(wi:TI):Prop:=
  ∀ (pins:List (Addr×Obj)) (s:Shared) (σ:St) (H:Hp) (R:It→Hp→Prop),Inv X pins σ H s→wi σ H R→
    wpAny (model X.prog X.w) X.A (eval iter X.env) (fun v s1=>wpAny (model X.prog X.w) X.A (pyIter v) (PIE X pins σ tg R) X.xe s1) X.xe s
theorem Hg{M:Model}{A:Around}{E:Value→Shared→Prop}{s:Shared}{tg:Expr}{it:Addr}{u:Value}{o:Obj}{n:String}{vs:Array Value}{Q:Unit→Shared→Prop}(ho:s.heap.get? it=some o)(hc:o.cls= .type n)(hd:o.data= .fields vs)
    (hn:["enumerate","zip","dict_itemiterator","dict_reverseitemiterator","odict_iterator","itertools.zip_longest","itertools.pairwise"].contains n=false) (hQ:Q () s):wpAny M A (letOwnedTupleGo tg (.ref it) u) Q E s:=by
  unfold letOwnedTupleGo
  cases tg<;>first
    | exact wpAny_pure hQ
    | (cases u<;>first
        | exact wpAny_pure hQ
        | (refine wpAny_bind (wpAny_load ho ?_)
           rw [hc,hd]
           show wpAny M A (if (["enumerate","zip","dict_itemiterator","dict_reverseitemiterator","odict_iterator","itertools.zip_longest","itertools.pairwise"].contains n && vs[0]? == some (rawInt _))=true then _ else _) Q E s
           rw [if_neg (by intro h;rw [hn,Bool.false_and] at h;cases h)]
           exact wpAny_pure hQ))
def Itl(K:PySem.W.Frag)(a:Addr):It:=
  ⟨fun i H=>∃ xs x,SqL K H a xs∧xs[i]? =some x,fun i H x H'=>H'=H∧∀ xs,SqL K H a xs→xs[i]? =some x,fun i H=>∃ xs,SqL K H a xs∧xs.length≤i⟩
def Itt(K:PySem.W.Frag)(a:Addr):It:=
  ⟨fun i H=>∃ xs x,SqT K H a xs∧xs[i]? =some x,fun i H x H'=>H'=H∧∀ xs,SqT K H a xs→xs[i]? =some x,fun i H=>∃ xs,SqT K H a xs∧xs.length≤i⟩
def Itr(lo:Int)(n:Nat):It:=⟨fun i _=>i < n,fun i H x H'=>H'=H∧x= .int (lo+i),fun i _=>n≤i⟩
theorem H4{P:Program}{w:World}{K:PySem.W.Frag}{tg:Expr}(a it:Addr):Turn P w K tg (Itl K a) [it] it (fun i h=>h.IsListIter it a i) where
  mem:=by simp
  obj:=fun i h st b hb=>by
    have e:b=it:=by simpa using hb
    subst e
    obtain ⟨o,e,c,d⟩:=st
    exact ⟨o,e,fun v z=>by rw [d] at z;cases z⟩
  keep:=fun i h h' st k=>st.at fun o e=>k it (by simp) o e
  item:=by
    intro X hP hw hK hc i pins s σ H E I hf st hg
    subst hP hw hK
    obtain ⟨xs,x,hq,hx⟩:=hg
    obtain ⟨its,rv,p,hz⟩:=I.list hq
    obtain ⟨u,hu,ru⟩:=rv.get hx
    obtain ⟨f0,f1,f2,f3,f4,f5⟩:=hf it (by simp)
    refine wpAny_pyNext_list_item st p.isList (x:=u) (by simpa using hu) fun h' st' sb=>?_
    have I1:Inv X pins σ H {s with heap:=h'}:=I.turned (t':=s.toks) (fun b o hb e=>(sb.2 b hb).trans e) f0 f1 f3 f4 f5
    obtain ⟨o,e,c,d⟩:=id st'
    exact ⟨u,rfl,Hg (s:={s with heap:=h'}) e c d (by decide) ⟨x,H,I1,ru,⟨rfl,fun ys hy=>by rw [I.list_inj hy hq];exact hx⟩,st',fun b hb=>(hf b hb).1⟩⟩
  done:=by
    intro X hP hw hK hc i pins s σ H E I hf st hg
    subst hP hw hK
    obtain ⟨xs,hq,hx⟩:=hg
    obtain ⟨its,rv,p,hz⟩:=I.list hq
    obtain ⟨f0,f1,f2,f3,f4,f5⟩:=hf it (by simp)
    have hl:=rv.length
    exact wpAny_pyNext_list_end (I.ok.hd hc) st p.isList (by simp;omega) fun h' eb=>⟨rfl,I.turned (t':=s.toks) (fun b o hb e=>eb b o hb e) f0 f1 f3 f4 f5⟩
  self:=fun _ _ _ _ _ st h=>wpAny_pyIter_listiter st h
theorem Fi{P:Program}{w:World}{K:PySem.W.Frag}{tg:Expr}(a it:Addr):Turn P w K tg (Itt K a) [it] it (fun i h=>h.IsTupleIter it a i) where
  mem:=by simp
  obj:=fun i h st b hb=>by
    have e:b=it:=by simpa using hb
    subst e
    obtain ⟨o,e,c,d⟩:=st
    exact ⟨o,e,fun v z=>by rw [d] at z;cases z⟩
  keep:=fun i h h' st k=>st.at fun o e=>k it (by simp) o e
  item:=by
    intro X hP hw hK hc i pins s σ H E I hf st hg
    subst hP hw hK
    obtain ⟨xs,x,hq,hx⟩:=hg
    obtain ⟨its,rv,p,hz⟩:=I.tuple hq
    obtain ⟨u,hu,ru⟩:=rv.get hx
    obtain ⟨f0,f1,f2,f3,f4,f5⟩:=hf it (by simp)
    refine wpAny_pyNext_tuple_item st (show s.heap.IsTuple a its.toArray from p) (x:=u) (by simpa using hu) fun h' st' sb=>?_
    have I1:Inv X pins σ H {s with heap:=h'}:=I.turned (t':=s.toks) (fun b o hb e=>(sb.2 b hb).trans e) f0 f1 f3 f4 f5
    obtain ⟨o,e,c,d⟩:=id st'
    exact ⟨u,rfl,Hg (s:={s with heap:=h'}) e c d (by decide) ⟨x,H,I1,ru,⟨rfl,fun ys hy=>by rw [I.tuple_inj hy hq];exact hx⟩,st',fun b hb=>(hf b hb).1⟩⟩
  done:=by
    intro X hP hw hK hc i pins s σ H E I hf st hg
    subst hP hw hK
    obtain ⟨xs,hq,hx⟩:=hg
    obtain ⟨its,rv,p,hz⟩:=I.tuple hq
    obtain ⟨f0,f1,f2,f3,f4,f5⟩:=hf it (by simp)
    have hl:=rv.length
    exact wpAny_pyNext_tuple_end (I.ok.hd hc) st (show s.heap.IsTuple a its.toArray from p) (by simp;omega) fun h' eb=>⟨rfl,I.turned (t':=s.toks) (fun b o hb e=>eb b o hb e) f0 f1 f3 f4 f5⟩
  self:=fun _ _ _ _ _ st h=>wpAny_pyIter_tupleiter st h
theorem Ge{P:Program}{w:World}{K:PySem.W.Frag}{tg:Expr}(it:Addr)(lo:Int)(n:Nat):Turn P w K tg (Itr lo n) [it] it (fun i h=>IsRangeIter h it (lo+(i:Nat) * 1) ((n:Int) - (i:Nat)) 1) where
  mem:=by simp
  obj:=fun i h st b hb=>by
    have e:b=it:=by simpa using hb
    subst e
    exact ⟨_,st,fun v z=>by
      have z':Data.fields _=Data.cell v:=z
      cases z'⟩
  keep:=fun i h h' st k=>k it (by simp) _ st
  item:=by
    intro X hP hw hK hc i pins s σ H E I hf st hg
    subst hP hw hK
    obtain ⟨f0,f1,f2,f3,f4,f5⟩:=hf it (by simp)
    have W:=Walks.range (prog:=X.prog) (w:=X.w) (I.ok.hd hc) it lo 1 n
    refine W.item i s _ _ hg st fun v h' tk hv st' kk=>?_
    obtain ⟨t,rfl⟩:=hv
    have I1:Inv X pins σ H {s with heap:=h',toks:=tk}:=I.turned (fun b o hb e=>kk b o (by simpa using hb) e) f0 f1 f3 f4 f5
    refine ⟨_,rfl,Hg (s:={s with heap:=h',toks:=tk}) (n:="range_iterator") st' rfl rfl (by decide) ⟨.int (lo+i),H,I1,⟨t,?_⟩,⟨rfl,rfl⟩,st',fun b hb=>(hf b hb).1⟩⟩
    rw [Int.mul_one]
  done:=by
    intro X hP hw hK hc i pins s σ H E I hf st hg
    subst hP hw hK
    obtain ⟨f0,f1,f2,f3,f4,f5⟩:=hf it (by simp)
    exact wpAny_pyNext_range_end (I.ok.hd hc) st (by have:n≤i:=hg;omega) fun h' eb=>⟨rfl,I.turned (t':=s.toks) (fun b o hb e=>eb b o hb e) f0 f1 f3 f4 f5⟩
  self:=fun _ _ _ _ _ st h=>wpAny_pyIter_rangeiter st h
end L2
namespace L2
open PySem PySem.Spec PyProof.Rows
section
variable{X:Cx}{tg:Expr}
def O5(K:PySem.W.Frag)(tl:TE):TI:=fun σ H R=>tl σ H fun x H1=>∃ a,x= .ref a∧(∃ xs,SqL K H1 a xs)∧R (Itl K a) H1
def Pu(K:PySem.W.Frag)(tl:TE):TI:=fun σ H R=>tl σ H fun x H1=>∃ a,x= .ref a∧(∃ xs,SqT K H1 a xs)∧R (Itt K a) H1
theorem GM{l:Expr}{tl:TE}(hl:PE X l tl):PI X tg l (O5 X.K tl):=by
  intro pins s σ H R I h
  refine thn (hl pins s σ H _ I h) fun v s1 ⟨x,H1,I1,r1,q1⟩=>?_
  obtain ⟨a,e,⟨xs,hq⟩,q⟩:=q1
  subst e
  cases r1
  obtain ⟨its,rv,p,hz⟩:=I1.list hq
  refine wpAny_pyIter_list p.isList ?_
  refine ⟨s1.heap.objs.size,[s1.heap.objs.size],_,_,H1,rfl,I1.kept (t':=s1.toks) fun b o e=>Heap.get?_push_of_some _ e,H4 a _,⟨_,Heap.get?_push_size _ rfl,rfl,rfl⟩,fun b hb=>?_,q⟩
  have e:b=s1.heap.objs.size:=by simpa using hb
  subst e
  exact I1.fpOk (Nat.le_refl _) (I1.hok.fresh (Nat.le_refl _))
theorem Fj{l:Expr}{tl:TE}(hl:PE X l tl):PI X tg l (Pu X.K tl):=by
  intro pins s σ H R I h
  refine thn (hl pins s σ H _ I h) fun v s1 ⟨x,H1,I1,r1,q1⟩=>?_
  obtain ⟨a,e,⟨xs,hq⟩,q⟩:=q1
  subst e
  cases r1
  obtain ⟨its,rv,p,hz⟩:=I1.tuple hq
  refine wpAny_pyIter_tuple (show s1.heap.IsTuple a its.toArray from p) ?_
  refine ⟨s1.heap.objs.size,[s1.heap.objs.size],_,_,H1,rfl,I1.kept (t':=s1.toks) fun b o e=>Heap.get?_push_of_some _ e,Fi a _,⟨_,Heap.get?_push_size _ rfl,rfl,rfl⟩,fun b hb=>?_,q⟩
  have e:b=s1.heap.objs.size:=by simpa using hb
  subst e
  exact I1.fpOk (Nat.le_refl _) (I1.hok.fresh (Nat.le_refl _))
theorem IV{pins:List (Addr×Obj)}{σ:St}{H:Hp}{s:Shared}{R:It→Hp→Prop}{E:Value→Shared→Prop}{lo hi:Int}{t u v:Tok}{tk:Nat}(I:Inv X pins σ H s)(h1:-(2 ^ 62)≤lo)(h2:lo < 2 ^ 62)(h3:-(2 ^ 62)≤hi)(h4:hi < 2 ^ 62)
    (q:R (Itr lo (hi - lo).toNat) H):wpAny (model X.prog X.w) X.A (pyIter (.ref s.heap.objs.size)) (PIE X pins σ tg R) E {s with heap:=s.heap.push {cls:=.type "range",data:=.fields #[.int lo t,.int hi u,.int 1 v]},toks:=tk}:=by
  refine wpAny_pyIter_range (IsRange.new ..) (small_one h1 h2 h3 h4) ?_
  have I1:Inv X pins σ H {s with heap:=s.heap.push {cls:=.type "range",data:=.fields #[.int lo t,.int hi u,.int 1 v]},toks:=tk}:=I.kept fun b o e=>Heap.get?_push_of_some _ e
  refine ⟨(s.heap.push {cls:=.type "range",data:=.fields #[.int lo t,.int hi u,.int 1 v]}).objs.size,[(s.heap.push {cls:=.type "range",data:=.fields #[.int lo t,.int hi u,.int 1 v]}).objs.size],_,_,H,rfl,
    I1.kept (t':=tk) fun b o e=>Heap.get?_push_of_some _ e,Ge _ lo (hi - lo).toNat,?_,fun b hb=>?_,q⟩
  · have e1:lo+((0:Nat):Int) * 1=lo:=by simp
    have e2:(((hi - lo).toNat:Nat):Int) - ((0:Nat):Int)=Builtin.Range.rangeSize lo hi 1:=by rw [rangeSize_one];split<;>omega
    show IsRangeIter _ _ (lo+((0:Nat):Int) * 1) ((((hi - lo).toNat:Nat):Int) - ((0:Nat):Int)) 1
    rw [e1,e2]
    exact Heap.get?_push_size _ rfl
  · have e:b=(s.heap.push {cls:=.type "range",data:=.fields #[.int lo t,.int hi u,.int 1 v]}).objs.size:=by simpa using hb
    subst e
    exact I1.fpOk (Nat.le_refl _) (I1.hok.fresh (Nat.le_refl _))
def OL(ta:TA):TI:=fun σ H R=>ta σ H fun vs H1=>∃ j:Int,vs=[.int j]∧-(2 ^ 62)≤j∧j < 2 ^ 62∧R (Itr 0 j.toNat) H1
theorem HW{a:Expr}{ta:TA}{p pos:Pos}(hg:Gl X "range")(hm:X.mg "range" =none)(ha:PA X [a] ta)(hs:starEach [a] X.env=[(false,eval a X.env)]:=by rfl):PI X tg (.Call (.Name "range" p) [a] [] pos) (OL ta):=by
  intro pins s σ H R I h
  refine Call_ (Bb I hg hm boot_range (PyProof.Rows.callWith_type1 (thn (ha pos pins s σ H _ I h) fun us s1 ⟨vs,H1,I1,r1,q1⟩=>?_) hs rfl))
  obtain ⟨j,e,q1,q2,q⟩:=q1
  subst e
  cases r1 with
  | cons r rr=>
    cases rr
    obtain ⟨t,rfl⟩:=r
    exact call_range_1 (IV I1 (by omega) (by omega) q1 q2 (by simpa using q))
def PN(wi:TI)(g:TG)(tb:TS):TS:=fun D σ H=>wi σ H fun J H1=>∃ W:Nat→Nat→St→Hp→Prop,(∃ m,W 0 m σ H1)∧∀ i m σ H,W i m σ H→
  (J.stop i H∧D.nx σ H)∨(J.go i H∧∃ N:St→Hp→Prop,(∀ σ' H',N σ' H'→∃ m',m' < m∧W (i+1) m' σ' H')∧∀ x H',J.yld i H x H'→g x σ H' fun σ2 H2=>tb {D with nx:=N,ct:=N,bk:=D.nx} σ2 H2)
def Dd(fp:List Addr)(h:Heap):List (Addr×Obj):=fp.filterMap fun b=>(h.get? b).map fun o=>(b,o)
theorem gu{fp:List Addr}{h:Heap}{b:Addr}{o:Obj}(hb:b∈fp)(e:h.get? b=some o):(b,o)∈Dd fp h:=List.mem_filterMap.mpr ⟨b,hb,by rw [e];rfl⟩
theorem Iy{fp:List Addr}{h:Heap}{p:Addr×Obj}(hp:p∈Dd fp h):p.1∈fp∧h.get? p.1=some p.2:=by
  obtain ⟨b,hb,e⟩:=List.mem_filterMap.mp hp
  cases q:h.get? b with
  | none=>rw [q] at e;cases e
  | some o=>
    rw [q] at e
    have e':(b,o)=p:=Option.some.inj e
    subst e'
    exact ⟨hb,q⟩
theorem Inv.pinned{pins:List (Addr×Obj)}{σ:St}{H:Hp}{s:Shared}{fp:List Addr}(I:Inv X pins σ H s)(hf:∀ b∈fp,C6 X pins H b)(ho:∀ b∈fp,∃ o,s.heap.get? b=some o∧∀ v,o.data≠.cell v):Inv X (pins++Dd fp s.heap) σ H s:=
  I.pins_of fun p hp=>(List.mem_append.mp hp).elim (fun z=>I.pin p (List.mem_append_right _ z)) fun z=>by
    obtain ⟨hb,e⟩:=Iy z
    obtain ⟨f0,f1,f2,_⟩:=hf p.1 hb
    obtain ⟨o,e',d⟩:=ho p.1 hb
    rw [e] at e';cases e'
    exact ⟨e,f0,f1,f2,d⟩
theorem Inv.unpinned{pins pl:List (Addr×Obj)}{σ:St}{H:Hp}{s:Shared}(I:Inv X (pins++pl) σ H s):Inv X pins σ H s:=I.pins_of fun p hp=>I.pin p (List.mem_append_right _ (List.mem_append_left _ hp))
theorem Fy{iter:Expr}{body:List Stmt}{wi:TI}{g:TG}{tb:TS}{pos:Pos}(hp:PassesOwn (model X.prog X.w) X.A X.env X.xe)(hc:X.calm=true)(hi:PI X tg iter wi)(hg:PG X tg g)(hb:PSs X body tb)
    (hs:∀ x,foldedSetIterable iter X.env x=pure x:=by intro _;rfl):PS X (.For tg iter body [] pos) (PN wi g tb):=by
  intro pins s σ H D I h
  refine wpAny_For (thn (hi pins s σ H _ I h) fun v s1 h1=>thn h1 fun itv s2 h2=>?_) hs
  obtain ⟨it,fp,tn,J,H2,e,I2,T,st2,f2,W,⟨m0,w0⟩,turn⟩:=h2
  subst e
  have stat:∀ {H':Hp},(∀ b∈fp,H' b=none)→∀ b∈fp,C6 X pins H' b:=fun hn b hb=>⟨hn b hb,(f2 b hb).2⟩
  refine codeAny_forLoop_any (fun n s'=>∃ i σ' H',Inv X pins σ' H' s'∧tn i s'.heap∧(∀ b∈fp,H' b=none)∧W i n σ' H') ?_ m0 ⟨0,σ,H2,I2,st2,fun b hb=>(f2 b hb).1,w0⟩
  rintro n s3 ⟨i,σ3,H3,I3,st3,fr3,w3⟩
  rcases turn i n σ3 H3 w3 with ⟨stop,qn⟩ | ⟨go,N,hN,step⟩
  · refine wpAny_passesOwn hp (thn (T.done X rfl rfl rfl hc i pins s3 σ3 H3 X.xe I3 (stat fr3) st3 stop) fun r s4 ⟨hr,I4⟩=>?_)
    subst hr
    exact wpAny_execs_nil ⟨σ3,H3,I4,qn⟩
  · refine wpAny_passesOwn hp (thn (T.item X rfl rfl rfl hc i pins s3 σ3 H3 X.xe I3 (stat fr3) st3 go) fun r s4 ⟨u,hr,h4⟩=>?_)
    subst hr
    refine wpAny_passesOwn hp (thn h4 fun _ s5 ⟨x,H5,I5,r5,y5,st5,fr5⟩=>?_)
    have I5':=I5.pinned (stat fr5) (T.obj _ _ st5)
    refine wpAny_passesOwn hp (thn (hg _ s5 σ3 H5 x u _ I5' r5 (step x H5 y5)) fun _ s6 ⟨σ6,H6,I6,q6⟩=>?_)
    refine wpAny_passesOwn hp (thn (hb _ s6 σ6 H6 _ I6 q6) fun f s7 q7=>?_)
    have again:∀ {σ7:St} {H7:Hp},Inv X (pins++Dd fp s5.heap) σ7 H7 s7→N σ7 H7→∃ m,m < n∧∃ i σ' H',Inv X pins σ' H' s7∧tn i s7.heap∧(∀ b∈fp,H' b=none)∧W i m σ' H':=fun {σ7 H7} I7 n7=>by
      obtain ⟨m',hm,w7⟩:=hN σ7 H7 n7
      refine ⟨m',hm,i+1,σ7,H7,I7.unpinned,T.keep _ _ _ st5 fun b hb o e=>(I7.pin (b,o) (List.mem_append_right _ (List.mem_append_right _ (gu hb e)))).1,fun b hb=>?_,w7⟩
      obtain ⟨o,e,d⟩:=T.obj _ _ st5 b hb
      exact (I7.pin (b,o) (List.mem_append_right _ (List.mem_append_right _ (gu hb e)))).2.1
    cases f with
    | next=>obtain ⟨σ7,H7,I7,n7⟩:=q7;exact again I7 n7
    | cont=>obtain ⟨σ7,H7,I7,n7⟩:=q7;exact again I7 n7
    | brk=>obtain ⟨σ7,H7,I7,q7⟩:=q7;exact ⟨σ7,H7,I7.unpinned,q7⟩
    | ret v=>obtain ⟨x7,σ7,H7,I7,r7,q7⟩:=q7;exact ⟨x7,σ7,H7,I7.unpinned,r7,q7⟩
end
end L2
namespace L2
open PySem PySem.Spec PyProof.Rows
abbrev R2:=V→V→Hp→VK→Prop
def OpR(X:Cx)(f:Value→Value→Sem Value)(r:R2):Prop:=
  ∀ (pins:List (Addr×Obj)) (s:Shared) (σ:St) (H:Hp) (x y:V) (v u:Value) (Q:VK),Inv X pins σ H s→RelV x v→RelV y u→r x y H Q→
    wpAny (model X.prog X.w) X.A (f v u) (EP X pins σ Q) X.xe s
def UnR(X:Cx)(f:Value→Sem Value)(r:V→Hp→VK→Prop):Prop:=
  ∀ (pins:List (Addr×Obj)) (s:Shared) (σ:St) (H:Hp) (x:V) (v:Value) (Q:VK),Inv X pins σ H s→RelV x v→r x H Q→
    wpAny (model X.prog X.w) X.A (f v) (EP X pins σ Q) X.xe s
def CallR(X:Cx)(f:Value)(r:List V→Hp→VK→Prop):Prop:=
  ∀ (pins:List (Addr×Obj)) (s:Shared) (σ:St) (H:Hp) (xs:List V) (us:List Value) (Q:VK),Inv X pins σ H s→Vals xs us→r xs H Q→
    wpAny (model X.prog X.w) X.A (call f us) (EP X pins σ Q) X.xe s
def tOp(r:R2)(ta tb:TE):TE:=fun σ H Q=>ta σ H fun x H1=>tb σ H1 fun y H2=>r x y H2 Q
def tUn(r:V→Hp→VK→Prop)(ta:TE):TE:=fun σ H Q=>ta σ H fun x H1=>r x H1 Q
def rI(C:Int→Int→Prop)(g:Int→Int→V):R2:=fun x y H Q=>∃ i j,x= .int i∧y= .int j∧C i j∧Q (g i j) H
def rI0(g:Int→Int→V):R2:=fun x y H Q=>∃ i j,x= .int i∧y= .int j∧Q (g i j) H
def rU(g:Int→V):V→Hp→VK→Prop:=fun x H Q=>∃ i,x= .int i∧Q (g i) H
section
variable{X:Cx}{a b c:Expr}{ta tb tc:TE}{pos:Pos}
theorem Ob(ha:PE X a ta)(hb:PE X b tb){pins:List (Addr×Obj)}{s:Shared}{σ:St}{H:Hp}{R:V→V→Hp→Prop}(I:Inv X pins σ H s)
    (h:ta σ H fun x H1=>tb σ H1 fun y H2=>R x y H2) {Q:Value→Shared→Prop} {f:Value→Value→Sem Value}
    (hf:∀ v u s2 x y H2,Inv X pins σ H2 s2→RelV x v→RelV y u→R x y H2→wpAny (model X.prog X.w) X.A (f v u) Q X.xe s2):
    wpAny (model X.prog X.w) X.A (eval a X.env) (fun v s₁=>wpAny (model X.prog X.w) X.A (eval b X.env) (fun u s₂=>wpAny (model X.prog X.w) X.A (f v u) Q X.xe s₂) X.xe s₁) X.xe s:=by
  refine thn (ha pins s σ H _ I h) fun v s1 ⟨x,H1,I1,r1,q1⟩=>?_
  refine thn (hb pins s1 σ H1 _ I1 q1) fun u s2 ⟨y,H2,I2,r2,q2⟩=>?_
  exact hf v u s2 x y H2 I2 r1 r2 q2
theorem IA{op:Operator}{r:R2}(ho:OpR X (binaryOp op) r)(ha:PE X a ta)(hb:PE X b tb):PE X (.BinOp a op b pos) (tOp r ta tb):=by
  intro pins s σ H Q I h
  exact wpAny_BinOp (Ob ha hb I h fun v u s2 x y H2 I2 rx ry q=>ho pins s2 σ H2 x y v u Q I2 rx ry q)
theorem OR{op:UnaryOp}{r:V→Hp→VK→Prop}(ho:UnR X (unaryOp op) r)(ha:PE X a ta):PE X (.UnaryOp op a pos) (tUn r ta):=by
  intro pins s σ H Q I h
  exact UnaryOp_ (thn (ha pins s σ H _ I h) fun v s1 ⟨x,H1,I1,r1,q1⟩=>ho pins s1 σ H1 x v Q I1 r1 q1)
theorem opI{f:Value→Value→Sem Value}{C:Int→Int→Prop}{g:Int→Int→Int}
    (rule:∀ (i j:Int) (t u:Tok) (s:Shared) (Q:Value→Shared→Prop) (E:Value→Shared→Prop),C i j→Q (.int (g i j) s.toks) {s with toks:=s.toks+1}→wpAny (model X.prog X.w) X.A (f (.int i t) (.int j u)) Q E s):
    OpR X f (rI C fun i j=>.int (g i j)):=by
  intro pins s σ H x y v u Q I rx ry h
  obtain ⟨i,j,rfl,rfl,hc,q⟩:=h
  obtain ⟨t,rfl⟩:=rx
  obtain ⟨t',rfl⟩:=ry
  exact rule i j t t' s _ _ hc ⟨.int (g i j),H,I.tok _,⟨_,rfl⟩,q⟩
theorem Oq{f:Value→Value→Sem Value}{g:Int→Int→Int}
    (rule:∀ (i j:Int) (t u:Tok) (s:Shared) (Q:Value→Shared→Prop) (E:Value→Shared→Prop),Q (.int (g i j) s.toks) {s with toks:=s.toks+1}→wpAny (model X.prog X.w) X.A (f (.int i t) (.int j u)) Q E s):
    OpR X f (rI0 fun i j=>.int (g i j)):=by
  intro pins s σ H x y v u Q I rx ry h
  obtain ⟨i,j,rfl,rfl,q⟩:=h
  obtain ⟨t,rfl⟩:=rx
  obtain ⟨t',rfl⟩:=ry
  exact rule i j t t' s _ _ ⟨.int (g i j),H,I.tok _,⟨_,rfl⟩,q⟩
theorem Os{f:Value→Value→Sem Value}{g:Int→Int→Bool}
    (rule:∀ (i j:Int) (t u:Tok) (s:Shared) (Q:Value→Shared→Prop) (E:Value→Shared→Prop),Q (.bool (g i j)) s→wpAny (model X.prog X.w) X.A (f (.int i t) (.int j u)) Q E s):
    OpR X f (rI0 fun i j=>.bl (g i j)):=by
  intro pins s σ H x y v u Q I rx ry h
  obtain ⟨i,j,rfl,rfl,q⟩:=h
  obtain ⟨t,rfl⟩:=rx
  obtain ⟨t',rfl⟩:=ry
  exact rule i j t t' s _ _ ⟨.bl (g i j),H,I,rfl,q⟩
def Pz(i j:Int):Prop:=0≤j∧j≤1000000∧i.natAbs < 2 ^ 64
theorem op_add:OpR X (binaryOp .Add) (rI0 fun i j=>.int (i+j)):=Oq fun _ _ _ _ _ _ _ q=>add_int q
theorem Nf:OpR X (binaryOp .Sub) (rI0 fun i j=>.int (i - j)):=Oq fun _ _ _ _ _ _ _ q=>sub_int q
theorem Oa:OpR X (binaryOp .Mod) (rI (fun _ j=>0 < j) fun i j=>.int (i % j)):=opI fun i j _ _ _ _ _ hc q=>by
  have h1:(0:Int) < j:=hc
  exact mod_int' (by omega) (by rw [Int.fmod_eq_emod_of_nonneg i (by omega)];exact q)
theorem N0:OpR X (binaryOp .Pow) (rI Pz fun i j=>.int (i ^ j.toNat)):=opI fun _ _ _ _ _ _ _ hc q=>pow_int_small hc.1 hc.2.1 hc.2.2 q
theorem unI{f:Value→Sem Value}{g:Int→Int}
    (rule:∀ (i:Int) (t:Tok) (s:Shared) (Q:Value→Shared→Prop) (E:Value→Shared→Prop),Q (.int (g i) s.toks) {s with toks:=s.toks+1}→wpAny (model X.prog X.w) X.A (f (.int i t)) Q E s):
    UnR X f (rU fun i=>.int (g i)):=by
  intro pins s σ H x v Q I rx h
  obtain ⟨i,rfl,q⟩:=h
  obtain ⟨t,rfl⟩:=rx
  exact rule i t s _ _ ⟨.int (g i),H,I.tok _,⟨_,rfl⟩,q⟩
theorem NB:UnR X (unaryOp .USub) (rU fun i=>.int (-i)):=unI fun _ _ _ _ _ q=>neg_int q
end
def Ov:V→V→Bool
  | .non,.non=>true | .non,.int _=>true | .int _,.non=>true | .non,.bl _=>true | .bl _,.non=>true | .non,.str _=>true | .str _,.non=>true
  | .int _,.int _=>true | .bl _,.bl _=>true | .str _,.str _=>true | .byt _,.byt _=>true
  | .int _,.str _=>true | .str _,.int _=>true | .bl _,.str _=>true | .str _,.bl _=>true
  | _,_=>false
def rEq:R2:=fun x y H Q=>Ov x y=true∧Q (.bl (decide (x=y))) H
def rNe:R2:=fun x y H Q=>Ov x y=true∧Q (.bl (!decide (x=y))) H
theorem t5{i j:Int}:decide (V.int i=V.int j)=(i == j):=by
  rw [Bool.eq_iff_iff]
  simp
theorem CB{i j:Bool}:decide (V.bl i=V.bl j)=(i == j):=by
  rw [Bool.eq_iff_iff]
  simp
theorem t8{i j:Str}:decide (V.str i=V.str j)=(i == j):=by
  rw [Bool.eq_iff_iff]
  simp
theorem GL{i j:Array UInt8}:decide (V.byt i=V.byt j)=(i.toList == j.toList):=by
  rw [Bool.eq_iff_iff]
  cases i
  cases j
  simp
section
variable{X:Cx}{a b c:Expr}{ta tb tc:TE}{pos:Pos}
theorem jr{pins:List (Addr×Obj)}{σ:St}{H:Hp}{s:Shared}{Q:VK}{k k':Bool}(I:Inv X pins σ H s)(q:Q (.bl k) H)(e:k=k'):EP X pins σ Q (.bool k') s:=by
  subst e
  exact ⟨.bl k,H,I,rfl,q⟩
theorem op_eq:OpR X (compareOp .Eq) rEq:=by
  intro pins s σ H x y v u Q I rx ry h
  obtain ⟨hs,q⟩:=h
  cases x with
  | non=>
    cases rx
    cases y with
    | non=>cases ry;exact PySem.EqNone.eq_none_none (jr I q (by simp))
    | bl j=>cases ry;exact PySem.EqNone.eq_none_bool (jr I q (by simp))
    | int j=>obtain ⟨t',rfl⟩:=ry;exact PySem.EqNone.eq_none_int (jr I q (by simp))
    | str j=>obtain ⟨t',rfl⟩:=ry;exact PySem.EqNone.eq_none_str (jr I q (by simp))
    | _=>exact absurd (show false=true from hs) Bool.false_ne_true
  | bl i=>
    cases rx
    cases y with
    | non=>cases ry;exact PySem.EqNone.eq_bool_none (jr I q (by simp))
    | bl j=>cases ry;exact eq_bool (jr I q CB)
    | str j=>obtain ⟨t',rfl⟩:=ry;exact PySem.EqMixed.eq_bool_str (jr I q (by simp))
    | _=>exact absurd (show false=true from hs) Bool.false_ne_true
  | int i=>
    obtain ⟨t,rfl⟩:=rx
    cases y with
    | non=>cases ry;exact PySem.EqNone.eq_int_none (jr I q (by simp))
    | int j=>obtain ⟨t',rfl⟩:=ry;exact eq_int (jr I q t5)
    | str j=>obtain ⟨t',rfl⟩:=ry;exact PySem.EqMixed.eq_int_str (jr I q (by simp))
    | _=>exact absurd (show false=true from hs) Bool.false_ne_true
  | str i=>
    obtain ⟨t,rfl⟩:=rx
    cases y with
    | non=>cases ry;exact PySem.EqNone.eq_str_none (jr I q (by simp))
    | bl j=>cases ry;exact PySem.EqMixed.eq_str_bool (jr I q (by simp))
    | int j=>obtain ⟨t',rfl⟩:=ry;exact PySem.EqMixed.eq_str_int (jr I q (by simp))
    | str j=>obtain ⟨t',rfl⟩:=ry;exact eq_str (jr I q t8)
    | _=>exact absurd (show false=true from hs) Bool.false_ne_true
  | byt i=>
    obtain ⟨t,rfl⟩:=rx
    cases y with
    | byt j=>obtain ⟨t',rfl⟩:=ry;exact PySem.W.eq_bytes (jr I q GL)
    | _=>exact absurd (show false=true from hs) Bool.false_ne_true
  | _=>cases y<;>exact absurd (show false=true from hs) Bool.false_ne_true
theorem op_ne:OpR X (compareOp .NotEq) rNe:=by
  intro pins s σ H x y v u Q I rx ry h
  obtain ⟨hs,q⟩:=h
  cases x with
  | non=>
    cases rx
    cases y with
    | non=>cases ry;exact PySem.EqNone.ne_none_none (jr I q (by simp))
    | bl j=>cases ry;exact PySem.EqNone.ne_none_bool (jr I q (by simp))
    | int j=>obtain ⟨t',rfl⟩:=ry;exact PySem.EqNone.ne_none_int (jr I q (by simp))
    | str j=>obtain ⟨t',rfl⟩:=ry;exact PySem.EqNone.ne_none_str (jr I q (by simp))
    | _=>exact absurd (show false=true from hs) Bool.false_ne_true
  | bl i=>
    cases rx
    cases y with
    | non=>cases ry;exact PySem.EqNone.ne_bool_none (jr I q (by simp))
    | bl j=>cases ry;exact ne_bool (jr I q (congrArg not CB))
    | str j=>obtain ⟨t',rfl⟩:=ry;exact PySem.EqMixed.ne_bool_str (jr I q (by simp))
    | _=>exact absurd (show false=true from hs) Bool.false_ne_true
  | int i=>
    obtain ⟨t,rfl⟩:=rx
    cases y with
    | non=>cases ry;exact PySem.EqNone.ne_int_none (jr I q (by simp))
    | int j=>obtain ⟨t',rfl⟩:=ry;exact ne_int (jr I q (congrArg not t5))
    | str j=>obtain ⟨t',rfl⟩:=ry;exact PySem.EqMixed.ne_int_str (jr I q (by simp))
    | _=>exact absurd (show false=true from hs) Bool.false_ne_true
  | str i=>
    obtain ⟨t,rfl⟩:=rx
    cases y with
    | non=>cases ry;exact PySem.EqNone.ne_str_none (jr I q (by simp))
    | bl j=>cases ry;exact PySem.EqMixed.ne_str_bool (jr I q (by simp))
    | int j=>obtain ⟨t',rfl⟩:=ry;exact PySem.EqMixed.ne_str_int (jr I q (by simp))
    | str j=>obtain ⟨t',rfl⟩:=ry;exact ne_str (jr I q (congrArg not t8))
    | _=>exact absurd (show false=true from hs) Bool.false_ne_true
  | byt i=>
    obtain ⟨t,rfl⟩:=rx
    cases y with
    | byt j=>obtain ⟨t',rfl⟩:=ry;exact PySem.W.ne_bytes (jr I q (congrArg not GL))
    | _=>exact absurd (show false=true from hs) Bool.false_ne_true
  | _=>cases y<;>exact absurd (show false=true from hs) Bool.false_ne_true
theorem Pe:OpR X (compareOp .Lt) (rI0 fun i j=>.bl (decide (i < j))):=Os fun _ _ _ _ _ _ _ q=>lt_int q
theorem O2:OpR X (compareOp .Gt) (rI0 fun i j=>.bl (decide (j < i))):=Os fun _ _ _ _ _ _ _ q=>gt_int q
theorem Oj:OpR X (compareOp .Is) (fun x y H Q=>y= .non∧Q (.bl (decide (x= .non))) H):=by
  intro pins s σ H x y v u Q I rx ry h
  obtain ⟨rfl,q⟩:=h
  cases ry
  refine is_none_gen (jr I q ?_)
  cases x<;>first
    | (cases rx;rfl)
    | (obtain ⟨t,rfl⟩:=rx;rfl)
theorem Ma:OpR X (compareOp .IsNot) (fun x y H Q=>y= .non∧Q (.bl (!decide (x= .non))) H):=by
  intro pins s σ H x y v u Q I rx ry h
  obtain ⟨rfl,q⟩:=h
  cases ry
  refine isnot_none_gen (jr I q ?_)
  cases x<;>first
    | (cases rx;rfl)
    | (obtain ⟨t,rfl⟩:=rx;rfl)
theorem OpR.or{f:Value→Value→Sem Value}{r r':R2}(h:OpR X f r)(h':OpR X f r'):OpR X f (fun x y H Q=>r x y H Q∨r' x y H Q):=by
  intro pins s σ H x y v u Q I rx ry q
  rcases q with q | q
  · exact h pins s σ H x y v u Q I rx ry q
  · exact h' pins s σ H x y v u Q I rx ry q
theorem cu(b:Expr){op:CmpOp}(h:op≠.In:=by decide)(h2:op≠.NotIn:=by decide):behindInMarks op b=false:=by
  have e1:(op == CmpOp.In)=false:=by cases op<;>first | rfl | exact absurd rfl h
  have e2:(op == CmpOp.NotIn)=false:=by cases op<;>first | rfl | exact absurd rfl h2
  cases b<;>simp [behindInMarks,e1,e2]
theorem Mk{op:CmpOp}{r:R2}(ho:OpR X (compareOp op) r)(ha:PE X a ta)(hb:PE X b tb)(hm:behindInMarks op b=false):PE X (.Compare a [op] [b] pos) (tOp r ta tb):=by
  intro pins s σ H Q I h
  exact wpAny_Compare1 (Ob ha hb I h fun v u s2 x y H2 I2 rx ry q=>ho pins s2 σ H2 x y v u Q I2 rx ry q) hm
def yo(t:TE):TT:=fun σ H Q=>t σ H fun x H'=>∃ k,x= .bl k∧Q k H'
theorem Mc{op:CmpOp}{r:R2}(ho:OpR X (compareOp op) r)(ha:PE X a ta)(hb:PE X b tb)(hm:behindInMarks op b=false):PT X (.Compare a [op] [b] pos) (yo (tOp r ta tb)):=by
  intro pins s σ H Q I h
  refine wpAny_isTrue_Compare1 (thn (ha pins s σ H _ I h) fun v s1 ⟨x,H1,I1,r1,q1⟩=>thn (hb pins s1 σ H1 _ I1 q1) fun u s2 ⟨y,H2,I2,r2,q2⟩=>
    thn (ho pins s2 σ H2 x y v u _ I2 r1 r2 q2) fun c s3 ⟨z,H3,I3,r3,k,e,q3⟩=>?_) hm
  subst e
  cases r3
  exact wpAny_truthy_bool ⟨H3,I3,q3⟩
theorem A1:(sizeLine:Nat) < 2 ^ 63:=by rw [sizeLine_eq];decide
theorem Fl:OpR X (binaryOp .Add) (fun x y H Q=>∃ i j,x= .str i∧y= .str j∧i.length+j.length≤sizeLine∧Q (.str (i++j)) H):=by
  intro pins s σ H x y v u Q I rx ry h
  obtain ⟨i,j,rfl,rfl,hz,q⟩:=h
  obtain ⟨t,rfl⟩:=rx
  obtain ⟨t',rfl⟩:=ry
  exact add_str (fun t' tk=>⟨.str (i++j),H,I.tok _,⟨_,rfl⟩,q⟩) hz
theorem rg{x:V}{us:List Value}(r:Vals [x] us):∃ u,us=[u]∧RelV x u:=by
  cases r with
  | cons r1 r2=>cases r2;exact ⟨_,rfl,r1⟩
theorem OQ{x y:V}{us:List Value}(r:Vals [x,y] us):∃ u w',us=[u,w']∧RelV x u∧RelV y w':=by
  cases r with
  | cons r1 r2=>
    cases r2 with
    | cons r3 r4=>cases r4;exact ⟨_,_,rfl,r1,r3⟩
theorem HF:CallR X (.type "int") (fun xs H Q=>(∃ i,xs=[.int i]∧Q (.int i) H)∨∃ k,xs=[.bl k]∧Q (.int (if k then 1 else 0)) H):=by
  intro pins s σ H xs us Q I r h
  rcases h with ⟨i,rfl,q⟩ | ⟨k,rfl,q⟩
  · obtain ⟨u,rfl,t,rfl⟩:=rg r
    exact call_int_int ⟨.int i,H,I,⟨_,rfl⟩,q⟩
  · obtain ⟨u,rfl,r1⟩:=rg r
    cases r1
    exact call_int_bool ⟨.int (if k then 1 else 0),H,I.tok _,⟨_,rfl⟩,q⟩
end
end L2
namespace L2
open PySem PySem.Spec PyProof.Rows
structure ObjM(h:Heap)(x dx C:Addr)(mA:Str→Option Value):Prop where
  obj:h.get? x=some (PySem.W.instObj C dx)
  ns:h.Ns1 dx mA
  ne:dx≠x
theorem HA{h:Heap}{dx:Addr}{mA:Str→Option Value}(n:h.Ns1 dx mA):∃ od,h.get? dx=some od∧∀ name,PySem.W.lookIn name od=some (mA name):=by
  obtain ⟨o,es,ep,ho,hd,hk,_,hm⟩:=n
  refine ⟨o,ho,fun name=>?_⟩
  have e:=hm name
  unfold nsFind findBy at e
  rw [← Array.find?_toList] at e
  unfold PySem.W.lookIn
  rw [hd]
  dsimp only
  split
  · rename_i y q
    rw [q] at e
    exact congrArg some e
  · rename_i q
    rw [q] at e
    have a:es.toList.any (·.refKey)=false:=by
      rw [List.any_eq_false]
      intro y hy
      obtain ⟨z,t,hkey⟩:=hk y (Array.mem_toList_iff.mp hy)
      simp [DictEntry.refKey,hkey]
    have a':¬ es.toList.any (·.refKey)=true:=by rw [a];exact Bool.false_ne_true
    rw [if_neg a']
    exact congrArg some e
theorem ObjM.look{h:Heap}{x dx C:Addr}{mA:Str→Option Value}(I:ObjM h x dx C mA):∃ od,PySem.W.InstAt h x (PySem.W.instObj C dx) C (some od)∧∀ name,PySem.W.lookIn name od=some (mA name):=
  let ⟨od,ho,hl⟩:=HA I.ns
  ⟨od,⟨I.obj,rfl,rfl,ho⟩,hl⟩
section
variable{P:Program}{w:World}{H H':Hp}{h h':Heap}{a C dx:Addr}{fs fs':List (Str×V)}
theorem LX(hok:HOk P w H h)(e:H a=some (.ins C dx fs)):∃ mA,ObjM h a dx C mA∧(∀ f,RelO (fs.lookup f) (mA f))∧PySem.Within mA (fs.map (·.1))∧fs.length≤1000∧H dx=some (.own a):=by
  obtain ⟨d,z,ne,ob,mA,n,r,q⟩:=(show ObjOk P w H h a (.ins C dx fs) from hok a _ e)
  exact ⟨mA,⟨ob,n,ne⟩,r,q,z,d⟩
end
structure Cls(K:PySem.W.Frag)(C:Addr):Prop where
  pg:PySem.W.plainGet K C Str.empty=true
  hd:PySem.W.hasDictIn K C=true
  po:PySem.W.plainOver K C=true
  sa:PySem.W.findIn K (.ref C) "__setattr__" =some (some (.builtin "object.__setattr__"))
theorem Cls.get{K:PySem.W.Frag}{C:Addr}(c:Cls K C)(f:Str):PySem.W.plainGet K C f=true:=c.pg
section
variable{X:Cx}{pins:List (Addr×Obj)}{σ:St}{H:Hp}{s:Shared}{A:Around}{E:Value→Shared→Prop}{Q:Value→Shared→Prop}{c:Value}{b:Bool}
inductive TyOf (K:PySem.W.Frag) (H:Hp):V→Value→Prop where
  | non:TyOf K H .non (.type "NoneType")
  | bl (x:Bool):TyOf K H (.bl x) (.type "bool")
  | int (i:Int):TyOf K H (.int i) (.type "int")
  | str (x:Str):TyOf K H (.str x) (.type "str")
  | flt (x:UInt64):TyOf K H (.flt x) (.type "float")
  | lst {a:Addr} {xs:List V} (e:H a=some (.lst xs)):TyOf K H (.ref a) (.type "list")
  | frz {a:Addr} {o:Obj} {xs:List V} (e:H a=some (.frz o (.lst xs))):TyOf K H (.ref a) (.type "list")
  | tup {a:Addr} {xs:List V} (e:Rd H a (.tup xs)):TyOf K H (.ref a) (.type "tuple")
  | dK {a:Addr} {kvs:List (Key×V)} (e:H a=some (.dK kvs)):TyOf K H (.ref a) (.type "dict")
  | dT {a:Addr} {kvs:List (List Key×V)} {ep:Nat} (e:H a=some (.dT kvs ep)):TyOf K H (.ref a) (.type "dict")
  | ins {a C dx:Addr} {fs:List (Str×V)} (e:H a=some (.ins C dx fs)) (cl:Cls K C) (ha:PySem.W.findIn K (.ref C) "__class__" =some (some (.builtin "object.__class__")))
      (hn:PySem.W.specialIn K (.builtin "object.__class__") "__get__" =some (some (.builtin "getset_descriptor.__get__"))) (htk:PySem.W.takesIn K (.builtin "object.__class__")=some true)
      (hm:PySem.W.mroIn K C (.type "object")=some true):TyOf K H (.ref a) (.ref C)
theorem Hv{x:V}{u t:Value}(I:Inv X pins σ H s)(rx:RelV x u)(ty:TyOf X.K H x t)(e:PySem.W.kitOne X.K t c=some b)(h:∀ tk,Q (.bool b) {s with toks:=tk}):
    wpAny (model X.prog X.w) A (call (.builtin "isinstance") [u,c]) Q E s:=by
  cases ty with
  | non=>cases (show u=Value.none from rx);exact PySem.W.kia_one PySem.W.kitx_none I.kIn True.intro e (fun z=>nomatch z) h
  | bl y=>cases (show u=Value.bool y from rx);exact PySem.W.kia_one PySem.W.kitx_bool I.kIn True.intro e (fun z=>nomatch z) h
  | int i=>obtain ⟨t,q⟩:=(show ∃ t,u=Value.int i t from rx);cases q;exact PySem.W.kia_one PySem.W.kitx_int I.kIn True.intro e (fun z=>nomatch z) h
  | str y=>obtain ⟨t,q⟩:=(show ∃ t,u=Value.str y t from rx);cases q;exact PySem.W.kia_one PySem.W.kitx_str I.kIn True.intro e (fun z=>nomatch z) h
  | flt y=>obtain ⟨t,q⟩:=(show ∃ t,u=Value.float y t from rx);cases q;exact PySem.W.kia_one PySem.W.kitx_float I.kIn True.intro e (fun z=>nomatch z) h
  | @lst a xs ea=>
    cases (show u=Value.ref a from rx)
    obtain ⟨_,_,n,_,h1⟩:=(show ObjOk X.prog X.w H s.heap a (.lst xs) from I.hok a _ ea)
    exact PySem.W.kia_one PySem.W.kitx_list I.kIn ⟨_,h1,rfl⟩ e (fun z=>nomatch z) h
  | @frz a ob xs ea=>
    cases (show u=Value.ref a from rx)
    obtain ⟨_,_,_,n,_,h1⟩:=(show ObjOk X.prog X.w H s.heap a (.frz ob (.lst xs)) from I.hok a _ ea)
    exact PySem.W.kia_one PySem.W.kitx_list I.kIn ⟨_,h1,rfl⟩ e (fun z=>nomatch z) h
  | @tup a xs ea=>
    cases (show u=Value.ref a from rx)
    obtain ⟨_,_,_,p⟩:=(show ObjOk X.prog X.w H s.heap a (.tup xs) from ea.ok I.hok)
    obtain ⟨o,h1,h2,_⟩:=p
    exact PySem.W.kia_one PySem.W.kitx_tuple I.kIn ⟨o,h1,h2⟩ e (fun z=>nomatch z) h
  | @dK a kvs ea=>
    cases (show u=Value.ref a from rx)
    obtain ⟨_,_,vs,_,p⟩:=(show ObjOk X.prog X.w H s.heap a (.dK kvs) from I.hok a _ ea)
    obtain ⟨o,es,ep,h1,h2,_⟩:=p
    exact PySem.W.kia_one PySem.W.kitx_dict I.kIn ⟨o,h1,h2.1⟩ e (fun z=>nomatch z) h
  | @dT a kvs ep ea=>
    cases (show u=Value.ref a from rx)
    obtain ⟨_,_,xs,_,o,es,h1,h2,_⟩:=(show ObjOk X.prog X.w H s.heap a (.dT kvs ep) from I.hok a _ ea)
    exact PySem.W.kia_one PySem.W.kitx_dict I.kIn ⟨o,h1,h2.1⟩ e (fun z=>nomatch z) h
  | @ins a C dx fs ea cl ha hn htk hm=>
    cases (show u=Value.ref a from rx)
    obtain ⟨mA,O,_⟩:=LX I.hok ea
    obtain ⟨od,J,_⟩:=O.look
    exact PySem.W.kia_one (PySem.W.kitx_own (cl.get _) cl.hd ha hn htk hm) I.kIn J e (fun z=>nomatch z) h
end
end L2
namespace L2
open PySem PySem.Spec PyProof.Rows
structure Room(k:Nat)(A:Around):Prop where
  hd:A.handled=none
  dp:A.depth+3 * k+5 < recursionLimit
  un:A.units+16 * k+200 < cLine
theorem Room.deeper{k:Nat}{A:Around}(r:Room (k+1) A)(env:Env):Room k (A.deeper env):=
  ⟨r.hd,by have:=r.dp;show A.depth+1+3 * k+5 < _;omega,by have:=r.un;show A.units+3+16 * k+200 < _;omega⟩
theorem Room.depth{k:Nat}{A:Around}(r:Room k A):A.depth < recursionLimit:=by have:=r.dp;omega
theorem Room.units{k:Nat}{A:Around}(r:Room k A):A.units+64 < cLine:=by have:=r.un;omega
def tNil:TA:=fun _ H Q=>Q [] H
def Gu(ta:TE)(tr:TA):TA:=fun σ H Q=>ta σ H fun x H1=>tr σ H1 fun xs H2=>Q (x::xs) H2
section
variable{X:Cx}{e:Expr}{es:List Expr}{te:TE}{t:TA}{pos:Pos}
theorem gy:PA X [] tNil:=fun _ _ _ _ H Q I h=>Calls.spliced_nil ⟨[],H,I,.nil,h⟩
theorem wx(ha:PE X e te)(hr:PA X es t)(hs:starEach (e::es) X.env=(false,eval e X.env)::starEach es X.env:=by rfl):PA X (e::es) (Gu te t):=by
  intro pos pins s σ H Q I h
  rw [hs]
  show wpAny _ _ (spliced ((false,eval e X.env)::backTo pos (starEach es X.env))) _ _ s
  refine Calls.spliced_cons (thn (ha pins s σ H _ I h) fun u s1 ⟨x,H1,I1,r1,q1⟩=>?_)
  exact thn (hr pos pins s1 σ H1 _ I1 q1) fun us s2 ⟨xs,H2,I2,r2,q2⟩=>⟨x::xs,H2,I2,.cons r1 r2,q2⟩
def Pn(t:TA):TE:=fun σ H Q=>t σ H fun xs H1=>xs.length≤sizeLine∧∀ p,H1 p=none→Q (.ref p) (upd H1 p (.tup xs))
def P7(t:TA):TE:=fun σ H Q=>t σ H fun xs H1=>xs.length≤sizeLine∧∀ p,H1 p=none→Q (.ref p) (upd H1 p (.lst xs))
theorem N7{x1}(h:PA X es t):PE X (.Tuple es x1 pos) (Pn t):=by
  intro pins s σ H Q I hq
  refine wpAny_Tuple_spliced (thn (h pos pins s σ H _ I hq) fun us s1 ⟨xs,H1,I1,r,z,q⟩=>⟨by rw [← r.length];exact z,?_⟩)
  have hf:H1 s1.heap.objs.size=none:=I1.hok.fresh (Nat.le_refl _)
  refine ⟨.ref s1.heap.objs.size,upd H1 s1.heap.objs.size (.tup xs),I1.laid (t':=s1.toks) (fun b u e=>Heap.get?_push_of_some _ e) (Nat.le_refl _) ?_,rfl,q _ hf⟩
  exact ⟨⟨z,sh (Heap.get?_push_size _ rfl) rfl⟩,us,r,⟨_,Heap.get?_push_size _ rfl,rfl,_,rfl⟩⟩
theorem JP(h:PA X es t):PE X (.List es pos) (P7 t):=by
  intro pins s σ H Q I hq
  refine wpAny_List_spliced (thn (h pos pins s σ H _ I hq) fun us s1 ⟨xs,H1,I1,r,z,q⟩=>⟨by rw [← r.length];exact z,?_⟩)
  have hf:H1 s1.heap.objs.size=none:=I1.hok.fresh (Nat.le_refl _)
  refine ⟨.ref s1.heap.objs.size,upd H1 s1.heap.objs.size (.lst xs),I1.laid (t':=s1.toks) (fun b u e=>Heap.get?_push_of_some _ e) (Nat.le_refl _) ?_,rfl,q _ hf⟩
  exact ⟨z,us,0,r,Heap.get?_push_size _ rfl⟩
end
abbrev Sp:=List V→Hp→VK→XK→Prop
abbrev CXT:=List Env→Hp→Shared→XK→Value→Shared→Prop
structure Env0(P:Program)(w:World)(K:PySem.W.Frag)(mg:Str→Option Value)(base:Heap)(A:Around)(outer:List Env)(s:Shared)(H:Hp):Prop where
  frames:A.frames=some outer
  mod:Mod K mg base
  bs:∀ b o,base.get? b=some o→s.heap.get? b=some o∧Sb K H b o
  bsz:base.objs.size≤s.heap.objs.size
  funs:s.heap.FunFrames base outer
  frf:∀ b∈frs outer,H b=none
  hok:HOk P w H s.heap
  bare:AllBare s.gens
def CE(outer:List Env)(P:Program)(w:World)(H:Hp)(s:Shared)(Q:VK)(u:Value)(s':Shared):Prop:=
  ∃ v H',s'.os=s.os∧AllBare s'.gens∧Un (frs outer) [] H H' s.heap s'.heap∧HOk P w H' s'.heap∧RelV v u∧Q v H'
def CR(CX:CXT)(outer:List Env)(P:Program)(w:World)(H:Hp)(s:Shared)(Q:VK)(E:XK)(r:Result)(s':Shared):Prop:=
  match r with
  | .ok (.ret u)=>CE outer P w H s Q u s'
  | .ok _=>False
  | .error e=>CX outer H s E e s'
structure FnOk(P:Program)(w:World)(K:PySem.W.Frag)(mg:Str→Option Value)(base:Heap)(CX:CXT)(k:Nat)(f:Addr)(fd:FuncData)(ps:List Str)(sp:Sp):Prop where
  len:∀ vs H Q E,sp vs H Q E→vs.length=ps.length
  run:∀ (A:Around) (outer:List Env) (s:Shared) (H:Hp) (args:Args) (us:List Value) (vs:List V) (Q:VK) (E:XK),Room k A→Env0 P w K mg base A outer s H→BindsTo s fd args (ps.zip us)→Vals vs us→sp vs H Q E→
    codeAny (model P w) A (.call (.ref f) args) (CR CX outer P w H s Q E) s
section
variable{X:Cx}{pins:List (Addr×Obj)}{σ:St}{H:Hp}{s s':Shared}
theorem Inv.env0(I:Inv X pins σ H s):Env0 X.prog X.w X.K X.mg X.base X.A X.stack s H:=
  ⟨I.ok.frames,I.ok.mod,I.bs,Nat.le_trans I.ok.bsz I.sz,I.stack,I.stkFree,I.hok,I.bare⟩
theorem Inv.after{Q:VK}{u:Value}(I:Inv X pins σ H s)(h:CE X.stack X.prog X.w H s Q u s'):EP X pins σ Q u s':=by
  obtain ⟨v,H',os,bare,un,hok,r,q⟩:=h
  obtain ⟨hh,g,d,t,os'⟩:=s'
  obtain rfl:os'=s.os:=os
  exact ⟨v,H',I.call (h':=hh) (g':=g) (d':=d) (t':=t) (ch:=[]) un hok bare (fun b z=>absurd z (by simp)),r,q⟩
end
def Binds(K:PySem.W.Frag)(fd:FuncData)(ps:List Str)(ds:List Value):Prop:=
  ∀ (s:Shared) (us:List Value),K.In s.heap→(us++ds).length=ps.length→BindsTo s fd ⟨us,[]⟩ (ps.zip (us++ds))
theorem Binds.all{K:PySem.W.Frag}{fd:FuncData}{ps:List Str}(h:∀ us:List Value,us.length=ps.length→bindArgs fd ⟨us,[]⟩=pure (ps.zip us)):Binds K fd ps []:=fun s us _ hl=>by
  rw [List.append_nil] at hl ⊢
  exact .of_eq (h us hl)
structure FnScope(N P:List Str)(sc:Scope):Prop where
  kind:sc.kind= .function
  co:sc.isCoroutine=false
  gen:sc.isGenerator=false
  nd:N.Nodup
  pre:N.take P.length=P
  par:∀ x∈P,sc.names.lookup x=some .local∨sc.names.lookup x=some .cell
  nofree:∀ y∈sc.names,y.2≠.free
theorem BT{kindOf:Str→Option NameKind}{x:Str}:∀ {binds:List (Str×Value)} {m:Str→Option Value},(∀ v,(x,v)∉binds)→bindL kindOf binds m x=m x
  | [],_,_=>rfl
  | (n,v)::r,m,h=>by
    unfold bindL
    rw [BT fun w hw=>h w (List.mem_cons_of_mem _ hw)]
    split
    · have:x≠n:=by rintro rfl;exact h v List.mem_cons_self
      simp [this]
    · rfl
theorem BL{kindOf:Str→Option NameKind}{x:Str}:∀ {binds:List (Str×Value)} {m:Str→Option Value},(∀ v,(x,v)∉binds)→bindC kindOf binds m x=m x
  | [],_,_=>rfl
  | (n,v)::r,m,h=>by
    unfold bindC
    rw [BL fun w hw=>h w (List.mem_cons_of_mem _ hw)]
    split
    · rfl
    · have:x≠n:=by rintro rfl;exact h v List.mem_cons_self
      simp [this]
theorem Cl{kindOf:Str→Option NameKind}{x:Str}{v:Value}:∀ {P:List Str} {vs:List Value} {i:Nat} {m:Str→Option Value},P.Nodup→P[i]? =some x→vs[i]? =some v→kindOf x=some .local→
    bindL kindOf (P.zip vs) m x=some v
  | [],_,_,_,_,h,_,_=>by simp at h
  | _::_,[],_,_,_,_,h,_=>by simp at h
  | p::P,w::vs,0,m,nd,h1,h2,hk=>by
    simp at h1 h2;subst h1;subst h2
    show bindL kindOf ((p,w)::P.zip vs) m p=_
    unfold bindL
    rw [BT fun v hv=>(List.nodup_cons.mp nd).1 (List.of_mem_zip hv).1,if_pos hk]
    simp
  | p::P,w::vs,i+1,m,nd,h1,h2,hk=>by
    show bindL kindOf ((p,w)::P.zip vs) m x=_
    unfold bindL
    exact Cl (i:=i) (List.nodup_cons.mp nd).2 (by simpa using h1) (by simpa using h2) hk
theorem BS{kindOf:Str→Option NameKind}{x:Str}{v:Value}:∀ {P:List Str} {vs:List Value} {i:Nat} {m:Str→Option Value},P.Nodup→P[i]? =some x→vs[i]? =some v→kindOf x≠some .local→
    bindC kindOf (P.zip vs) m x=some v
  | [],_,_,_,_,h,_,_=>by simp at h
  | _::_,[],_,_,_,_,h,_=>by simp at h
  | p::P,w::vs,0,m,nd,h1,h2,hk=>by
    simp at h1 h2;subst h1;subst h2
    show bindC kindOf ((p,w)::P.zip vs) m p=_
    unfold bindC
    rw [BL fun v hv=>(List.nodup_cons.mp nd).1 (List.of_mem_zip hv).1,if_neg hk]
    simp
  | p::P,w::vs,i+1,m,nd,h1,h2,hk=>by
    show bindC kindOf ((p,w)::P.zip vs) m x=_
    unfold bindC
    exact BS (i:=i) (List.nodup_cons.mp nd).2 (by simpa using h1) (by simpa using h2) hk
def fz(N:List Str)(vs:List V):St:=vs.map some++List.replicate (N.length - vs.length) none
def i3(CX:CXT)(P:Program)(w:World)(K:PySem.W.Frag)(mg:Str→Option Value)(base:Heap)(N:List Str)(qual:Str)(scope:Scope)(f:Addr)(cd:Value)(A:Around)(outer:List Env)(s:Shared)(H:Hp)(E:XK):Cx where
  prog:=P
  w:=w
  K:=K
  mg:=mg
  base:=base
  A:=A.deeper (envOfC qual scope s.heap.objs.size f cd)
  N:=N
  s₀:=s
  H₀:=H
  env:=envOfC qual scope s.heap.objs.size f cd
  outer:=outer
  stack:=envOfC qual scope s.heap.objs.size f cd::outer
  ex:=[]
  calm:=true
  fn:=fun _=>true
  pn:=[]
  xe:=fun e s'=>wpAny (model P w) (A.deeper (envOfC qual scope s.heap.objs.size f cd)) (leaving (envOfC qual scope s.heap.objs.size f cd) e) (fun _ s''=>CX outer H s E e s'') (fun e' s''=>CX outer H s E e' s'') s'
theorem DI{sc:Scope}{n:Nat}{x:Str}(h:sc.names.lookup x=some .cell):∃ c,(cellsFrom n sc.names []).lookup x=some c:=by
  have q:=PySem.W.cellsFrom_some sc.names n [] (.inl h)
  exact Option.isSome_iff_exists.mp q
theorem Hq{CX:CXT}{P:Program}{w:World}{K:PySem.W.Frag}{mg:Str→Option Value}{base:Heap}{N ps:List Str}{qual:Str}{scope:Scope}{f:Addr}{cd:Value}{A:Around}{outer:List Env}{s s1:Shared}{H:Hp}{E:XK}{us:List Value}{vs:List V}
    (S:FnScope N ps scope) (hd:A.handled=none) (e0:Env0 P w K mg base A outer s H) (hl:vs.length=ps.length) (r:Vals vs us)
    (x:InCallC s s.heap.objs.size (bindL (envOfC qual scope s.heap.objs.size f cd).kindOf (ps.zip us) fun _=>none) (cellsFrom (s.heap.objs.size+1) scope.names []) (bindC (envOfC qual scope s.heap.objs.size f cd).kindOf (ps.zip us) fun _=>none) s1):
    Inv (i3 CX P w K mg base N qual scope f cd A outer s H E) [] (fz N vs) H s1:=by
  have hpl:ps.length≤N.length:=by have:=congrArg List.length S.pre;rw [List.length_take] at this;omega
  obtain ⟨h1,tk,rfl,hk⟩:=x.done
  have noA:∀ b:Addr,b∉(i3 CX P w K mg base N qual scope f cd A outer s H E).ex:=fun b z=>absurd (show b∈([]:List Addr) from z) (by simp)
  refine ⟨⟨e0.mod,S.kind,rfl,rfl,Nat.le_refl _,fun y z c h1 h2=>?_,fun y hy=>?_,fun y c _ h=>?_,fun _=>hd,Around.frames_deeper e0.frames,.inr ⟨rfl,rfl⟩,fun b z=>absurd z (noA b),e0.bs,e0.bsz,fun b _ _=>noA b,fun b z=>absurd z (noA b),e0.funs,e0.frf⟩,
    rfl,e0.bare,Un.kept hk,⟨_,x.toInCall.ns,fun i y v h1 h2 h3=>?_⟩,fun y c h=>⟨_,x.cell y c h⟩,e0.hok.fresh (Nat.le_refl _),fun y c h=>?_,fun p hp=>absurd (show p∈([]:List (Addr×Obj)) from hp) (by simp),e0.hok.kept hk,?_⟩
  · exact name_of_addr x.apart (PySem.mem_of_lookup h1) (PySem.mem_of_lookup h2)
  · have hy:scope.names.lookup y=some .cell∨scope.names.lookup y=some .free:=hy
    rcases hy with hy | hy
    · exact DI hy
    · exact absurd rfl (S.nofree _ (PySem.mem_of_lookup hy))
  · exact Nat.le_of_lt (x.above y c (PySem.mem_of_lookup h))
  · have hi:i < vs.length:=by
      unfold fz at h2
      by_cases hi:i < vs.length
      · exact hi
      · rw [List.getElem?_append_right (by simpa using hi)] at h2
        rw [List.getElem?_replicate] at h2
        split at h2<;>cases h2
    have ha:vs[i]? =some v:=by
      unfold fz at h2
      rw [List.getElem?_append_left (by simpa using hi),List.getElem?_map] at h2
      cases e:vs[i]? with
      | none=>rw [e] at h2;cases h2
      | some a=>rw [e] at h2;cases h2;rfl
    obtain ⟨u,hu,rv⟩:=r.get ha
    have hp:ps[i]? =some y:=by
      rw [← S.pre,List.getElem?_take_of_lt (by omega)];exact h1
    have ndP:ps.Nodup:=by rw [← S.pre];exact S.nd.sublist (List.take_sublist _ _)
    refine ⟨u,rv,?_⟩
    rcases S.par y (List.mem_of_getElem? hp) with k | k
    · exact .inl ⟨k,Cl ndP hp hu k⟩
    · obtain ⟨c,e⟩:=DI (n:=s.heap.objs.size+1) k
      refine .inr ⟨.inl k,c,e,?_⟩
      have q:=x.cell y c e
      rw [BS ndP hp hu (by show scope.names.lookup y≠_;rw [k];decide)] at q
      exact q
  · exact e0.hok.fresh (Nat.le_of_lt (x.above y c (PySem.mem_of_lookup h)))
  · unfold fz
    show _=N.length
    rw [List.length_append,List.length_map,List.length_replicate]
    omega
theorem M8{CX:CXT}{P:Program}{w:World}{K:PySem.W.Frag}{mg:Str→Option Value}{base:Heap}{k:Nat}{f:Addr}{name qual:Str}{params:Arguments}{body:List Stmt}{scope:Scope}{dV kV doc pm cdv ct oc:Value}{an od:Option Addr}
    {osl:Array (Option Value)} {N ps:List Str} {sp:Sp} (lk:K.lookup f=some ⟨oc,od,.func (PySem.W.fnOf name qual params body scope dV kV doc pm an cdv ct),osl⟩) (hcd:PySem.W.codeIn K cdv qual=true) (S:FnScope N ps scope)
    (len:∀ vs H Q E,sp vs H Q E→vs.length=ps.length)
    (hbody:∀ (A:Around) (outer:List Env) (s:Shared) (H:Hp) (vs:List V) (Q:VK) (E:XK),Room k (A.deeper (envOfC qual scope s.heap.objs.size f cdv))→sp vs H Q E→
      ∃ t,PSs (i3 CX P w K mg base N qual scope f cdv A outer s H E) body t∧t {nx:=fun _ H'=>Q .non H',rt:=Q} (fz N vs) H):
    FnOk P w K mg base CX (k+1) f (PySem.W.fnOf name qual params body scope dV kV doc pm an cdv ct) ps sp:=by
  refine ⟨len,fun A outer s H args us vs Q E hr e0 hb r hsp=>?_⟩
  have hl:=len _ _ _ _ hsp
  have KX:K.In s.heap:=e0.mod.kin.keeps fun b o e=>(e0.bs b o e).1
  have lim:s.heap.NoLimit:=e0.mod.nolimit.keeps fun b o e=>(e0.bs b o e).1
  have hkind:∀ y∈ps.zip us,scope.names.lookup y.1=some .local∨(scope.names.lookup y.1=some .cell∧((cellsFrom (s.heap.objs.size+1) scope.names []).lookup y.1).isSome=true):=fun ⟨n,v⟩ hy=>by
    rcases S.par n (List.of_mem_zip hy).1 with q | q
    · exact .inl q
    · exact .inr ⟨q,PySem.W.cellsFrom_some _ _ _ (.inl q)⟩
  refine codeAny_call_function hr.depth (KX _ _ lk) rfl S.co S.gen rfl (PySem.W.codeRec_of KX hcd) (hb _ _ _ _ ?_)
  refine wpAny_newFunctionEnv_cells S.kind hkind fun env he s1 x=>?_
  subst he
  refine ⟨lim.keeps x.toInCall.keep,codeAny_func ?_⟩
  obtain ⟨t,ht,hq⟩:=hbody A outer s H vs Q E (hr.deeper _) hsp
  have I:Inv (i3 CX P w K mg base N qual scope f cdv A outer s H E) [] (fz N vs) H s1:=Hq S hr.hd e0 hl r x
  refine wpAny_mono (ht [] s1 (fz N vs) H _ I hq) (fun fl s' hs=>?_) fun e s' hs=>hs
  have fin:∀ {σ':St} {H':Hp} {v:V} {u:Value},Inv (i3 CX P w K mg base N qual scope f cdv A outer s H E) [] σ' H' s'→RelV v u→Q v H'→CE outer P w H s Q u s':=
    fun {σ' H' v u} J rv q=>⟨v,H',J.os,J.bare,J.base,J.hok,rv,q⟩
  cases fl with
  | ret u=>
    obtain ⟨v,σ',H',J,rv,q⟩:=hs
    exact fin J rv q
  | next=>
    obtain ⟨σ',H',J,q⟩:=hs
    exact fin (v:=V.non) (u:=Value.none) J rfl q
  | brk=>
    obtain ⟨_,_,_,q⟩:=hs
    exact False.elim q
  | cont=>
    obtain ⟨_,_,_,q⟩:=hs
    exact False.elim q
end L2
namespace L2
open PySem PySem.Spec PyProof.Rows
section
variable{X:Cx}{x:Str}{p pos:Pos}{e:Expr}{es:List Expr}{t:TA}{id T:String}{r:List V→Hp→VK→Prop}
def tCB(r:List V→Hp→VK→Prop)(t:TA):TE:=fun σ H Q=>t σ H fun vs H1=>r vs H1 Q
theorem DU(hc:CallR X (.builtin id) r)(hg:Gl X x)(hm:X.mg x=none)(hv:bootBuiltins x=some (.builtin id))(ha:PA X (e::es) t)(hn:x≠"__name__":=by decide)(hdb:(x == ("__debug__":Str))=false:=by decide)
    (he:starEach (e::es) X.env=(false,eval e X.env)::starEach es X.env:=by rfl) (hpl:(backTo pos (starEach es X.env)).any (·.1)=false:=by rfl):PE X (.Call (.Name x p) (e::es) [] pos) (tCB r t):=by
  intro pins s σ H Q I h
  refine wpAny_Call_Name_kw (Bb I hg hm hv ?_ hn hdb)
  exact PyProof.Rows.callWith_builtin1 (thn (ha pos pins s σ H _ I h) fun us s1 ⟨vs,H1,I1,r1,q1⟩=>hc pins s1 σ H1 vs us Q I1 r1 q1) he hpl
theorem B4(hc:CallR X (.type T) r)(hg:Gl X x)(hm:X.mg x=none)(hv:bootBuiltins x=some (.type T))(ha:PA X (e::es) t)(hn:x≠"__name__":=by decide)(hdb:(x == ("__debug__":Str))=false:=by decide)
    (he:starEach (e::es) X.env=(false,eval e X.env)::starEach es X.env:=by rfl) (hpl:(backTo pos (starEach es X.env)).any (·.1)=false:=by rfl):PE X (.Call (.Name x p) (e::es) [] pos) (tCB r t):=by
  intro pins s σ H Q I h
  refine wpAny_Call_Name_kw (Bb I hg hm hv ?_ hn hdb)
  exact PyProof.Rows.callWith_type1 (thn (ha pos pins s σ H _ I h) fun us s1 ⟨vs,H1,I1,r1,q1⟩=>hc pins s1 σ H1 vs us Q I1 r1 q1) he hpl
end
end L2
namespace HT
open PySem PyProof.Rows
def lexLt:List Int→List Int→Bool
  | [],[]=>false
  | [],_::_=>true
  | _::_,[]=>false
  | x::xs,y::ys=>if x=y then lexLt xs ys else decide (x < y)
theorem lexLt_cons(x y:Int)(xs ys:List Int):lexLt (x::xs) (y::ys)=if x=y then lexLt xs ys else decide (x < y):=rfl
theorem Bq:lexLt [] []=false:=rfl
theorem lexLt_nil_cons(y:Int)(ys:List Int):lexLt [] (y::ys)=true:=rfl
theorem lexLt_cons_nil(x:Int)(xs:List Int):lexLt (x::xs) []=false:=rfl
theorem IE(A:Around)(s:Shared)(a:Int)(t:Tok)(c:Int)(u:Tok):∃ e,SeqAt.EqAt A s (.int a t) (.int c u) e∧(e=true↔a=c):=
  ⟨(a == c),SeqAt.EqAt.int_int a t c u,by simp⟩
theorem Jv(A:Around)(s:Shared)(a:Int)(t:Tok)(c:Int)(u:Tok)(prog:Program)(w:World)(E:Value→Shared→Prop)(Q:Value→Shared→Prop)(h:Q (.bool (decide (a < c))) s):
    wpAny (model prog w) A (richCompare .Lt (.int a t) (.int c u)) Q E s:=
  (PyProof.Rows.lt_int h:wpAny (model prog w) A (compareOp .Lt (.int a t) (.int c u)) Q E s)
section
open PySem.SeqAt
open PySem.AutoSeq1 (wpAny_loadPart')
open PySem.MeetsSeq PySem.MeetsSeq2 PySem.MeetsSeq3
theorem tuple_lt_ints(l b:Addr)(items items2:Array Value)(n n2:Nat)(dd dd2:Option Addr)(sl sl2:Array (Option Value))(ns ms:List Int)(hi:IntsAre items.toList ns)(hj:IntsAre items2.toList ms):
    Meets (Builtin.«tuple.__lt__» ⟨[.ref l,.ref b],[]⟩)
      (fun _ R s=>s.heap.get? l=some {cls:=.type "tuple",dict:=dd,data:=.seq items n,slots:=sl}∧s.heap.get? b=some {cls:=.type "tuple",dict:=dd2,data:=.seq items2 n2,slots:=sl2}∧
        R (.ok (.ret (.bool (lexLt ns ms)))) s):=
  .of_wp fun prog w A R s h=>by
    obtain ⟨hp,g,d,tk,os⟩:=s;obtain ⟨hl,hb,h⟩:=h
    have f2:=AutoSeq1.sub_tuple_tuple
    have z1:items.size=ns.length:=by rw [← hi.length];simp
    have z2:items2.size=ms.length:=by rw [← hj.length];simp
    wp_walk using wpAny_loadPart' hl,wpAny_loadPart' hb,wpAny_forIn_list _ (fun rest b s'=>b.1=none∧s'=⟨hp,g,d,tk,os⟩∧∃ (vs ws:List Value) (ns' ms':List Int),rest=vs.zip ws∧
      IntsAre vs ns'∧IntsAre ws ms'∧ns'.length+items2.size=ms'.length+items.size∧R (.ok (.ret (.bool (lexLt ns' ms')))) ⟨hp,g,d,tk,os⟩) _
    case turn=>
      rintro ⟨y,x⟩ rest b s' ⟨hb',rfl,vs,ws,ns',ms',hz,hvi,hwi,hlen,hR⟩
      cases hvi with
      | nil=>rw [List.zip_nil_left] at hz;cases hz
      | cons a t hvi'=>
        cases hwi with
        | nil=>rw [List.zip_nil_right] at hz;cases hz
        | cons c u hwi'=>
          rw [List.zip_cons_cons] at hz
          injection hz with hyx hrest
          injection hyx with hy hx
          subst hy hx
          rw [lexLt_cons] at hR
          simp only [List.length_cons] at hlen
          obtain ⟨e,he,hiff⟩:=IE A.in1 ⟨hp,g,d,tk,os⟩ a t c u
          refine wpAny_bind (he prog w _ _ ?_)
          cases e with
          | true=>
            rw [if_pos (hiff.mp rfl)] at hR
            wp_walk
            exact ⟨rfl,rfl,_,_,_,_,hrest,hvi',hwi',by omega,hR⟩
          | false=>
            rw [if_neg (fun q=>absurd (hiff.mpr q) Bool.false_ne_true)] at hR
            have hri:=Jv A.in1 ⟨hp,g,d,tk,os⟩ a t c u prog w
            wp_walk using hri
            exact ⟨_,rfl,by simpa using hR⟩
    case fin=>
      rintro ⟨b1,b2⟩ s' ⟨hb',rfl,vs,ws,ns',ms',hz,hvi,hwi,hlen,hR⟩
      simp only at hb'
      subst hb'
      have hv:lexLt ns' ms'=decide (items.size < items2.size):=by
        cases hvi with
        | nil=>
          cases hwi with
          | nil=>
            simp only [List.length_nil] at hlen
            rw [Bq]
            exact (decide_eq_false (by omega)).symm
          | cons c u hw=>
            simp only [List.length_nil,List.length_cons] at hlen
            rw [lexLt_nil_cons]
            exact (decide_eq_true (by omega)).symm
        | cons a t hv=>
          cases hwi with
          | nil=>
            simp only [List.length_nil,List.length_cons] at hlen
            rw [lexLt_cons_nil]
            exact (decide_eq_false (by omega)).symm
          | cons c u hw=>
            rw [List.zip_cons_cons] at hz
            cases hz
      rw [hv] at hR
      wp_walk
      exact ⟨_,rfl,by simpa [Builtin.Tuple.tupleCompareSizes] using hR⟩
    case h=>
      exact ⟨rfl,rfl,items.toList,items2.toList,ns,ms,rfl,hi,hj,by omega,h⟩
end
section
variable{prog:Program}{w:World}{A:Around}{E:Value→Shared→Prop}{s:Shared}
theorem lt_tupInts{l b:Addr}{items items2:Array Value}{ns ms:List Int}{Q:Value→Shared→Prop}(hl:IsTup s.heap l items)(hb:IsTup s.heap b items2)(hi:IntsAre items.toList ns)(hj:IntsAre items2.toList ms)
    (hu:A.units < cLine) (h:Q (.bool (lexLt ns ms)) s):wpAny (model prog w) A (compareOp .Lt (.ref l) (.ref b)) Q E s:=by
  obtain ⟨⟨cls,dd,data,sl⟩,ho,hc,n,hd⟩:=id hl
  obtain ⟨⟨cls2,dd2,data2,sl2⟩,ho2,hc2,n2,hd2⟩:=id hb
  simp only at hc hd hc2 hd2
  subst hc hd hc2 hd2
  exact richCompare_meets_room (op:=.Lt) ⟨_,ho,rfl⟩ ⟨_,ho2,rfl⟩ PySem.F.slot_tuple_lt PySem.F.entry_tuple_lt (PySem.F.args_tuple_lt_2 _ _) (tuple_lt_ints l b items items2 n n2 dd dd2 sl sl2 ns ms hi hj)
    ⟨ho,ho2,show Value.bool (lexLt ns ms)≠Value.notImplemented∧Q (.bool (lexLt ns ms)) s from ⟨(fun x=>nomatch x),h⟩⟩ hu
theorem cat_tup{t b:Addr}{vs ws:List Value}{Q:Value→Shared→Prop}(ht:IsTup s.heap t vs.toArray)(hb:IsTup s.heap b ws.toArray)(hv:vs≠[])
    (h1:ws=[]→Q (.ref t) s) (h2:ws≠[]→Q (.ref s.heap.objs.size) {s with heap:=s.heap.push {cls:=.type "tuple",data:=.seq (vs++ws).toArray}})
    (hsz:vs.length+ws.length≤sizeLine):wpAny (model prog w) A (binaryOp .Add (.ref t) (.ref b)) Q E s:=by
  obtain ⟨⟨cls,dd,data,sl⟩,ho,hc,n,hd⟩:=id ht
  obtain ⟨⟨cls2,dd2,data2,sl2⟩,ho2,hc2,n2,hd2⟩:=id hb
  simp only at hc hd hc2 hd2
  subst hc hd hc2 hd2
  have e:vs.toArray++ws.toArray=(vs++ws).toArray:=by simp
  by_cases hw:ws=[]
  · exact concat_meets ⟨_,ho,rfl⟩ ⟨_,ho2,rfl⟩ noFill_tuple_add seq_tuple_add PySem.F.slot_tuple_add PySem.F.entry_tuple_add (PySem.F.args_tuple_add_2 _ _)
      (tuple_addW1 t b vs.toArray ws.toArray n n2 dd dd2 sl sl2 (by simpa using hv) (by simp [hw])) ⟨ho,ho2,h1 hw⟩
  · refine concat_meets ⟨_,ho,rfl⟩ ⟨_,ho2,rfl⟩ noFill_tuple_add seq_tuple_add PySem.F.slot_tuple_add PySem.F.entry_tuple_add (PySem.F.args_tuple_add_2 _ _)
      (tuple_addW2 t b vs.toArray ws.toArray n n2 dd dd2 sl sl2 (by simpa using hv) (by simpa using hw) (by rw [List.size_toArray,List.size_toArray];exact hsz)) ⟨ho,ho2,?_⟩
    rw [e]
    exact h2 hw
def sIx(n d:Nat):Option Int→Nat
  | none=>d
  | some v=>if v < 0 then (v+(n:Int)).toNat else min v.toNat n
theorem Og(n d:Nat)(hd:d≤n)(o:Option Int):sIx n d o≤n:=by
  cases o with
  | none=>exact hd
  | some v=>
    show (if v < 0 then (v+(n:Int)).toNat else min v.toNat n)≤n
    by_cases hv:v < 0
    · rw [if_pos hv];omega
    · rw [if_neg hv];exact Nat.min_le_right _ _
theorem clip_eq(v:Int)(n d:Nat):(if v < 0 then max (v+(n:Int)) 0 else min v (n:Int))=((sIx n d (some v):Nat):Int):=by
  show (if v < 0 then max (v+(n:Int)) 0 else min v (n:Int))=(((if v < 0 then (v+(n:Int)).toNat else min v.toNat n):Nat):Int)
  by_cases hv:v < 0
  · simp only [if_pos hv];omega
  · simp only [if_neg hv];omega
theorem Gc(lo hi:Option Int)(n:Nat):Builtin.Slice.sliceAdjust lo hi 1 (n:Int)=(((sIx n 0 lo:Nat):Int),((sIx n n hi:Nat):Int)):=by
  have h1:¬ ((1:Int) < 0):=by omega
  unfold Builtin.Slice.sliceAdjust
  simp only [h1,if_false]
  refine Prod.ext ?_ ?_
  · cases lo with
    | none=>rfl
    | some v=>exact clip_eq v n 0
  · cases hi with
    | none=>rfl
    | some v=>exact clip_eq v n n
theorem Fu(i j:Nat):Builtin.Slice.slicePlaces (i:Int) (j:Int) 1=j - i:=by
  unfold Builtin.Slice.slicePlaces
  have h1:(1:Int) > 0:=by omega
  simp only [h1,if_true,Int.ediv_one]
  split<;>omega
theorem AT{v:Value}{o:Option Int}{Q:Option Int→Shared→Prop}(p:IsPart v o)(h:Q o s):wpAny (model prog w) A (Builtin.Slice.slicePartIndex v) Q E s:=by
  cases p with
  | none=>exact slicePart_none h
  | int i t=>exact slicePart_int h
theorem sliceApplied_gen{sl:Addr}{vl vu:Value}{lo hi:Option Int}{n:Nat}{Q:Int×Int×Nat→Shared→Prop}(hs:s.heap.IsSliceOf sl vl vu .none)(pl:IsPart vl lo)(pu:IsPart vu hi)
    (h:Q (((sIx n 0 lo:Nat):Int),1,sIx n n hi - sIx n 0 lo) s):wpAny (model prog w) A (Builtin.Slice.sliceApplied (.ref sl) (pure (n:Int))) Q E s:=by
  obtain ⟨os,hos,hcs,hds⟩:=id hs
  unfold Builtin.Slice.sliceApplied Builtin.Slice.sliceFields
  refine wpAny_bind (wpAny_bind (wpAny_field hos hds (x:=vl) rfl (wpAny_bind (wpAny_field hos hds (x:=vu) rfl (wpAny_bind (wpAny_field hos hds (x:=.none) rfl (wpAny_pure ?_)))))))
  refine wpAny_bind (slicePart_none ?_)
  show wpAny _ _ (if ((1:Int) == 0)=true then _ else _) _ _ s
  rw [if_neg (by decide)]
  refine wpAny_bind (AT pl (wpAny_bind (AT pu (wpAny_bind (wpAny_pure ?_)))))
  show wpAny _ _ (match Builtin.Slice.sliceAdjust lo hi 1 (n:Int) with | (lo,hi)=>pure (lo,(1:Int),Builtin.Slice.slicePlaces lo hi 1)) _ _ s
  rw [Gc lo hi n]
  show wpAny _ _ (pure (((sIx n 0 lo:Nat):Int),(1:Int),Builtin.Slice.slicePlaces ((sIx n 0 lo:Nat):Int) ((sIx n n hi:Nat):Int) 1)) _ _ s
  rw [Fu]
  exact wpAny_pure h
theorem IN(xs:Array Value)(i k:Nat):((List.range k).filterMap fun (m:Nat)=>xs[((i:Int)+(m:Int) * 1).toNat]?).toArray=((xs.toList.drop i).take k).toArray:=by
  have e:(fun (m:Nat)=>xs[((i:Int)+(m:Int) * 1).toNat]?)=fun m=>xs[i+m]?:=by
    funext m
    have:((i:Int)+(m:Int) * 1).toNat=i+m:=by omega
    rw [this]
  rw [e]
  have:=pick_run xs i k
  rw [List.filterMap_map] at this
  have e2:((fun x=>xs[x]?)∘fun x=>i+x)=fun m=>xs[i+m]?:=rfl
  rw [e2] at this
  rw [this]
theorem getItem_tuple_cut{t sl:Addr}{items:Array Value}{vl vu:Value}{lo hi:Option Int}{Q:Value→Shared→Prop}(ht:IsTup s.heap t items)(hs:s.heap.IsSliceOf sl vl vu .none)(pl:IsPart vl lo)(pu:IsPart vu hi)
    (hw:¬ (sIx items.size 0 lo=0∧sIx items.size items.size hi=items.size))
    (h:Q (.ref s.heap.objs.size) {s with heap:=s.heap.push {cls:=.type "tuple",data:=.seq ((items.toList.drop (sIx items.size 0 lo)).take (sIx items.size items.size hi - sIx items.size 0 lo)).toArray}})
    (hsz:items.size≤sizeLine):wpAny (model prog w) A (getItem (.ref t) (.ref sl)) Q E s:=by
  have htake:sizeOk (.seq ((items.toList.drop (sIx items.size 0 lo)).take (sIx items.size items.size hi - sIx items.size 0 lo)).toArray):=by
    show ((items.toList.drop (sIx items.size 0 lo)).take (sIx items.size items.size hi - sIx items.size 0 lo)).toArray.size≤sizeLine
    rw [List.size_toArray,List.length_take,List.length_drop,Array.length_toList]
    omega
  have hj:sIx items.size items.size hi≤items.size:=Og _ _ (Nat.le_refl _) hi
  obtain ⟨os,hos,hcs,hds⟩:=id hs
  have hTs:s.TypeIs (.ref sl) "slice":=⟨os,hos,hcs⟩
  unfold getItem
  try with_reducible refine wpAny_holding ?_
  first | refine wpAny_bind (wpAny_pure ?_) | skip
  refine wpAny_bind (wpAny_sequenceKey ht.typeIs (by decide) ?_)
  refine wpAny_bind (wpAny_callSpecial?_slot (name:=Str.ofString "__getitem__") ht.typeIs PyProof.Rows.slot_tuple_getitem
    (wpAny_call_entry PyProof.Rows.slot_tuple_getitem ht.typeIs entry_tuple_getitem ?_ (args_tuple_getitem _ _)))
  show wpAny _ _ (Builtin.Tuple.tupleItemsOf (.ref t) >>= _) _ _ s
  refine wpAny_bind (tupleItemsOf_ ht ?_)
  refine wpAny_bind (wpAny_typeOf hTs ?_)
  rw [if_pos (by decide)]
  refine wpAny_bind (sliceApplied_gen hs pl pu ?_)
  have hno:¬ ((((sIx items.size 0 lo:Nat):Int) == 0 && (1:Int) == 1 && (sIx items.size items.size hi - sIx items.size 0 lo) == items.size)=true):=by
    intro q
    rw [Bool.and_eq_true,Bool.and_eq_true] at q
    have q1:((sIx items.size 0 lo:Nat):Int)=0:=eq_of_beq q.1.1
    have q2:sIx items.size items.size hi - sIx items.size 0 lo=items.size:=eq_of_beq q.2
    exact hw ⟨by omega,by omega⟩
  show wpAny _ _ (if (((sIx items.size 0 lo:Nat):Int) == 0 && (1:Int) == 1 && (sIx items.size items.size hi - sIx items.size 0 lo) == items.size)=true then _ else _) _ _ s
  rw [if_neg hno,IN]
  first
    | exact wpAny_bind (m:=Builtin.Tuple.tupleExact _) (wpAny_newObj_type (wpAny_pure ⟨_,rfl,wpAny_pure h⟩) htake)
    | exact wpAny_bind (m:=Builtin.Tuple.tupleExact _) (wpAny_newObj_type (wpAny_bind (wpAny_pure (wpAny_pure ⟨_,rfl,wpAny_pure h⟩))) htake)
    | exact wpAny_bind (wpAny_bind (m:=Builtin.Tuple.tupleExact _) (wpAny_newObj_type (wpAny_pure (wpAny_pure ⟨_,rfl,wpAny_pure h⟩)) htake))
    | exact wpAny_bind (wpAny_bind (m:=Builtin.Tuple.tupleExact _) (wpAny_newObj_type (wpAny_pure ⟨_,rfl,wpAny_pure h⟩) htake))
end
end HT
namespace L2
open PySem PySem.Spec PyProof.Rows
abbrev TO:=St→Hp→(Option Int→Hp→Prop)→Prop
def PO(X:Cx)(e:Option Expr)(t:TO):Prop:=
  ∀ (pins:List (Addr×Obj)) (s:Shared) (σ:St) (H:Hp) (Q:Option Int→Hp→Prop),Inv X pins σ H s→t σ H Q→
    wpAny (model X.prog X.w) X.A (evalPart e X.env) (fun u s'=>∃ o H',Inv X pins σ H' s'∧IsPart u o∧Q o H') X.xe s
def tNoPart:TO:=fun _ H Q=>Q none H
def Ou(t:TE):TO:=fun σ H Q=>t σ H fun x H1=>∃ i,x= .int i∧Q (some i) H1
theorem Am{ns:List Int}:∀ {us:List Value},Vals (ns.map V.int) us→IntsAre us ns:=by
  induction ns with
  | nil=>intro us r;rw [List.map_nil] at r;cases r;exact .nil
  | cons n ns ih=>
    intro us r
    rw [List.map_cons] at r
    cases r with
    | cons r1 r2=>
      obtain ⟨t,e⟩:=r1
      subst e
      exact .cons n t (ih r2)
section
variable{X:Cx}{e:Expr}{te:TE}{lo hi:Option Expr}{tl th:TO}{pos p2:Pos}
theorem L1:PO X none tNoPart:=by
  intro pins s σ H Q I h
  rw [evalPart_none]
  exact wpAny_pure ⟨none,H,I,.none,h⟩
theorem K8(h:PE X e te):PO X (some e) (Ou te):=by
  intro pins s σ H Q I hw
  rw [evalPart_some]
  refine thn (h pins s σ H _ I hw) fun u s1 ⟨x,H1,I1,r1,q1⟩=>?_
  obtain ⟨i,rfl,q⟩:=q1
  obtain ⟨t,rfl⟩:=r1
  exact ⟨some i,H1,I1,.int i t,q⟩
def SlR(X:Cx)(r:V→Option Int→Option Int→Hp→VK→Prop):Prop:=
  ∀ (pins:List (Addr×Obj)) (s:Shared) (σ:St) (H:Hp) (x:V) (v vl vu:Value) (lo hi:Option Int) (sl:Addr) (Q:VK),Inv X pins σ H s→RelV x v→s.heap.IsSliceOf sl vl vu .none→IsPart vl lo→IsPart vu hi→r x lo hi H Q→
    ∃ T id,typeLookup (.type T) "__getitem__" =pure (some (.builtin id))∧s.TypeIs v T∧wpAny (model X.prog X.w) X.A (getItem v (.ref sl)) (EP X pins σ Q) X.xe s
theorem SlR.or{r r':V→Option Int→Option Int→Hp→VK→Prop}(h:SlR X r)(h':SlR X r'):SlR X (fun x lo hi H Q=>r x lo hi H Q∨r' x lo hi H Q):=by
  intro pins s σ H x v vl vu lo hi sl Q I rx hs pl pu q
  rcases q with q | q
  · exact h pins s σ H x v vl vu lo hi sl Q I rx hs pl pu q
  · exact h' pins s σ H x v vl vu lo hi sl Q I rx hs pl pu q
def tSl(r:V→Option Int→Option Int→Hp→VK→Prop)(te:TE)(tl th:TO):TE:=fun σ H Q=>te σ H fun x H1=>tl σ H1 fun l H2=>th σ H2 fun u H3=>r x l u H3 Q
theorem J5{r:V→Option Int→Option Int→Hp→VK→Prop}(hr:SlR X r)(he:PE X e te)(hl:PO X lo tl)(hu:PO X hi th):PE X (.Subscript e (.Slice lo hi none p2) pos) (tSl r te tl th):=by
  intro pins s σ H Q I h
  refine Subscript_ (thn (he pins s σ H _ I h) fun v s1 ⟨x,H1,I1,r1,q1⟩=>?_)
  refine wpAny_Slice (thn (hl pins s1 σ H1 _ I1 q1) fun vl s2 ⟨l,H2,I2,pl,q2⟩=>thn (hu pins s2 σ H2 _ I2 q2) fun vu s3 ⟨u,H3,I3,pu,q3⟩=>?_)
  rw [evalPart_none]
  refine wpAny_pure ?_
  have I4:Inv X pins σ H3 {s3 with heap:=s3.heap.push {cls:=.type "slice",data:=.fields #[vl,vu,.none]}}:=I3.kept (t':=s3.toks) fun b ob q=>Heap.get?_push_of_some _ q
  obtain ⟨T,id,hT,ht,hg⟩:=hr pins {s3 with heap:=s3.heap.push {cls:=.type "slice",data:=.fields #[vl,vu,.none]}} σ H3 x v vl vu l u s3.heap.objs.size Q I4 r1 (Heap.IsSliceOf.new ..) pl pu q3
  show wpAny (model X.prog X.w) X.A (subscriptTail e (.Slice lo hi none p2) v (.ref s3.heap.objs.size)) (EP X pins σ Q) X.xe {s3 with heap:=s3.heap.push {cls:=.type "slice",data:=.fields #[vl,vu,.none]}}
  exact tail_any (ops:=[.ref s3.heap.objs.size,v]) ht hT hg (by with_unfolding_all rfl)
def Cv(xs:List V)(lo hi:Option Int):List V:=(xs.drop (HT.sIx xs.length 0 lo)).take (HT.sIx xs.length xs.length hi - HT.sIx xs.length 0 lo)
theorem p0(xs:List V)(lo hi:Option Int):(Cv xs lo hi).length≤xs.length:=by
  unfold Cv
  rw [List.length_take,List.length_drop]
  omega
def Pl(K:PySem.W.Frag):V→Option Int→Option Int→Hp→VK→Prop:=fun x lo hi H Q=>∃ a xs,x= .ref a∧SqT K H a xs∧
  ¬ (HT.sIx xs.length 0 lo=0∧HT.sIx xs.length xs.length hi=xs.length)∧∀ p,H p=none→Q (.ref p) (upd H p (.tup (Cv xs lo hi)))
theorem sl_tup:SlR X (Pl X.K):=by
  intro pins s σ H x v vl vu lo hi sl Q I rx hs pl pu h
  obtain ⟨a,xs,rfl,hx,hw,q⟩:=h
  cases rx
  obtain ⟨its,r,ht,hz⟩:=I.tuple hx
  have hlen:its.toArray.size=xs.length:=by rw [List.size_toArray];exact r.length.symm
  refine ⟨"tuple",_,PyProof.Rows.slot_tuple_getitem.lookup,ht.typeIs,?_⟩
  refine HT.getItem_tuple_cut ht hs pl pu (by rw [hlen];exact hw) ?_ (by rw [hlen];exact hz)
  rw [hlen]
  refine ⟨.ref s.heap.objs.size,_,I.laid (t':=s.toks) (o:=.tup (Cv xs lo hi)) (fun b ob q=>Heap.get?_push_of_some _ q) (Nat.le_refl _) ?_,rfl,q _ (I.hok.fresh (Nat.le_refl _))⟩
  exact ⟨⟨Nat.le_trans (p0 xs lo hi) hz,sh (Heap.get?_push_size _ rfl) rfl⟩,_,(r.drop (HT.sIx xs.length 0 lo)).take (HT.sIx xs.length xs.length hi - HT.sIx xs.length 0 lo),IsTup.new _ _⟩
def MB(K:PySem.W.Frag):R2:=fun x y H Q=>∃ a b xs ys,x= .ref a∧y= .ref b∧SqT K H a xs∧SqT K H b ys∧xs≠[]∧xs.length+ys.length≤sizeLine∧
  (ys=[]→Q (.ref a) H)∧(ys≠[]→∀ p,H p=none→Q (.ref p) (upd H p (.tup (xs++ys))))
theorem Vals.nil_iff{xs:List V}{us:List Value}(r:Vals xs us):us=[]↔xs=[]:=by
  cases r with
  | nil=>simp
  | cons _ _=>simp
theorem op_catT:OpR X (binaryOp .Add) (MB X.K):=by
  intro pins s σ H x y v u Q I rx ry h
  obtain ⟨a,b,xs,ys,rfl,rfl,ha,hb,hx,hz,q1,q2⟩:=h
  cases rx
  cases ry
  obtain ⟨its,r1,p1,_⟩:=I.tuple ha
  obtain ⟨its2,r2,p2,_⟩:=I.tuple hb
  refine HT.cat_tup p1 p2 (fun z=>hx (r1.nil_iff.mp z)) (fun z=>⟨.ref a,H,I,rfl,q1 (r2.nil_iff.mp z)⟩) (fun z=>?_) (by rw [← r1.length,← r2.length];exact hz)
  refine ⟨.ref s.heap.objs.size,_,I.laid (t':=s.toks) (o:=.tup (xs++ys)) (fun b ob q=>Heap.get?_push_of_some _ q) (Nat.le_refl _) ?_,rfl,q2 (fun w=>z (r2.nil_iff.mpr w)) _ (I.hok.fresh (Nat.le_refl _))⟩
  exact ⟨⟨by rw [List.length_append];exact hz,sh (Heap.get?_push_size _ rfl) rfl⟩,_,r1.append r2,IsTup.new _ _⟩
end
end L2
namespace L2
open PySem PySem.Spec PyProof.Rows
def ixN(n:Nat)(i:Int):Option Nat:=if 0≤i then (if i < n then some i.toNat else none) else if -(n:Int)≤i then some (i+n).toNat else none
def atI{α:Type}(xs:List α)(i:Int):Option α:=(ixN xs.length i).bind fun j=>xs[j]?
theorem K7{n:Nat}{i:Int}{j:Nat}(h:ixN n i=some j):seqIndex? i n=some j∧j < n∧-(n:Int)≤i∧i < n:=by
  unfold ixN at h
  by_cases h0:0≤i
  · rw [if_pos h0] at h
    by_cases h1:i < n
    · rw [if_pos h1] at h
      have e:i.toNat=j:=Option.some.inj h
      exact ⟨by rw [seqIndex_of h0 h1,e],by omega,by omega,h1⟩
    · rw [if_neg h1] at h;cases h
  · rw [if_neg h0] at h
    by_cases h1:-(n:Int)≤i
    · rw [if_pos h1] at h
      have e:(i+n).toNat=j:=Option.some.inj h
      exact ⟨by rw [seqIndex_neg (by omega) h1,e],by omega,h1,by omega⟩
    · rw [if_neg h1] at h;cases h
theorem CS{α:Type}{xs:List α}{i:Int}{v:α}(h:atI xs i=some v):∃ j,seqIndex? i xs.length=some j∧xs[j]? =some v∧j < xs.length∧-(xs.length:Int)≤i∧i < xs.length:=by
  unfold atI at h
  cases e:ixN xs.length i with
  | none=>rw [e] at h;cases h
  | some j=>
    rw [e] at h
    obtain ⟨h1,h2,h3,h4⟩:=K7 e
    exact ⟨j,h1,h,h2,h3,h4⟩
def CC(b:Expr):Prop:=∀ o i,subscripted b false o i=operate [o,i] (getItem o i)
def IxR(X:Cx)(r:R2):Prop:=
  ∀ (value slice:Expr) (pins:List (Addr×Obj)) (s:Shared) (σ:St) (H:Hp) (x y:V) (v u:Value) (Q:VK),Inv X pins σ H s→RelV x v→RelV y u→r x y H Q→
    subscripted slice false v u=operate [v,u] (getItem v u)→wpAny (model X.prog X.w) X.A (subscriptTail value slice v u) (EP X pins σ Q) X.xe s
def MtR(X:Cx)(id:String)(r:V→List V→Hp→VK→Prop):Prop:=
  ∀ (pins:List (Addr×Obj)) (s:Shared) (σ:St) (H:Hp) (x:V) (xs:List V) (v:Value) (us:List Value) (Q:VK),Inv X pins σ H s→RelV x v→Vals xs us→r x xs H Q→
    wpAny (model X.prog X.w) X.A (call (.builtin id) (v::us)) (EP X pins σ Q) X.xe s
section
variable{X:Cx}{a b:Expr}{ta tb:TE}{pos:Pos}
theorem IxR.or{r r':R2}(h:IxR X r)(h':IxR X r'):IxR X (fun x y H Q=>r x y H Q∨r' x y H Q):=by
  intro value slice pins s σ H x y v u Q I rx ry q hs
  rcases q with q | q
  · exact h value slice pins s σ H x y v u Q I rx ry q hs
  · exact h' value slice pins s σ H x y v u Q I rx ry q hs
theorem M0{r:R2}(hr:IxR X r)(ha:PE X a ta)(hb:PE X b tb)(hs:CC b):PE X (.Subscript a b pos) (tOp r ta tb):=by
  intro pins s σ H Q I h
  exact Subscript_ (Ob ha hb I h fun v u s2 x y H2 I2 rx ry q=>hr a b pins s2 σ H2 x y v u Q I2 rx ry q (hs _ _))
def Pc(K:PySem.W.Frag):R2:=fun x y H Q=>∃ p xs i v,x= .ref p∧y= .int i∧SqL K H p xs∧atI xs i=some v∧Q v H
def OH(K:PySem.W.Frag):R2:=fun x y H Q=>∃ p xs i v,x= .ref p∧y= .int i∧SqT K H p xs∧atI xs i=some v∧Q v H
def rIxS:R2:=fun x y H Q=>∃ z i c,x= .str z∧y= .int i∧z.length≤sizeLine∧atI z.cps.toList i=some c∧Q (.str ⟨#[c]⟩) H
theorem ix_list:IxR X (Pc X.K):=by
  intro value slice pins s σ H x y v u Q I rx ry h hs
  obtain ⟨p,xs,i,z,rfl,rfl,hq,he,q⟩:=h
  cases rx
  obtain ⟨t,rfl⟩:=ry
  obtain ⟨its,r,pl,hz⟩:=I.list hq
  obtain ⟨j,h1,h2,h3,h4,h5⟩:=CS he
  obtain ⟨w,ew,rw'⟩:=r.get h2
  have hl:=r.length
  have hn:=A1
  have fin:EP X pins σ Q w s:=⟨z,H,I,rw',q⟩
  by_cases h0:0≤i
  · have hj:i.toNat=j:=by
      rw [seqIndex_of h0 h5] at h1
      exact Option.some.inj h1
    exact item_listR pl.isList h0 (by omega) (by rw [hj];simpa using ew) fin hs
  · have hj:(i+(its.toArray.size:Int)).toNat=j:=by
      rw [seqIndex_neg (by omega) h4] at h1
      rw [List.size_toArray,← hl]
      exact Option.some.inj h1
    exact subscriptTail_builtinR (x:=w) pl.isList.typeIs slot_list_getitem.lookup
      (wpAny_getItem_list_neg (Q:=fun r s'=>r=w∧EP X pins σ Q r s') pl.isList (by omega) (by rw [List.size_toArray]<;>omega) (by omega) (by rw [hj];simpa using ew) ⟨rfl,fin⟩) hs
theorem ix_tup:IxR X (OH X.K):=by
  intro value slice pins s σ H x y v u Q I rx ry h hs
  obtain ⟨p,xs,i,z,rfl,rfl,hq,he,q⟩:=h
  cases rx
  obtain ⟨t,rfl⟩:=ry
  obtain ⟨its,r,pl,hz⟩:=I.tuple hq
  obtain ⟨j,h1,h2,h3,h4,h5⟩:=CS he
  obtain ⟨w,ew,rw'⟩:=r.get h2
  have hl:=r.length
  have hn:=A1
  have fin:EP X pins σ Q w s:=⟨z,H,I,rw',q⟩
  exact subscriptTail_builtinR (x:=w) pl.typeIs slot_tuple_getitem.lookup
    (getItem_tuple (j:=j) (Q:=fun r s'=>r=w∧EP X pins σ Q r s') pl (by omega) (by omega) (by rw [List.size_toArray,← hl];exact h1) (by simpa using ew) ⟨rfl,fin⟩) hs
theorem N1:IxR X rIxS:=by
  intro value slice pins s σ H x y v u Q I rx ry h hs
  obtain ⟨z,i,c,rfl,rfl,hz,he,q⟩:=h
  obtain ⟨t,rfl⟩:=rx
  obtain ⟨t',rfl⟩:=ry
  obtain ⟨j,h1,h2,h3,h4,h5⟩:=CS he
  have hl:z.cps.toList.length=z.length:=by simp [Str.length]
  rw [hl] at h1 h4 h5
  have hn:=A1
  exact tail_any (typeIs_str s z t) slot_str_getitem.lookup (getItem_str (c:=c) (by
    have e1:decide (i < -(2 ^ 63:Int))=false:=decide_eq_false (by omega)
    have e2:decide (i≥2 ^ 63)=false:=decide_eq_false (by omega)
    rw [e1,e2,Bool.or_false]) (by rw [h1];simpa using h2) ⟨.str ⟨#[c]⟩,H,I.tok _,⟨_,rfl⟩,q⟩) hs
def rIx(K:PySem.W.Frag):R2:=fun x y H Q=>Pc K x y H Q∨OH K x y H Q∨rIxS x y H Q
theorem IC:IxR X (rIx X.K):=ix_list.or (ix_tup.or N1)
theorem Cy(lo hi:Option Int)(n:Nat):(sliceBounds lo hi none n).1=((HT.sIx n 0 lo:Nat):Int)∧(sliceBounds lo hi none n).2.1=((HT.sIx n n hi:Nat):Int)∧(sliceBounds lo hi none n).2.2=1:=by
  refine ⟨?_,?_,rfl⟩
  · cases lo with
    | none=>simp [sliceBounds,HT.sIx]
    | some i=>
      simp only [sliceBounds,HT.sIx,Option.getD_none,show (1:Int) > 0 by decide,if_true]
      by_cases h:i < 0
      · simp only [h,if_true]<;>omega
      · simp only [h,if_false]<;>omega
  · cases hi with
    | none=>simp [sliceBounds,HT.sIx]
    | some i=>
      simp only [sliceBounds,HT.sIx,Option.getD_none,show (1:Int) > 0 by decide,if_true]
      by_cases h:i < 0
      · simp only [h,if_true]<;>omega
      · simp only [h,if_false]<;>omega
theorem Br(its:List Value)(lo hi:Option Int):slicePick its.toArray lo hi none=((its.drop (HT.sIx its.length 0 lo)).take (HT.sIx its.length its.length hi - HT.sIx its.length 0 lo)).toArray:=by
  obtain ⟨h1,h2,h3⟩:=Cy lo hi its.toArray.size
  unfold slicePick
  rw [h1,h2,h3]
  simp only [sliceRange_one,pick_run,List.size_toArray]<;>rfl
def Po(K:PySem.W.Frag):V→Option Int→Option Int→Hp→VK→Prop:=fun x lo hi H Q=>∃ a xs,x= .ref a∧SqL K H a xs∧∀ p,H p=none→Q (.ref p) (upd H p (.lst (Cv xs lo hi)))
theorem LB:SlR X (Po X.K):=by
  intro pins s σ H x v vl vu lo hi sl Q I rx hs pl pu h
  obtain ⟨a,xs,rfl,hx,q⟩:=h
  cases rx
  obtain ⟨its,r,ht,hz⟩:=I.list hx
  have hlen:=r.length
  refine ⟨"list",_,slot_list_getitem.lookup,ht.isList.typeIs,?_⟩
  refine wpAny_getItem_list_slice ht.isList hs pl pu .none (by simp) ?_ (by rw [List.size_toArray]<;>omega)
  rw [Br,← hlen]
  refine ⟨.ref s.heap.objs.size,_,I.laid (t':=s.toks) (o:=.lst (Cv xs lo hi)) (fun b ob q=>Heap.get?_push_of_some _ q) (Nat.le_refl _) ?_,rfl,q _ (I.hok.fresh (Nat.le_refl _))⟩
  exact ⟨Nat.le_trans (p0 xs lo hi) hz,_,0,(r.drop (HT.sIx xs.length 0 lo)).take (HT.sIx xs.length xs.length hi - HT.sIx xs.length 0 lo),Heap.get?_push_size _ rfl⟩
theorem call_len_seq:CallR X (.builtin "len") (fun xs H Q=>∃ p ys,xs=[.ref p]∧(SqL X.K H p ys∨SqT X.K H p ys)∧Q (.int ys.length) H):=by
  intro pins s σ H xs us Q I r h
  obtain ⟨p,ys,rfl,hq,q⟩:=h
  obtain ⟨u,rfl,rx⟩:=rg r
  cases rx
  have hn:=A1
  rcases hq with hq | hq
  · obtain ⟨its,r',pl,hz⟩:=I.list hq
    have hlen:=r'.length
    exact Calls.call_len_list pl.isList (by simp only [List.size_toArray]<;>omega) ⟨.int ys.length,H,I.tok _,⟨s.toks+1,by rw [List.size_toArray,hlen]⟩,q⟩
  · obtain ⟨its,r',pl,hz⟩:=I.tuple hq
    have hlen:=r'.length
    exact len_tuple pl (by simp only [List.size_toArray]<;>omega) ⟨.int ys.length,H,I.tok _,⟨s.toks+1,by rw [List.size_toArray,hlen]⟩,q⟩
theorem CT:CallR X (.builtin "len") (fun xs H Q=>∃ z,xs=[.str z]∧z.length≤sizeLine∧Q (.int z.length) H):=by
  intro pins s σ H xs us Q I r h
  obtain ⟨z,rfl,hz,q⟩:=h
  obtain ⟨u,rfl,t,rfl⟩:=rg r
  have hn:=A1
  exact len_str (by omega) ⟨.int z.length,H,I.tok _,⟨_,rfl⟩,q⟩
theorem CallR.or{f:Value}{r r':List V→Hp→VK→Prop}(h:CallR X f r)(h':CallR X f r'):CallR X f (fun xs H Q=>r xs H Q∨r' xs H Q):=by
  intro pins s σ H xs us Q I rs q
  rcases q with q | q
  · exact h pins s σ H xs us Q I rs q
  · exact h' pins s σ H xs us Q I rs q
theorem CD:CallR X (.type "list") (fun xs H Q=>∃ p ys,xs=[.ref p]∧(SqL X.K H p ys∨SqT X.K H p ys)∧∀ l,H l=none→Q (.ref l) (upd H l (.lst ys))):=by
  intro pins s σ H xs us Q I r h
  obtain ⟨p,ys,rfl,hq,q⟩:=h
  obtain ⟨u,rfl,rx⟩:=rg r
  cases rx
  have fin:∀ (its:List Value),Vals ys its→ys.length≤sizeLine→∀ (h':Heap) (c':Nat),(∀ b o',s.heap.get? b=some o'→h'.get? b=some o')→
      h'.get? s.heap.objs.size=some {cls:=.type "list",dict:=none,data:=.seq its.toArray c',slots:=#[]}→EP X pins σ Q (.ref s.heap.objs.size) {s with heap:=h'}:=fun its r' hz h' c' kp e=>
    ⟨.ref s.heap.objs.size,_,I.laid (t':=s.toks) kp (Nat.le_refl _) (show ObjOk X.prog X.w _ h' _ (.lst ys) from ⟨hz,its,c',r',e⟩),rfl,q _ (I.hok.fresh (Nat.le_refl _))⟩
  rcases hq with hq | hq
  · obtain ⟨its,r',pl,hz⟩:=I.list hq
    have hlen:=r'.length
    obtain ⟨o,ho,hc,n,hd⟩:=pl.isList
    exact call_list_seq p (.inl rfl) ho hc hd (fun h' c' kp e=>fin its r' hz h' c' kp e) (by simp only [List.size_toArray]<;>omega)
  · obtain ⟨its,r',pl,hz⟩:=I.tuple hq
    have hlen:=r'.length
    obtain ⟨o,ho,hc,n,hd⟩:=pl
    exact call_list_seq p (.inr rfl) ho hc hd (fun h' c' kp e=>fin its r' hz h' c' kp e) (by simp only [List.size_toArray]<;>omega)
theorem iq:CallR X (.type "tuple") (fun xs H Q=>∃ p ys,xs=[.ref p]∧((SqL X.K H p ys∧∀ l,H l=none→Q (.ref l) (upd H l (.tup ys)))∨(SqT X.K H p ys∧Q (.ref p) H))):=by
  intro pins s σ H xs us Q I r h
  obtain ⟨p,ys,rfl,h⟩:=h
  obtain ⟨u,rfl,rx⟩:=rg r
  cases rx
  rcases h with ⟨hq,q⟩ | ⟨hq,q⟩
  · obtain ⟨its,r',pl,hz⟩:=I.list hq
    have hlen:=r'.length
    refine call_tuple_list pl.isList (fun h' kp=>?_) (by simp only [List.size_toArray]<;>omega)
    have I1:Inv X pins σ H {s with heap:=h'}:=I.kept (t':=s.toks) kp
    have I2:Inv X pins σ (upd H h'.objs.size (.tup ys)) {s with heap:=h'.push {cls:=.type "tuple",data:=.seq its.toArray}}:=
      I1.laid (t':=s.toks) (fun b o e=>Heap.get?_push_of_some _ e) (Nat.le_refl _) (show ObjOk X.prog X.w _ _ _ (.tup ys) from ⟨⟨hz,sh (Heap.get?_push_size _ rfl) rfl⟩,its,r',IsTup.new _ _⟩)
    exact ⟨.ref h'.objs.size,_,I2,rfl,q _ (I1.hok.fresh (Nat.le_refl _))⟩
  · obtain ⟨its,r',pl,hz⟩:=I.tuple hq
    exact call_tuple_same pl ⟨.ref p,H,I,rfl,q⟩
def tyV(K:PySem.W.Frag)(T:String)(x:V)(H:Hp):Prop:=match x with
  | .str _=>T= "str"
  | .int _=>T= "int"
  | .ref p=>(T= "list"∧∃ xs,SqL K H p xs)∨(T= "tuple"∧∃ o,K.lookup p=some o∧o.cls= .type "tuple"∧o.dict=none)∨
      (T= "dict"∧((∃ kvs,H p=some (.dK kvs))∨∃ kvs ep,H p=some (.dT kvs ep)))∨(T= "set"∧∃ S n,H p=some (.set S n))
  | _=>False
theorem JC{pins:List (Addr×Obj)}{σ:St}{H:Hp}{s:Shared}{T:String}{x:V}{v:Value}(I:Inv X pins σ H s)(r:RelV x v)(ty:tyV X.K T x H):
    s.TypeIs v T∧∀ a,v= .ref a→∃ ob,s.heap.get? a=some ob∧ob.dict=none:=by
  cases x with
  | str z=>
    obtain ⟨t,rfl⟩:=r
    cases (show T= "str" from ty)
    exact ⟨typeIs_str s z t,fun _ e=>nomatch e⟩
  | int i=>
    obtain ⟨t,rfl⟩:=r
    cases (show T= "int" from ty)
    exact ⟨typeIs_int s i t,fun _ e=>nomatch e⟩
  | ref p=>
    cases r
    rcases ty with ⟨rfl,xs,hq⟩ | ⟨rfl,o,hk,hc,hd⟩ | ⟨rfl,hk⟩ | ⟨rfl,S,n,hk⟩
    · obtain ⟨its,_,pl,_⟩:=I.list hq
      refine ⟨pl.isList.typeIs,fun a e=>?_⟩
      cases e
      obtain ⟨o,n,e,c,hd,_⟩:=pl
      exact ⟨o,e,hd⟩
    · refine ⟨⟨o,I.kIn p o hk,hc⟩,fun a e=>?_⟩
      cases e
      exact ⟨o,I.kIn _ o hk,hd⟩
    · have z:∃ o,s.heap.get? p=some o∧o.ExactDict:=by
        rcases hk with ⟨kvs,hk⟩ | ⟨kvs,ep,hk⟩
        · obtain ⟨_,_,_,_,o,_,_,e,ex,_⟩:=I.hok p _ hk
          exact ⟨o,e,ex⟩
        · obtain ⟨_,_,_,_,o,_,e,ex,_⟩:=I.hok p _ hk
          exact ⟨o,e,ex⟩
      obtain ⟨o,e,ex⟩:=z
      refine ⟨⟨o,e,ex.1⟩,fun a e2=>?_⟩
      cases e2
      exact ⟨o,e,ex.2.1⟩
    · obtain ⟨o,_,_,_,e,ex,_⟩:=I.hok p _ hk
      refine ⟨⟨o,e,ex.1⟩,fun a e2=>?_⟩
      cases e2
      exact ⟨o,e,ex.2.1⟩
  | _=>exact False.elim ty
def PH(K:PySem.W.Frag)(T:String)(r:V→List V→Hp→VK→Prop)(to:TE):TE:=fun σ H Q=>to σ H fun x H1=>tyV K T x H1∧r x [] H1 Q
def tBM(K:PySem.W.Frag)(T:String)(r:V→List V→Hp→VK→Prop)(to:TE)(t:TA):TE:=fun σ H Q=>to σ H fun x H1=>tyV K T x H1∧t σ H1 fun xs H2=>r x xs H2 Q
variable{o e:Expr}{es:List Expr}{to:TE}{t:TA}{name:Str}{apos cpos:Pos}{T id:String}{r:V→List V→Hp→VK→Prop}
theorem Nc(pa:PlainAttrs T)(slot:Slot T name id)(hty:typeOf (.builtin id)=pure (.type "method_descriptor"))(hm:MtR X id r)(ho:PE X o to)
    (hbase:attributeBase o name X.env (eval o X.env)=eval o X.env:=by rfl) (hline:(apos.endLine == cpos.line)=true:=by rfl):PE X (.Call (.Attribute o name apos) [] [] cpos) (PH X.K T r to):=by
  intro pins s σ H Q I h
  refine wpAny_Call_method0_late hbase hline (thn (ho pins s σ H _ I h) fun v s1 ⟨x,H1,I1,r1,ty,q1⟩=>?_)
  obtain ⟨h1,h2⟩:=JC I1 r1 ty
  exact ⟨T,id,pa,slot,hty,h1,h2,Calls.callWith_builtin rfl (PySem.evalArgs_none (hm pins s1 σ H1 x [] v [] Q I1 r1 .nil q1))⟩
theorem EI(pa:PlainAttrs T)(slot:Slot T name id)(hty:typeOf (.builtin id)=pure (.type "method_descriptor"))(hm:MtR X id r)(ho:PE X o to)(ha:PA X (e::es) t)
    (hbase:attributeBase o name X.env (eval o X.env)=eval o X.env:=by rfl)
    (hfew:((backTo cpos (starEach (e::es) X.env)).all (fun x=>!x.1) && (backToKw cpos (keywordEach [] X.env)).all (fun x=>x.1.isSome)
      && decide ((e::es).length+([]:List Keyword).length+(if ([]:List Keyword).isEmpty then 0 else 1) < 30))=true:=by rfl)
    (hline:(apos.endLine == cpos.line)=true:=by rfl) (hs:starEach (e::es) X.env=(false,eval e X.env)::starEach es X.env:=by rfl) (hplain:(backTo cpos (starEach es X.env)).any (·.1)=false:=by rfl):
    PE X (.Call (.Attribute o name apos) (e::es) [] cpos) (tBM X.K T r to t):=by
  intro pins s σ H Q I h
  refine wpAny_Call_method_late hbase hfew hline rfl (thn (ho pins s σ H _ I h) fun v s1 ⟨x,H1,I1,r1,ty,q1⟩=>?_)
  obtain ⟨h1,h2⟩:=JC I1 r1 ty
  refine ⟨T,id,pa,slot,hty,h1,h2,?_⟩
  have hA:=ha cpos pins s1 σ H1 _ I1 q1
  rw [hs] at hA ⊢
  refine Calls.callWith_builtin (by show (false || (backTo cpos (starEach es X.env)).any (·.1))=false;rw [hplain]<;>rfl) (Calls.evalArgs_plain ?_)
  exact thn hA fun us s2 ⟨vs,H2,I2,r2,q2⟩=>hm pins s2 σ H2 x vs v us Q I2 r1 r2 q2
end
end L2
namespace L2
open PySem PySem.Spec PyProof.Rows
def MtM(X:Cx)(id:String)(r:V→List V→Hp→VK→Prop):Prop:=
  ∀ (pins:List (Addr×Obj)) (s:Shared) (σ:St) (H:Hp) (x:V) (xs:List V) (v:Value) (us:List Value) (Q:VK),Inv X pins σ H s→RelV x v→Vals xs us→r x xs H Q→
    wpAny (model X.prog X.w) X.A (call (.builtin id) (v::us)) (EP X pins σ Q) X.xe s
theorem Vals.one:∀ {x:V} {us:List Value},Vals [x] us→∃ u,us=[u]∧RelV x u
  | _,_,.cons r .nil=>⟨_,rfl,r⟩
theorem Vals.zero:∀ {us:List Value},Vals [] us→us=[]
  | _,.nil=>rfl
theorem Vals.dropLast{xs:List V}{us:List Value}(h:Vals xs us):Vals xs.dropLast us.dropLast:=by
  induction h with
  | nil=>exact .nil
  | cons r t ih=>
    cases t with
    | nil=>exact .nil
    | cons q t'=>exact .cons r ih
theorem Vals.eraseIdx:∀ {xs:List V} {us:List Value} (i:Nat),Vals xs us→Vals (xs.eraseIdx i) (us.eraseIdx i)
  | _,_,_,.nil=>.nil
  | _,_,0,.cons _ t=>t
  | _,_,i+1,.cons r t=>.cons r (Vals.eraseIdx i t)
theorem Vals.rep{xs:List V}{us:List Value}(h:Vals xs us):∀ k:Nat,Vals (List.replicate k xs).flatten (List.replicate k us).flatten
  | 0=>.nil
  | k+1=>by
    rw [List.replicate_succ,List.replicate_succ,List.flatten_cons,List.flatten_cons]
    exact Vals.append h (Vals.rep h k)
theorem Fm{α:Type}(l:List α):l.eraseIdx (l.length - 1)=l.dropLast:=by
  induction l with
  | nil=>rfl
  | cons a r ih=>
    cases r with
    | nil=>rfl
    | cons b r=>
      have e:(a::b::r).length - 1=((b::r).length - 1)+1:=by
        have h1:(a::b::r).length=r.length+2:=rfl
        have h2:(b::r).length=r.length+1:=rfl
        omega
      rw [e,List.eraseIdx_cons_succ,ih]
      all_goals rfl
theorem BU{α:Type}:∀ (l:List α) (i:Nat),(l.eraseIdx i).length≤l.length
  | [],_=>Nat.le_refl _
  | _::_,0=>Nat.le_succ _
  | _::r,i+1=>Nat.succ_le_succ (BU r i)
theorem pc(its:List Value):∀ (k:Nat) (acc:List Value),
    List.foldl (fun x1 x2=>x1++x2) acc.toArray (List.replicate k its.toArray)=(acc++(List.replicate k its).flatten).toArray
  | 0,acc=>by simp
  | k+1,acc=>by
    have e:acc.toArray++its.toArray=(acc++its).toArray:=by simp
    have e2:(acc++its)++(List.replicate k its).flatten=acc++(List.replicate (k+1) its).flatten:=by
      rw [List.replicate_succ,List.flatten_cons,List.append_assoc]
    rw [← e2,← pc its k (acc++its),← e,List.replicate_succ,List.foldl_cons]
section
variable{X:Cx}{pins:List (Addr×Obj)}{σ:St}{H:Hp}{s:Shared}{l b:Addr}{xs ys zs:List V}
theorem Inv.lset{its its':List Value}{n:Nat}{f:Array Value→Array Value}{t':Nat}(I:Inv X pins σ H s)(hH:H l=some (.lst xs))
    (e:s.heap.get? l=some {cls:=.type "list",data:=.seq its.toArray n}) (hf:f its.toArray=its'.toArray) (hv:Vals ys its') (hz:ys.length≤sizeLine):
    Inv X pins σ (upd H l (.lst ys)) {s with heap:=s.heap.update l (Obj.mapSeq f),toks:=t'}:=by
  have q:=PySem.IsL.update e f
  rw [hf] at q
  refine I.write (x:=l) (e:=l) (by rw [hH];exact trivial) (.inl rfl) (fun b' u hb hu=>(Heap.get?_update_other s.heap (Obj.mapSeq f) (Ne.symm hb)).trans hu) ⟨_,q⟩ ?_
  exact ⟨hz,its',_,hv,q⟩
theorem Inv.lnew{its:List Value}{t':Nat}(I:Inv X pins σ H s)(hv:Vals ys its)(hz:ys.length≤sizeLine):
    Inv X pins σ (upd H s.heap.objs.size (.lst ys)) {s with heap:=s.heap.push {cls:=.type "list",data:=.seq its.toArray},toks:=t'}:=
  I.laid (fun _ _ q=>Heap.get?_push_of_some _ q) (Nat.le_refl _) ⟨hz,its,0,hv,Heap.get?_push_size _ rfl⟩
theorem Inv.fresh(I:Inv X pins σ H s):H s.heap.objs.size=none:=I.hok.fresh (Nat.le_refl _)
theorem Inv.lstM(I:Inv X pins σ H s)(hH:H l=some (.lst xs)):xs.length≤sizeLine∧∃ (its:List Value) (n:Nat),Vals xs its∧xs.length=its.length∧s.heap.get? l=some {cls:=.type "list",data:=.seq its.toArray n}:=by
  obtain ⟨z,its,n,r,e⟩:=I.hok l _ hH
  exact ⟨z,its,n,r,r.length,e⟩
theorem AE{n:Nat}(h:n≤sizeLine):Builtin.List.listTooLong n=false:=by
  unfold Builtin.List.listTooLong
  exact decide_eq_false (by omega)
end
section
variable{X:Cx}
def rAppend:V→List V→Hp→VK→Prop:=fun x vs H Q=>∃ l xs y,x= .ref l∧vs=[y]∧H l=some (.lst xs)∧xs.length < sizeLine∧Q .non (upd H l (.lst (xs++[y])))
theorem pv:MtM X "list.append" rAppend:=by
  intro pins s σ H x vs v us Q I rx rv h
  obtain ⟨l,xs,y,rfl,rfl,hH,hz,q⟩:=h
  cases rx
  obtain ⟨u,rfl,ru⟩:=rv.one
  obtain ⟨z,its,n,r,hl,e⟩:=I.lstM hH
  refine call_meets F.slot_list_append ⟨_,e,rfl⟩ F.entry_list_append (F.args_list_append_2 _ _) (PySem.list_append l its.toArray n u (by rw [List.size_toArray];omega)) ⟨e,?_⟩
  refine ⟨.non,_,I.lset (its':=its++[u]) hH e (by simp) (r.append (.cons ru .nil)) ?_,rfl,q⟩
  rw [List.length_append,List.length_singleton]
  omega
def rPop:V→List V→Hp→VK→Prop:=fun x vs H Q=>∃ l xs y,x= .ref l∧vs=[]∧H l=some (.lst xs)∧xs[xs.length - 1]? =some y∧Q y (upd H l (.lst xs.dropLast))
theorem NU:MtM X "list.pop" rPop:=by
  intro pins s σ H x vs v us Q I rx rv h
  obtain ⟨l,xs,y,rfl,rfl,hH,hy,q⟩:=h
  cases rx
  have hus:=rv.zero
  subst hus
  obtain ⟨z,its,n,r,hl,e⟩:=I.lstM hH
  obtain ⟨u,hu,ru⟩:=r.get hy
  have hy':its.toArray[its.toArray.size - 1]? =some u:=by
    show its.toArray[its.length - 1]? =some u
    rw [← Array.getElem?_toList,← hl]
    exact hu
  refine call_meets F.slot_list_pop ⟨_,e,rfl⟩ F.entry_list_pop (F.args_list_pop_1 _) (MeetsSeq.list_pop_last l its.toArray n u hy' (by rw [List.size_toArray];omega)) ⟨e,?_⟩
  refine ⟨y,_,I.lset (its':=its.dropLast) hH e ?_ r.dropLast ?_,ru,q⟩
  · show its.toArray.eraseIdxIfInBounds (its.toArray.size - 1)=its.dropLast.toArray
    rw [List.size_toArray,List.eraseIdxIfInBounds_toArray,Fm]
  · rw [List.length_dropLast]
    omega
def rPopAt:V→List V→Hp→VK→Prop:=fun x vs H Q=>∃ l xs i k y,x= .ref l∧vs=[.int i]∧H l=some (.lst xs)∧-(2 ^ 63)≤i∧i < 2 ^ 63∧seqIndex? i xs.length=some k∧xs[k]? =some y∧Q y (upd H l (.lst (xs.eraseIdx k)))
theorem Ju:MtM X "list.pop" rPopAt:=by
  intro pins s σ H x vs v us Q I rx rv h
  obtain ⟨l,xs,i,k,y,rfl,rfl,hH,h1,h2,hk,hy,q⟩:=h
  cases rx
  obtain ⟨u,rfl,ru⟩:=rv.one
  obtain ⟨t,rfl⟩:=ru
  obtain ⟨z,its,n,r,hl,e⟩:=I.lstM hH
  obtain ⟨w,hw,rw'⟩:=r.get hy
  refine call_meets F.slot_list_pop ⟨_,e,rfl⟩ F.entry_list_pop (F.args_list_pop_2 _ _)
    (MeetsSeq.list_pop_at l its.toArray n i t k w (fitsIndex_both h1 h2) (by rw [List.size_toArray,← hl];exact hk) (by rw [← Array.getElem?_toList];exact hw) (by rw [List.size_toArray];omega)) ⟨e,?_⟩
  refine ⟨y,_,I.lset (its':=its.eraseIdx k) hH e ?_ (r.eraseIdx k) ?_,rw',q⟩
  · show its.toArray.eraseIdxIfInBounds k=(its.eraseIdx k).toArray
    rw [List.eraseIdxIfInBounds_toArray]
  · have:=BU xs k
    omega
theorem CH{α:Type}(xs:List α)(k:Nat):(List.replicate k xs).flatten.length=k * xs.length:=by
  induction k with
  | zero=>simp
  | succ k ih=>rw [List.replicate_succ,List.flatten_cons,List.length_append,ih,Nat.succ_mul,Nat.add_comm]
end
end L2
namespace Att
open PySem PySem.W PySem.Calls PyProof.Rows
theorem sj{P:Params}{h:Heap}:∀ (ns:List Int) (vs:List Value),WellAll P h vs (ns.map WData.int)→IntsAre vs ns:=by
  intro ns
  induction ns with
  | nil=>
    intro vs w
    rw [List.map_nil] at w
    cases w
    exact .nil
  | cons n ns ih=>
    intro vs w
    rw [List.map_cons] at w
    cases w with
    | cons a b=>
      cases a
      exact .cons _ _ (ih _ b)
theorem Ic{l:OpenLaw}{n:Nat}(hn:l.most=some n){P:Params}{h:Heap}{args:List WData}{vals:List Value}
    (hpre:l.row.toRowW.claim.pre args=true) (hwl:WellAll P h vals args):
    ∃ a vs ns,vals=[Value.ref a]∧args=[WData.list (ns.map WData.int)]∧h.get? a=some {cls:=.type "list",data:=.seq vs.toArray}∧IntsAre vs ns∧ns.length≤n:=by
  have hsh:WShape.hasAll [] args [.list .int]=true:=(pre_splitW hpre).1
  have hc:l.pre.holds [] {args:=args} =true:=(pre_splitW hpre).2
  obtain ⟨d,r,rfl,h1,h2⟩:=hasAllW_cons hsh
  obtain rfl:=hasAllW_nil h2
  obtain ⟨xs,rfl,h3⟩:=hasW_list h1
  obtain ⟨ns,rfl⟩:=items_int h3
  have hlen:ns.length≤n:=by
    unfold OpenLaw.pre at hc
    have h4:(WTm.not (.lt (.lit (.int (n:Int))) (.len (.arg 0)))).holds [] {args:=[.list (ns.map .int)]} =true:=by
      have h4:=(holds_andW hc).1
      rw [hn] at h4
      exact h4
    have h5:=condW_of h4 (w_not (w_lt w_lit (w_len_list (w_arg rfl))))
    rw [List.length_map] at h5
    refine Nat.le_of_not_lt fun q=>?_
    have q':(n:Int) < ((ns.length:Nat):Int):=by omega
    first
      | (rw [decide_eq_true q'] at h5;exact absurd h5 (by decide))
      | (simp at h5;omega)
  cases hwl with
  | cons w1 w2=>
    cases w2
    cases w1 with
    | list ho hall=>exact ⟨_,_,ns,rfl,rfl,ho,sj ns _ hall,hlen⟩
theorem Iw(l:OpenLaw)(args:List WData):l.row.toRowW.claim.post args (.bool true) args=true:=
  postW_of (r:=l.row.toRowW) (X:=(true == true))
    (show WShape.has [] (.bool true) .bool=true by first | rfl | decide | simp [WShape.has,WShape.arms,WShape.armsAll])
    (show (WTm.eq .res (.lit (.bool true))).value [] {args:=args,res:=some (.bool true),after:=args} =some (.bool (true == true)) from w_eq_bool (w_res rfl) w_lit) rfl
theorem attach_call{l:OpenLaw}{n:Nat}{q:Program}{loose:List Str}{XP:(Str→Option Value)→Heap→Prop}{YP:World→Heap→Prop}{d:DefRec}
    (hn:l.most=some n) (hdf:d.params.defaults=[])
    (call:∀ (w:World) (s₀ s₁:Shared) (mg mb:Str→Option Value) (fa:Addr) (o:Obj) (pm cd doc:Value) (a:Addr) (vs:List Value) (ns:List Int),
      Ground q loose [] XP w s₀ mg mb s₁.heap→YP w s₁.heap→
      s₁.heap.get? fa=some o→o.data= .func (docDef d.name d.params d.body d.scope pm cd doc)→s₁.heap.CodeRec cd d.name→mg d.name=some (.ref fa)→
      s₁.heap.get? a=some {cls:=.type "list",data:=.seq vs.toArray}→IntsAre vs ns→ns.length≤n→s₁.gens= #[]→
      codeAny (model l.prog w) callerA (.call (.ref fa) ⟨[.ref a],[]⟩) (fun r s'=>r= .ok (.ret (.bool true))∧OldK s₁.heap s'.heap∧s'.os=s₁.os∧AllBare s'.gens) s₁):
    WalkO q loose XP YP l.row.toRowW d [] (fun f vs=>PySem.call f vs):=by
  intro w s₀ s₁ mg mb G Y fa o pm cd doc dV kV ho hd hcd hD hmg hg args vals as hpre hlay hrd hwl hlo
  obtain rfl:dV= .none:=Dflts.none hD hdf
  obtain rfl:kV= .none:=Dflts.noKw hD
  obtain ⟨a,vs,ns,rfl,rfl,hobj,hints,hlen⟩:=Ic hn hpre hwl
  refine enter_call (codeAny_mono (call w s₀ s₁ mg mb fa o pm cd doc a vs ns G Y ho (fd_plain hd) hcd hmg hobj hints hlen hg) fun r s' hq=>?_)
  obtain ⟨rfl,h2,h3,h4⟩:=hq
  exact ⟨.inl ⟨.bool true,.bool true,[],rfl,fun _=>rfl,.bool true,Iw l _,fun _=>⟨List.Pairwise.nil,fun _ hm=>(nomatch hm)⟩⟩,h2,h3,h4⟩
end Att
namespace L2
open PySem PySem.Spec PyProof.Rows
theorem B5:∀ {vs:List Value} {ns:List Int},IntsAre vs ns→Vals (ns.map V.int) vs
  | _,_,.nil=>.nil
  | _,_,.cons n t h=>.cons ⟨t,rfl⟩ (B5 h)
def MS(H:Hp):Prop:=∀ b,H b=none∨∃ o u,H b=some (.frz o u)
def stH(K:PySem.W.Frag)(b:Addr):Option HO:=match K.lookup b with
  | some o=>(stO o).map fun vs=>.frz o (.tup vs)
  | none=>none
theorem Ao{K:PySem.W.Frag}{b:Addr}{u:HO}(e:stH K b=some u):∃ o vs,K.lookup b=some o∧stO o=some vs∧u= .frz o (.tup vs):=by
  unfold stH at e
  split at e
  · rename_i o ho
    cases q:stO o with
    | none=>rw [q] at e;cases e
    | some vs=>rw [q] at e;cases e;exact ⟨o,vs,ho,q,rfl⟩
  · cases e
def wst(K:PySem.W.Frag)(H:Hp):Hp:=fun b=>match H b with
  | some u=>some u
  | none=>stH K b
theorem mx{K:PySem.W.Frag}{H:Hp}{b:Addr}{u:HO}(e:H b=some u):wst K H b=some u:=by unfold wst;rw [e]
theorem mj{K:PySem.W.Frag}{H:Hp}{b:Addr}(e:H b=none):wst K H b=stH K b:=by unfold wst;rw [e]
theorem Kj{P:Program}{w:World}{K:PySem.W.Frag}{mg mb:Str→Option Value}{CX:CXT}{k:Nat}{fa a:Addr}{fd:FuncData}{x:Str}{sp:Sp}{s₁:Shared}{vs:List Value}{ns:List Int}
    (KX:K.In s₁.heap) (hns:s₁.heap.Ns mainGlobals mg) (hb:s₁.heap.Ns builtinsNs mb) (hbb:∀ x:Str,x≠"__name__"→mb x=bootBuiltins x) (hlim:s₁.heap.NoLimit) (hg:s₁.gens= #[])
    (ha:s₁.heap.get? a=some {cls:=.type "list",data:=.seq vs.toArray}) (hi:IntsAre vs ns) (hl:ns.length≤sizeLine) (hr:Room k callerA)
    (F:∀ base:Heap,K.In base→base.Ns mainGlobals mg→FnOk P w K mg base CX k fa fd [x] sp) (hbind:∀ (s:Shared) (u:Value),BindsTo s fd ⟨[u],[]⟩ [(x,u)])
    (hsp:∀ H:Hp,MS H→SqL K H a (ns.map V.int)→sp [.ref a] H (fun v _=>v= .bl true) fun _ _ _=>False)
    (hCX:∀ H e s',CX [] H s₁ (fun _ _ _=>False) e s'→False):
    codeAny (model P w) callerA (.call (.ref fa) ⟨[.ref a],[]⟩) (fun r s'=>r= .ok (.ret (.bool true))∧OldK s₁.heap s'.heap∧s'.os=s₁.os∧AllBare s'.gens) s₁:=by
  have rv:=B5 hi
  have lenV:=hi.length
  have core:∀ H:Hp,(∀ b,H b=none∨∃ o xs,H b=some (.frz o (.lst xs)))→SqL K H a (ns.map V.int)→HOk P w H s₁.heap→(∀ b,H b≠none→b=a)→(H a≠none→K.lookup a=none)→
      codeAny (model P w) callerA (.call (.ref fa) ⟨[.ref a],[]⟩) (fun r s'=>r= .ok (.ret (.bool true))∧OldK s₁.heap s'.heap∧s'.os=s₁.os∧AllBare s'.gens) s₁:=by
    intro H hO hS hok hA hK
    have base_of:∀ {b:Addr} {o:Obj},s₁.heap.get? b=some o→H b=none→(Bz s₁.heap H).get? b=some o:=fun e n=>IG e n
    have noA:∀ {b:Addr} {o:Obj} {es:Array DictEntry} {ep:Nat},s₁.heap.get? b=some o→o.data= .dict es ep→H b=none:=fun {b o es ep} e d=>by
      cases q:H b with
      | none=>rfl
      | some u=>
        have e':b=a:=hA b (by rw [q];simp)
        subst e'
        rw [ha] at e;cases e
        have d':Data.seq vs.toArray _=Data.dict es ep:=d
        cases d'
    have nsK:∀ {b:Addr} {m:Str→Option Value},s₁.heap.Ns b m→(Bz s₁.heap H).Ns b m:=fun {b m} ⟨o,es,ep,e,d,r⟩=>⟨o,es,ep,base_of e (noA e d),d,r⟩
    have hKb:K.In (Bz s₁.heap H):=fun b o e=>base_of (KX b o e) (by
      cases q:H b with
      | none=>rfl
      | some u=>
        have e':b=a:=hA b (by rw [q];simp)
        subst e'
        rw [hK (by rw [q];simp)] at e;cases e)
    have hM:Mod K mg (Bz s₁.heap H):=⟨hKb,nsK hns,⟨mb,nsK hb,hbb⟩,let ⟨mc,h1,h2⟩:=hlim;⟨mc,nsK h1,h2⟩⟩
    have hO2:MS (wst K H):=fun b=>by
      rcases hO b with z | ⟨o,xs,z⟩
      · rw [mj z]
        cases q:stH K b with
        | none=>exact .inl rfl
        | some u=>obtain ⟨o,vs,_,_,rfl⟩:=Ao q;exact .inr ⟨o,_,rfl⟩
      · exact .inr ⟨o,_,mx z⟩
    have hok2:HOk P w (wst K H) s₁.heap:=fun b u e=>by
      rcases hO b with z | ⟨o,xs,z⟩
      · rw [mj z] at e
        obtain ⟨o,vs,k1,k2,rfl⟩:=Ao e
        exact ⟨KX b o k1,N3 (KX b o k1) k2⟩
      · have e1:=hok b _ z
        rw [mx z] at e
        cases e
        exact e1
    have hS2:SqL K (wst K H) a (ns.map V.int):=by
      rcases hS with (z | ⟨o,z⟩) | z
      · exact .inl (.inl (mx z))
      · exact .inl (.inr ⟨o,mx z⟩)
      · exact .inr z
    have hsb:∀ b o,(Bz s₁.heap H).get? b=some o→s₁.heap.get? b=some o∧Sb K (wst K H) b o:=fun b o e=>by
      obtain ⟨e1,e2⟩:=LD e
      refine ⟨e1,?_,fun vs k q=>?_⟩
      · rw [mj e2]
        cases q:stH K b with
        | none=>exact .inl rfl
        | some u=>
          obtain ⟨o',vs,k1,_,rfl⟩:=Ao q
          have:=KX b o' k1
          rw [e1] at this
          cases this
          exact .inr ⟨_,rfl⟩
      · rw [mj e2]
        unfold stH
        rw [k]
        dsimp only
        rw [q]
        rfl
    have e0:Env0 P w K mg (Bz s₁.heap H) callerA [] s₁ (wst K H):=⟨rfl,hM,hsb,Nat.le_of_eq (HL _ _),trivial,fun b hb=>absurd (show b∈([]:List Addr) from hb) (by simp),hok2,.of_eq hg⟩
    refine codeAny_mono ((F _ hKb (nsK hns)).run callerA [] s₁ (wst K H) ⟨[.ref a],[]⟩ [.ref a] [.ref a] _ _ hr e0 (hbind s₁ (.ref a)) (.cons rfl .nil) (hsp _ hO2 hS2)) fun r s' h=>?_
    cases r with
    | error e=>exact (hCX _ e s' h).elim
    | ok fl=>
      cases fl with
      | next=>exact False.elim h
      | brk=>exact False.elim h
      | cont=>exact False.elim h
      | ret u=>
        obtain ⟨v,H',os,bare,un,hok',r',q⟩:=h
        have q':v= .bl true:=q
        subst q'
        obtain rfl:u=Value.bool true:=r'
        refine ⟨rfl,OldK.of_keep fun b o e=>?_,os,bare⟩
        rcases hO2 b with q | ⟨ob,u,z⟩
        · exact un.keep b o e q (by intro z;exact absurd (show b∈([]:List Addr) from z) (by simp)) (by simp)
        · have z2:=un.frzs b ob _ z
          obtain ⟨e1,_⟩:=hok2 b _ z
          obtain ⟨e2,_⟩:=hok' b _ z2
          rw [e] at e1;cases e1
          exact e2
  cases hk:K.lookup a with
  | some o=>
    have e:=KX a o hk
    rw [ha] at e
    cases e
    refine core (fun _=>none) (fun _=>.inl rfl) (.inr ⟨_,vs.toArray,_,hk,rfl,rfl,rfl,by rw [List.size_toArray,lenV];exact hl,by simpa using rv⟩) (fun b u z=>by have z':(none:Option HO)=some u:=z;cases z') (fun b z=>absurd rfl z) fun z=>absurd rfl z
  | none=>
    refine core (fun b=>if b=a then some (.frz {cls:=.type "list",data:=.seq vs.toArray} (.lst (ns.map V.int))) else none) (fun b=>?_) (.inl (.inr ⟨{cls:=.type "list",data:=.seq vs.toArray},if_pos rfl⟩)) (fun b u z=>?_) (fun b z=>?_) fun _=>hk
    · by_cases hb:b=a
      · exact .inr ⟨_,_,if_pos hb⟩
      · exact .inl (if_neg hb)
    · by_cases hb:b=a
      · have z':=(if_pos hb).symm.trans z
        cases z'
        subst hb
        exact ⟨ha,by rw [List.length_map];exact hl,vs,_,rv,ha⟩
      · have z':=(if_neg hb).symm.trans z
        cases z'
    · by_cases hb:b=a
      · exact hb
      · exact absurd (if_neg hb) z
end L2
namespace L2
open PySem PySem.Spec PyProof.Rows
theorem KN{l:PySem.W.OpenLaw}{n k:Nat}{q:Program}{loose:List Str}{XP:(Str→Option Value)→Heap→Prop}{YP:World→Heap→Prop}{d:DefRec}{K:Params→PySem.W.Frag}{CX:World→CXT}{sp:World→Sp}{x:Str}
    (hn:l.most=some n) (hn2:n≤sizeLine) (hdf:d.params.defaults=[]) (hr:Room k callerA)
    (hY:∀ (w:World) (h:Heap),YP w h→(K w.params).In h)
    (F:∀ (w:World) (mg:Str→Option Value) (fa:Addr) (h:Heap),(K w.params).In h→h.Ns mainGlobals mg→mg d.name=some (.ref fa)→
      ∃ fd:FuncData,(∀ (s:Shared) (u:Value),BindsTo s fd ⟨[u],[]⟩ [(x,u)])∧
        ∀ base:Heap,(K w.params).In base→base.Ns mainGlobals mg→FnOk l.prog w (K w.params) mg base (CX w) k fa fd [x] (sp w))
    (hsp:∀ (w:World) (H:Hp) (a:Addr) (ns:List Int),ns.length≤n→MS H→SqL (K w.params) H a (ns.map V.int)→sp w [.ref a] H (fun v _=>v= .bl true) fun _ _ _=>False)
    (hCX:∀ (w:World) (H:Hp) (s:Shared) (e:Value) (s':Shared),CX w [] H s (fun _ _ _=>False) e s'→False):
    PySem.W.WalkO q loose XP YP l.row.toRowW d [] (fun f vs=>PySem.call f vs):=by
  refine Att.attach_call hn hdf fun w s₀ s₁ mg mb fa o pm cd doc a vs ns G Y ho hd hcd hmg hobj hints hlen hg=>?_
  have KX:=hY w _ Y
  obtain ⟨fd,hb,hF⟩:=F w mg fa _ KX G.T.g hmg
  exact Kj KX G.T.g G.T.b G.T.builtins G.T.nolimit hg hobj hints (Nat.le_trans hlen hn2) hr hF hb (fun H hO hS=>hsp w H a ns hlen hO hS) fun H e s'=>hCX w H s₁ e s'
end L2
namespace L2
open PySem PySem.Spec PyProof.Rows
def kh(s:Stmt):Arguments:=match s with
  | .FunctionDef _ a _ _ _ _ _ _ _ _=>a
  | _=>{posonlyargs:=[],args:=[],vararg:=none,kwonlyargs:=[],kw_defaults:=[],kwarg:=none,defaults:=[]}
def vb(s:Stmt):List Stmt:=match s with
  | .FunctionDef _ _ b _ _ _ _ _ _ _=>b
  | _=>[]
def zq(s:Stmt):Scope:=match s with
  | .FunctionDef _ _ _ _ _ _ sc _ _ _=>sc
  | _=>{kind:=.function,names:=[],isGenerator:=false,isCoroutine:=false}
structure Fun(K:PySem.W.Frag)(x qual:Str)(st:Stmt)(f:Addr)(fd:FuncData):Prop where
  ex:∃ (oc:Value) (od:Option Addr) (kV doc pm:Value) (an:Option Addr) (cdv ct:Value) (osl:Array (Option Value)),
    fd=PySem.W.fnOf x qual (kh st) (vb st) (zq st) .none kV doc pm an cdv ct∧K.lookup f=some ⟨oc,od,.func fd,osl⟩∧PySem.W.codeIn K cdv qual=true
  kp:PySem.W.keepIn K (.ref f)=true
section
variable{P:Program}{w:World}{K:PySem.W.Frag}{mg:Str→Option Value}{base:Heap}
theorem Fun.binds{x qual:Str}{st:Stmt}{f:Addr}{fd:FuncData}{ps:List Str}(F:Fun K x qual st f fd)
    (h:∀ (kV doc pm:Value) (an:Option Addr) (cdv ct:Value) (us:List Value),us.length=ps.length→bindArgs (PySem.W.fnOf x qual (kh st) (vb st) (zq st) .none kV doc pm an cdv ct) ⟨us,[]⟩=pure (ps.zip us)):Binds K fd ps []:=by
  obtain ⟨oc,od,kV,doc,pm,an,cdv,ct,osl,rfl,lk,hcd⟩:=F.ex
  exact .all (h kV doc pm an cdv ct)
theorem NQ{x qual:Str}{st:Stmt}{f:Addr}{oc:Value}{od an:Option Addr}{osl:Array (Option Value)}{kV doc pm cdv ct:Value}(l:K.lookup f=some ⟨oc,od,.func (PySem.W.fnOf x qual (kh st) (vb st) (zq st) .none kV doc pm an cdv ct),osl⟩)
    (c:PySem.W.codeIn K cdv qual=true) (k:PySem.W.keepIn K (.ref f)=true):Fun K x qual st f (PySem.W.fnOf x qual (kh st) (vb st) (zq st) .none kV doc pm an cdv ct):=⟨⟨oc,od,kV,doc,pm,an,cdv,ct,osl,rfl,l,c⟩,k⟩
end
theorem FZ{A B:Prop}(h:B):if false=true then A else B:=by
  rw [if_neg Bool.false_ne_true]
  exact h
theorem Gg{A B:Prop}(h:A):if true=true then A else B:=by
  rw [if_pos rfl]
  exact h
def Same(H H':Hp):Prop:=∀ b o,H b=some o→H' b=some o
theorem Same.refl(H:Hp):Same H H:=fun _ _ h=>h
theorem Same.trans{H H1 H2:Hp}(a:Same H H1)(b:Same H1 H2):Same H H2:=fun c o h=>b c o (a c o h)
theorem Same.free{H H':Hp}(e:Same H H'){l:Addr}(h:H' l=Option.none):H l=Option.none:=by
  cases q:H l with
  | none=>rfl
  | some o=>
    rw [e l o q] at h
    cases h
end L2
namespace L2
open PySem PySem.Spec PyProof.Rows
section
variable{κ:Type} [DecidableEq κ]
def AF(kvs:List (κ×V))(k:κ):Option V:=(kvs.find? fun kv=>decide (kv.1=k)).map (·.2)
def kc(kvs:List (κ×V))(k:κ)(v:V):List (κ×V):=
  if (kvs.any fun kv=>decide (kv.1=k))=true then kvs.map (fun kv=>if kv.1=k then (kv.1,v) else kv) else kvs++[(k,v)]
theorem mw{p:κ×V}{r:List (κ×V)}{k:κ}(e:p.1=k):AF (p::r) k=some p.2:=by simp [AF,List.find?_cons,e]
theorem md{p:κ×V}{r:List (κ×V)}{k:κ}(e:¬ p.1=k):AF (p::r) k=AF r k:=by simp [AF,List.find?_cons,e]
theorem DH(k:κ):∀ kvs:List (κ×V),(kvs.any fun kv=>decide (kv.1=k))=(AF kvs k).isSome
  | []=>rfl
  | p::r=>by
    rw [List.any_cons]
    by_cases e:p.1=k
    · simp only [mw e,decide_eq_true e,Bool.true_or,Option.isSome_some]
    · rw [md e,decide_eq_false e,Bool.false_or];exact DH k r
theorem RelO.isSome_eq{o:Option V}{u:Option Value}(r:RelO o u):o.isSome=u.isSome:=by
  cases o with
  | none=>cases u with
    | none=>rfl
    | some _=>exact (show False from r).elim
  | some _=>cases u with
    | none=>exact (show False from r).elim
    | some _=>rfl
theorem RelO.getD{o:Option V}{u:Option Value}{d:V}{d':Value}(r:RelO o u)(rd:RelV d d'):RelV (o.getD d) (u.getD d'):=by
  cases o with
  | none=>cases u with
    | none=>exact rd
    | some _=>exact (show False from r).elim
  | some _=>cases u with
    | none=>exact (show False from r).elim
    | some _=>exact r
theorem KV.val{kvs:List (κ×V)}{vs:List (κ×Value)}(r:KV kvs vs)(k:κ):RelO (AF kvs k) (valueAt vs k):=by
  unfold KV at r
  induction r with
  | nil=>exact True.intro
  | @cons p q ps qs h t ih=>
    obtain ⟨h1,h2⟩:=h
    by_cases e:p.1=k
    · have e':q.1=k:=h1.symm.trans e
      have b:valueAt (q::qs) k=some q.2:=by simp [valueAt,List.find?_cons,e']
      rw [mw e,b];exact h2
    · have e':¬ q.1=k:=fun z=>e (h1.trans z)
      have b:valueAt (q::qs) k=valueAt qs k:=by simp [valueAt,List.find?_cons,e']
      rw [md e,b];exact ih
end
theorem Mr{P:Program}{w:World}{k:Key}{u:Value}(r:RelV (kV k) u):(yi P w).is k u=true:=by
  cases k with
  | inl i=>obtain ⟨t,e⟩:=(show ∃ t,u=Value.int i t from r);subst e;exact Eb P w i t
  | inr x=>obtain ⟨t,e⟩:=(show ∃ t,u=Value.str x t from r);subst e;exact Eh P w x t
theorem B7{P:Program}{w:World}:∀ {ks:List Key} {us:List Value},Vals (ks.map kV) us→ItemsAre (yi P w) ks us
  | [],_,r=>by rw [List.map_nil] at r;cases r;exact .nil
  | k::ks,_,r=>by
    rw [List.map_cons] at r
    cases r with
    | cons h t=>exact .cons (Mr h) (B7 t)
abbrev KT(H:Hp):List (List Key×V)→List (List Key×Addr×Value)→Prop:=Paired fun p q=>p.1=q.1∧Rd H q.2.1 (.tup (p.1.map kV))∧RelV p.2 q.2.2
theorem KT.val{H:Hp}{kvs:List (List Key×V)}{xs:List (List Key×Addr×Value)}(r:KT H kvs xs)(k:List Key):RelO (AF kvs k) ((atKey xs k).map (·.2)):=by
  induction r with
  | nil=>exact True.intro
  | @cons p q ps qs h t ih=>
    obtain ⟨h1,_,h2⟩:=h
    by_cases e:p.1=k
    · have e':q.1=k:=h1.symm.trans e
      have b:atKey (q::qs) k=some q.2:=by simp [atKey,List.find?_cons,e']
      rw [mw e,b];exact h2
    · have e':¬ q.1=k:=fun z=>e (h1.trans z)
      have b:atKey (q::qs) k=atKey qs k:=by simp [atKey,List.find?_cons,e']
      rw [md e,b];exact ih
theorem KT.repl{H:Hp}{kvs:List (List Key×V)}{xs:List (List Key×Addr×Value)}(r:KT H kvs xs)(k:List Key){y:V}{u:Value}(ry:RelV y u):
    KT H (kvs.map fun kv=>if kv.1=k then (kv.1,y) else kv) (xs.map (putAt k u)):=by
  induction r with
  | nil=>exact .nil
  | @cons p q ps qs h t ih=>
    rw [List.map_cons,List.map_cons]
    refine .cons ?_ ih
    obtain ⟨h1,h2,h3⟩:=h
    unfold putAt
    by_cases e:p.1=k
    · rw [if_pos e,if_pos (h1.symm.trans e)];exact ⟨h1,h2,ry⟩
    · rw [if_neg e,if_neg (fun z=>e (h1.trans z))];exact ⟨h1,h2,h3⟩
theorem KT.put{H:Hp}{kvs:List (List Key×V)}{xs:List (List Key×Addr×Value)}(r:KT H kvs xs)(k:List Key){b:Addr}{y:V}{u:Value}(hb:Rd H b (.tup (k.map kV)))(ry:RelV y u):
    KT H (kc kvs k y) (storedH xs k b u):=by
  have e:(kvs.any fun kv=>decide (kv.1=k))=(atKey xs k).isSome:=by
    rw [DH,(r.val k).isSome_eq,Option.isSome_map]
  unfold kc storedH
  rw [e]
  by_cases q:(atKey xs k).isSome=true
  · rw [if_pos q,if_pos q];exact r.repl k ry
  · rw [if_neg q,if_neg q];exact Paired.snoc r ⟨rfl,hb,ry⟩
theorem KT.keeps{H H':Hp}{kvs:List (List Key×V)}{xs:List (List Key×Addr×Value)}(r:KT H kvs xs)(ht:∀ b ys,Rd H b (.tup ys)→Rd H' b (.tup ys)):KT H' kvs xs:=
  Paired.mapP r fun _ _ z=>⟨z.1,ht _ _ z.2.1,z.2.2⟩
section
variable{P:Program}{w:World}{H:Hp}{h:Heap}{a:Addr}
theorem Gv{u:HO}(ok:HOk P w H h)(e:Rd H a u):ObjOk P w H h a u:=e.ok ok
theorem Ms{kvs:List (Key×V)}(ok:HOk P w H h)(e:Rd H a (.dK kvs)):kvs.length≤sizeLine∧(a == sysModules)=false∧∃ vs,KV kvs vs∧h.DictOf (yi P w) a vs:=
  show ObjOk P w H h a (.dK kvs) from Gv ok e
theorem Dr{ks:List Key}(ok:HOk P w H h)(e:Rd H a (.tup (ks.map kV))):(tupleKind (yi P w)).is h ks a:=by
  obtain ⟨_,its,r,o,h1,h2,n,h3⟩:=(show ObjOk P w H h a (.tup (ks.map kV)) from Gv ok e)
  exact ⟨o,its.toArray,n,h1,h2,h3,by simpa using B7 r⟩
theorem Hi{kvs:List (List Key×V)}{ep:Nat}(ok:HOk P w H h)(e:Rd H a (.dT kvs ep)):kvs.length≤sizeLine∧(a == sysModules)=false∧
    ∃ xs,KT H kvs xs∧h.DictOfH (tupleKind (yi P w)) a xs:=by
  obtain ⟨z,y,xs,r,o,es,h1,h2,h3,h4,h5⟩:=(show ObjOk P w H h a (.dT kvs ep) from Gv ok e)
  refine ⟨z,y,xs,r,o,es,ep,h1,h2,h3,h4,fun x hx=>?_,h5⟩
  have all:∀ {l:List (List Key×V)} {m:List (List Key×Addr×Value)},KT H l m→∀ x∈m,(tupleKind (yi P w)).is h x.1 x.2.1:=by
    intro l m q
    induction q with
    | nil=>intro x hx;exact nomatch hx
    | @cons p q ps qs hq t ih=>
      intro x hx
      rcases List.mem_cons.mp hx with e | hx
      · subst e
        exact Dr ok (by rw [← hq.1];exact hq.2.1)
      · exact ih x hx
  exact all r x hx
theorem MD{kvs:List (List Key×V)}{ep:Nat}(ok:HOk P w H h)(e:H a=some (.dT kvs ep)):kvs.length≤sizeLine∧(a == sysModules)=false∧
    ∃ xs,KT H kvs xs∧h.DictOfH (tupleKind (yi P w)) a xs:=Hi ok (.inl e)
end
def ML(H:Hp)(a:Addr)(y:V)(r:Option V):Prop:=
  (∃ kvs k,Rd H a (.dK kvs)∧y=kV k∧r=AF kvs k)∨∃ kvs ep k b,Rd H a (.dT kvs ep)∧y= .ref b∧Rd H b (.tup (k.map kV))∧r=AF kvs k
section
variable{X:Cx}{pins:List (Addr×Obj)}{σ:St}{H:Hp}{s:Shared}{a:Addr}{y v:V}{u r:Value}{o:Option V}{A:Around}{E:Value→Shared→Prop}
theorem Inv.big(I:Inv X pins σ H s):sysModules < s.heap.objs.size:=by
  have h:mainGlobals < s.heap.objs.size:=(I.mod.glob.keeps I.bk).lt
  exact Nat.lt_trans (by decide) h
theorem GY{h':Heap}{t':Nat}{ob:HO}(I:Inv X pins σ H s)(mu:Mut (H a))(hs:Heap.SameBut a s.heap h')(he:∃ q,h'.get? a=some q)(new:ObjOk X.prog X.w (upd H a ob) h' a ob):
    Inv X pins σ (upd H a ob) {s with heap:=h',toks:=t'}:=
  I.write (x:=a) (e:=a) mu (.inl rfl) (fun b q hb z=>(hs.2 b hb).trans z) he new
end
theorem EU{P:Program}{w:World}{H:Hp}(h:Heap)(hb:sysModules < h.objs.size):ObjOk P w H (h.push {cls:=.type "dict",data:=.dict #[]}) h.objs.size (.dT [] 0):=
  ⟨Nat.zero_le _,beq_eq_false_iff_ne.mpr (Ne.symm (Nat.ne_of_lt hb)),[],.nil,_,#[],Heap.get?_push_size _ rfl,⟨rfl,rfl,rfl⟩,rfl,rfl,List.nodup_nil⟩
def tDNewT:TE:=fun _ H Q=>∀ p,H p=none→Q (.ref p) (upd H p (.dT [] 0))
section
variable{X:Cx}{pos:Pos}
theorem J0:PE X (.Dict [] [] pos) tDNewT:=fun pins s σ H Q I h=>
  wpAny_Dict_empty ⟨.ref s.heap.objs.size,_,I.laid (a:=s.heap.objs.size) (o:=.dT [] 0) (t':=s.toks) (fun _ _ q=>Heap.get?_push_of_some _ q) (Nat.le_refl _) (EU s.heap I.big),rfl,h _ (I.hok.fresh (Nat.le_refl _))⟩
end
structure M2(X:Cx)(o:Expr)(m:Str)(apos:Pos)(e f:Expr)(cpos:Pos):Prop where
  base:attributeBase o m X.env (eval o X.env)=eval o X.env
  few:((backTo cpos (starEach [e,f] X.env)).all (fun x=>!x.1) && (backToKw cpos (keywordEach [] X.env)).all (fun x=>x.1.isSome)
    && decide (([e,f]:List Expr).length+([]:List Keyword).length+(if ([]:List Keyword).isEmpty then 0 else 1) < 30))=true
  line:(apos.endLine == cpos.line)=true
  trees:backTo cpos (starEach [e,f] X.env)=[(false,eval e X.env),(false,eval f X.env)]
def IsD(H:Hp)(a:Addr):Prop:=(∃ kvs,Rd H a (.dK kvs))∨∃ kvs ep,Rd H a (.dT kvs ep)
theorem Jc{X:Cx}{pins:List (Addr×Obj)}{σ:St}{H:Hp}{s:Shared}{a:Addr}(I:Inv X pins σ H s)(d:IsD H a):
    s.TypeIs (.ref a) "dict"∧(∀ b,Value.ref a= .ref b→∃ ob,s.heap.get? b=some ob∧ob.dict=none)∧(a == sysModules)=false:=by
  rcases d with ⟨kvs,e⟩ | ⟨kvs,ep,e⟩
  · obtain ⟨_,hd,vs,_,dd⟩:=Ms I.hok e
    refine ⟨dd.typeIs,fun b q=>?_,hd⟩
    cases q
    obtain ⟨ob,_,_,h1,h2,_⟩:=dd
    exact ⟨ob,h1,h2.2.1⟩
  · obtain ⟨_,hd,xs,_,dd⟩:=Hi I.hok e
    refine ⟨dd.typeIs,fun b q=>?_,hd⟩
    cases q
    obtain ⟨ob,_,_,h1,h2,_⟩:=dd
    exact ⟨ob,h1,h2.2.1⟩
section
variable{X:Cx}{pins:List (Addr×Obj)}{σ:St}{H:Hp}{s:Shared}{a:Addr}{y d:V}{u r:Value}{o:Option V}{A:Around}{E:Value→Shared→Prop}
theorem NX{Q:Value→Shared→Prop}(hu:A.units+1 < cLine)(I:Inv X pins σ H s)(g:ML H a y o)(ry:RelV y u)(rd:RelV d r)(h:∀ w' s',Inv X pins σ H s'→RelV (o.getD d) w'→Q w' s'):
    wpAny (model X.prog X.w) A (call (.builtin "dict.get") [.ref a,u,r]) Q E s:=by
  rcases g with ⟨kvs,k,e,ey,l⟩ | ⟨kvs,ep,k,b,e,ey,eb,l⟩
  · subst ey
    obtain ⟨z,hd,vs,rel,dd⟩:=Ms I.hok e
    refine call_meetsIn PySem.F.slot_dict_get dd.typeIs PySem.F.entry_dict_get (PySem.F.args_dict_get_3 _ _ _) (meets_dict_get_default (yi X.prog X.w) a (Mr ry) hd r) ⟨_,dd.mapOf,h _ _ (I.tok _) ?_⟩
    rw [l]
    exact (rel.val k).getD rd
  · subst ey
    cases (show u=Value.ref b from ry)
    obtain ⟨z,hd,xs,rel,dd⟩:=Hi I.hok e
    refine call_meetsIn PySem.F.slot_dict_get dd.typeIs PySem.F.entry_dict_get (PySem.F.args_dict_get_3 _ _ _) (meetsH_dict_get_default (tupleKind (yi X.prog X.w)) a b hd r) ⟨tupleKind_room_in1 hu,k,xs,Dr I.hok eb,dd,h _ _ (I.tok _) ?_⟩
    rw [l]
    exact (rel.val k).getD rd
end
def CV(td ty tx:TE):TE:=fun σ H Q=>td σ H fun x H1=>∃ a,x= .ref a∧IsD H1 a∧ty σ H1 fun y H2=>tx σ H2 fun z H3=>∃ o,ML H3 a y o∧Q (o.getD z) H3
section
variable{X:Cx}{o e f:Expr}{apos cpos:Pos}{td ty tx:TE}
theorem JT(hu:X.A.units+1 < cLine)(ho:PE X o td)(he:PE X e ty)(hf:PE X f tx)(m:M2 X o "get" apos e f cpos):PE X (.Call (.Attribute o "get" apos) [e,f] [] cpos) (CV td ty tx):=by
  intro pins s σ H Q I h
  refine wpAny_Call_method m.base m.few m.line PySem.F.plainAttrs_dict PySem.F.slot_dict_get PySem.F.type_dict_get (thn (ho pins s σ H _ I h) fun u s1 ⟨x,H1,I1,rx,a,ex,d,q1⟩=>?_)
  subst ex
  obtain rfl:u=Value.ref a:=rx
  obtain ⟨t1,t2,_⟩:=Jc I1 d
  refine ⟨t1,t2,?_⟩
  rw [m.trees]
  refine Calls.callWith_builtin rfl (Calls.evalArgs_plain (Calls.spliced_cons (thn (he pins s1 σ H1 _ I1 q1) fun iv s2 ⟨y,H2,I2,ry,q2⟩=>
    Calls.spliced_cons (thn (hf pins s2 σ H2 _ I2 q2) fun fv s3 ⟨z,H3,I3,rz,ov,g,q3⟩=>Calls.spliced_nil ?_))))
  exact NX hu I3 g ry rz fun w' s4 I4 rw'=>⟨_,H3,I4,rw',q3⟩
end
end L2
namespace KT
open PySem
mutual
def lf:PyData→Bool
  | .none=>true
  | .bool _=>true
  | .int _=>true
  | .str _=>true
  | .tuple xs=>lfs xs
  | .list _=>false
  | .dict _=>false
def lfs:List PyData→Bool
  | []=>true
  | x::xs=>lf x && lfs xs
end
inductive Slot where
  | par (d:PyData)
  | loc (d:PyData)
  | own (ds:List PyData)
  | own2 (ds:List PyData)
  | dct (ts:List (List Int×Int))
  | lent (ds:List PyData)
  | ex (c:Nat)
abbrev Rho:=List (Option Slot)
inductive RE where
  | ok (l:Nat) (d:PyData)
  | exc (c:Nat)
inductive RC where
  | ok (d:PyData)
  | exc (c:Nat)
inductive RI where
  | ok (l:Nat) (ds:List PyData)
  | exc (c:Nat)
inductive RS where
  | next (ρ:Rho)
  | ret (d:PyData)
  | retL (d:PyData) (ds:List PyData)
  | exc (c:Nat) (ρ:Rho)
  | brk (ρ:Rho)
  | cont (ρ:Rho)
abbrev FE:=Rho→Option RE
abbrev FI:=Rho→Option RI
abbrev FS:=Rho→Option RS
abbrev FC:=List PyData→Option RC
def zk(o:Option RE)(k:Nat→PyData→Option RE):Option RE:=
  match o with
  | none=>none
  | some (.exc c)=>some (.exc c)
  | some (.ok l d)=>k l d
def big:Nat:=100000
def lim:Nat:=2 ^ 256
def eC(d:PyData):FE:=fun _=>some (.ok 2 d)
def za(i:Nat):FE:=fun ρ=>match ρ[i]? with
  | some (some (.par d))=>some (.ok 0 d)
  | some (some (.loc d))=>some (.ok 1 d)
  | some (some (.own ds))=>some (.ok 1 (.list ds))
  | some (some (.own2 ds))=>some (.ok 1 (.list ds))
  | some (some (.lent ds))=>some (.ok 1 (.list ds))
  | some (some (.dct ts))=>some (.ok 1 (.dict (ts.map fun x=>(.tuple (x.1.map .int),.int x.2))))
  | _=>none
def e2(op:PyData→PyData→Option PyData)(fr:Bool)(fa fb:FE):FE:=fun ρ=>zk (fa ρ) fun l x=>zk (fb ρ) fun m y=>(op x y).map fun d=>.ok (if fr then 2 else min l m) d
def e1(op:PyData→Option PyData)(fr:Bool)(fa:FE):FE:=fun ρ=>zk (fa ρ) fun l x=>(op x).map fun d=>.ok (if fr then 2 else l) d
def uj:PyData→PyData→Option PyData
  | .int i,.int j=>some (.int (i+j))
  | .str x,.str y=>if x.length+y.length≤big then some (.str (x++y)) else none
  | .tuple xs,.tuple ys=>if (lfs xs && lfs ys && decide (xs.length+ys.length≤big))=true then some (.tuple (xs++ys)) else none
  | .list xs,.list ys=>if (lfs xs && lfs ys && decide (xs.length+ys.length≤big))=true then some (.list (xs++ys)) else none
  | _,_=>none
def Ix:PyData→PyData→Option PyData
  | .int i,.int j=>some (.int (i - j))
  | _,_=>none
def CMulD(i j:Int):Prop:=i.natAbs < 2 ^ 64∨j.natAbs < 2 ^ 64∨(i.natAbs < lim∧j.natAbs < lim)
instance (i j:Int):Decidable (CMulD i j):=by unfold CMulD;infer_instance
def i0:PyData→PyData→Option PyData
  | .int i,.int j=>if CMulD i j then some (.int (i * j)) else none
  | .list xs,.int k=>if (lfs xs && decide (xs.length * k.toNat≤big) && decide (k.natAbs≤big))=true then some (.list (List.replicate k.toNat xs).flatten) else none
  | _,_=>none
def Ig:PyData→PyData→Option PyData
  | .int i,.int j=>if 0 < j∧j.natAbs < lim then some (.int (i / j)) else none
  | _,_=>none
def A7:PyData→PyData→Option PyData
  | .int i,.int j=>if 0 < j then some (.int (i % j)) else none
  | _,_=>none
def Nd:PyData→PyData→Option PyData
  | .int i,.int j=>if 0≤j∧j≤1000∧i.natAbs < 2 ^ 64 then some (.int (i ^ j.toNat)) else none
  | _,_=>none
def Lu:PyData→Option PyData
  | .int i=>some (.int (-i))
  | _=>none
def ai(x y:PyData):Bool:=x.canLay0 && y.canLay0 && decide (min x.depth y.depth≤60)
def vt:PyData→PyData→Option Bool
  | .int i,.int j=>some (i == j)
  | .str i,.str j=>some (i == j)
  | .bool i,.bool j=>some (i == j)
  | x,y=>if ai x y=true then some (PyData.eqv x y) else none
def dEq(x y:PyData):Option PyData:=(vt x y).map .bool
def dNe(x y:PyData):Option PyData:=(vt x y).map fun b=>.bool (!b)
def dLt:PyData→PyData→Option PyData
  | .int i,.int j=>some (.bool (decide (i < j)))
  | _,_=>none
def dGt:PyData→PyData→Option PyData
  | .int i,.int j=>some (.bool (decide (j < i)))
  | _,_=>none
def Fd(x:PyData)(ys:List PyData):Bool:=x.canLay0 && PyData.canLayAll0 ys && decide (min (PyData.depthAll ys) x.depth≤60)
def Ea:PyData→PyData→Option Bool
  | x,.tuple ys=>if Fd x ys=true then some (ys.any fun y=>PyData.eqv y x) else none
  | x,.list ys=>if Fd x ys=true then some (ys.any fun y=>PyData.eqv y x) else none
  | _,_=>none
def dIn(x y:PyData):Option PyData:=(Ea x y).map .bool
def Af(x y:PyData):Option PyData:=(Ea x y).map fun b=>.bool (!b)
def isNone:PyData→Bool
  | .none=>true
  | _=>false
def Jx(x y:PyData):Option PyData:=if isNone y=true then some (.bool (isNone x)) else none
def DQ(x y:PyData):Option PyData:=if isNone y=true then some (.bool (!isNone x)) else none
def ixP(n:Nat)(i:Int):Option Nat:=if 0≤i then (if i < n then some i.toNat else none) else if -(n:Int)≤i then some (i+n).toNat else none
def atP{α:Type}(xs:List α)(i:Int):Option α:=(ixP xs.length i).bind fun j=>xs[j]?
def dIx:PyData→PyData→Option PyData
  | .tuple xs,.int i=>atP xs i
  | .list xs,.int i=>atP xs i
  | .str z,.int i=>if z.length≤big then (atP z.cps.toList i).map fun c=>.str ⟨#[c]⟩ else none
  | _,_=>none
def sxP(n d:Nat):Option Int→Nat
  | none=>d
  | some v=>if v < 0 then (v+n).toNat else min v.toNat n
def Jp{α:Type}(xs:List α)(lo hi:Option Int):List α:=(xs.drop (sxP xs.length 0 lo)).take (sxP xs.length xs.length hi - sxP xs.length 0 lo)
def dSl(lo hi:Option Int):PyData→Option PyData
  | .tuple xs=>if lfs xs=true then some (.tuple (Jp xs lo hi)) else none
  | .list xs=>if lfs xs=true then some (.list (Jp xs lo hi)) else none
  | _=>none
def qc:FE→FE→FE:=e2 uj true
def mi:FE→FE→FE:=e2 Ix true
def vc:FE→FE→FE:=e2 i0 true
def A4:FE→FE→FE:=e2 Ig true
def yv:FE→FE→FE:=e2 A7 true
def Mh:FE→FE→FE:=e2 Nd true
def Pi:FE→FE:=e1 Lu true
def eEq:FE→FE→FE:=e2 dEq true
def eNe:FE→FE→FE:=e2 dNe true
def eLt:FE→FE→FE:=e2 dLt true
def eGt:FE→FE→FE:=e2 dGt true
def eIn:FE→FE→FE:=e2 dIn true
def A3:FE→FE→FE:=e2 Af true
def LC:FE→FE→FE:=e2 Jx true
def DO:FE→FE→FE:=e2 DQ true
def eIx:FE→FE→FE:=e2 dIx false
inductive RO where
  | ok (i:Option Int)
  | exc (c:Nat)
abbrev FO:=Rho→Option RO
def GI:FO:=fun _=>some (.ok none)
def Eo(f:FE):FO:=fun ρ=>match f ρ with
  | some (.ok _ (.int i))=>some (.ok (some i))
  | some (.exc c)=>some (.exc c)
  | _=>none
def eSl(f:FE)(lo hi:FO):FE:=fun ρ=>zk (f ρ) fun _ x=>match lo ρ with
  | some (.ok l)=>(match hi ρ with
    | some (.ok h)=>(dSl l h x).map fun d=>.ok 2 d
    | some (.exc c)=>some (.exc c)
    | none=>none)
  | some (.exc c)=>some (.exc c)
  | none=>none
def kf(fa fb:FE):FE:=fun ρ=>zk (fa ρ) fun _ x=>match x with
  | .bool true=>fb ρ
  | .bool false=>some (.ok 2 (.bool false))
  | _=>none
def eOr(fa fb:FE):FE:=fun ρ=>zk (fa ρ) fun _ x=>match x with
  | .bool true=>some (.ok 2 (.bool true))
  | .bool false=>fb ρ
  | _=>none
def zo:List FE→FI
  | [],_=>some (.ok 2 [])
  | f::fs,ρ=>match f ρ with
    | none=>none
    | some (.exc c)=>some (.exc c)
    | some (.ok l d)=>match zo fs ρ with
      | none=>none
      | some (.exc c)=>some (.exc c)
      | some (.ok m ds)=>some (.ok (min l m) (d::ds))
def zv(o:Option RI)(k:Nat→List PyData→Option RE):Option RE:=
  match o with
  | none=>none
  | some (.exc c)=>some (.exc c)
  | some (.ok l ds)=>k l ds
def zm(fs:List FE):FE:=fun ρ=>zv (zo fs ρ) fun l ds=>some (.ok l (.tuple ds))
def qp(fs:List FE):FE:=fun ρ=>zv (zo fs ρ) fun _ ds=>if lfs ds=true then some (.ok 2 (.list ds)) else none
def j8:Option RC→Option RE
  | none=>none
  | some (.exc c)=>some (.exc c)
  | some (.ok d)=>some (.ok 2 d)
def zd(g:FC)(fs:List FE):FE:=fun ρ=>zv (zo fs ρ) fun _ ds=>j8 (g ds)
def ce:PyData→Option PyData
  | .tuple xs=>some (.int xs.length)
  | .list xs=>some (.int xs.length)
  | .str z=>if z.length≤big then some (.int z.length) else none
  | _=>none
def KB:PyData→Option PyData
  | .int i=>some (.int i)
  | .bool b=>some (.int (if b then 1 else 0))
  | _=>none
def dn:PyData→Option PyData
  | .list xs=>if lfs xs=true then some (.tuple xs) else none
  | .tuple xs=>if lfs xs=true then some (.tuple xs) else none
  | _=>none
def Hh:PyData→Option PyData
  | .list xs=>if lfs xs=true then some (.list xs) else none
  | .tuple xs=>if lfs xs=true then some (.list xs) else none
  | _=>none
inductive Ty where
  | int | bool | str | tuple | list
def CQ:Ty→PyData→Bool
  | .int,.int _=>true
  | .int,.bool _=>true
  | .bool,.bool _=>true
  | .str,.str _=>true
  | .tuple,.tuple _=>true
  | .list,.list _=>true
  | _,_=>false
def dIs(t:Ty):PyData→Option PyData
  | .dict _=>none
  | d=>some (.bool (CQ t d))
def wm:FE→FE:=e1 ce true
def Jo:FE→FE:=e1 KB true
def xc:FE→FE:=e1 dn true
def ro:FE→FE:=e1 Hh true
def eIs(t:Ty):FE→FE:=e1 (dIs t) true
def uk(f:FE):FI:=fun ρ=>match f ρ with
  | some (.ok l (.list ds))=>if lfs ds=true then some (.ok l ds) else none
  | some (.ok _ (.tuple ds))=>if lfs ds=true then some (.ok 2 ds) else none
  | some (.exc c)=>some (.exc c)
  | _=>none
def bh(n:Nat):List PyData:=(List.range n).map fun (k:Nat)=>.int (k:Int)
def iR1(f:FE):FI:=fun ρ=>match f ρ with
  | some (.ok _ (.int n))=>if n.natAbs≤big then some (.ok 2 (bh n.toNat)) else none
  | some (.exc c)=>some (.exc c)
  | _=>none
def vy(n:Nat):List PyData:=(List.range n).map fun (k:Nat)=>.int ((n:Int) - 1 - (k:Int))
def Ay(f:FE):FI:=fun ρ=>match f ρ with
  | some (.ok _ (.int a))=>if a.natAbs≤big then some (.ok 2 (vy (a+1).toNat)) else none
  | some (.exc c)=>some (.exc c)
  | _=>none
def w4:List PyData→Option (List Int)
  | []=>some []
  | .int i::r=>(w4 r).map (i::·)
  | _=>none
def xa:List Int→List Int→Bool
  | [],[]=>false
  | [],_::_=>true
  | _::_,[]=>false
  | x::xs,y::ys=>if x=y then xa xs ys else decide (x < y)
def bo:Option (Option Slot)→Option Slot
  | some (some (.par d))=>some (.par d)
  | some (some (.loc d))=>some (.par d)
  | some (some (.own ds))=>some (.par (.list ds))
  | _=>none
def ny(elt:FE)(env:Rho):List PyData→Option (List PyData)
  | []=>some []
  | d::ds=>match elt (some (.par d)::env) with
    | some (.ok _ x)=>if lf x=true then (ny elt env ds).map (x::·) else none
    | _=>none
def BQ(it:FI)(ids:List Nat)(elt:FE):FE:=fun ρ=>match it ρ with
  | none=>none
  | some (.exc c)=>some (.exc c)
  | some (.ok _ ds)=>if ds.length≤big then (ny elt (ids.map fun i=>bo ρ[i]?) ds).map fun xs=>.ok 2 (.list xs) else none
def asg(l:Nat)(d:PyData):Option Slot:=
  if lf d=true then some (.loc d) else if 2≤l then (match d with
    | .list ds=>if lfs ds=true then some (.own ds) else some (.loc d)
    | _=>some (.loc d)) else none
def zi(o:Option RE)(ρ:Rho)(k:Nat→PyData→Option RS):Option RS:=
  match o with
  | none=>none
  | some (.exc c)=>some (.exc c ρ)
  | some (.ok l d)=>k l d
def zj:FS:=fun ρ=>some (.next ρ)
def ze(a b:FS):FS:=fun ρ=>match a ρ with
  | some (.next ρ')=>b ρ'
  | r=>r
def zn(i:Nat)(f:FE):FS:=fun ρ=>zi (f ρ) ρ fun l d=>(asg l d).map fun s=>.next (ρ.set i (some s))
def zu(f:FE):FS:=fun ρ=>zi (f ρ) ρ fun l d=>if (lf d || decide (1≤l))=true then some (.ret d) else none
def sIf(c:FE)(a b:FS):FS:=fun ρ=>zi (c ρ) ρ fun _ d=>match d with
  | .bool true=>a ρ
  | .bool false=>b ρ
  | _=>none
def vk(i:Nat)(f:FE):FS:=fun ρ=>match ρ[i]? with
  | some (some (.own xs))=>zi (f ρ) ρ fun _ d=>if (lf d && decide (xs.length < big))=true then some (.next (ρ.set i (some (.own (xs++[d]))))) else none
  | _=>none
def u1(i:Nat)(f:FE):FS:=fun ρ=>match ρ[i]? with
  | some (some (.own xs))=>zi (f ρ) ρ fun _ d=>match d with
    | .list ys=>if (lfs ys && decide (xs.length+ys.length≤big))=true then some (.next (ρ.set i (some (.own (xs++ys))))) else none
    | .tuple ys=>if (lfs ys && decide (xs.length+ys.length≤big))=true then some (.next (ρ.set i (some (.own (xs++ys))))) else none
    | _=>none
  | _=>none
def Hx(j i:Nat):FS:=fun ρ=>match ρ[i]? with
  | some (some (.own xs))=>(match xs[xs.length - 1]? with
    | some d=>if i=j then none else some (.next ((ρ.set i (some (.own xs.dropLast))).set j (some (.loc d))))
    | none=>none)
  | _=>none
abbrev FT:=PyData→Rho→Option Rho
def zw(i:Nat):FT:=fun d ρ=>some (ρ.set i (some (.loc d)))
def xw(i j:Nat):FT:=fun d ρ=>match d with
  | .tuple [x,y]=>some ((ρ.set i (some (.loc x))).set j (some (.loc y)))
  | _=>none
def nh(t:FT)(f:FE):FS:=fun ρ=>zi (f ρ) ρ fun _ d=>if lf d=true then (t d ρ).map .next else none
def q8(tg:FT)(body:FS):List PyData→Rho→Option RS
  | [],ρ=>some (.next ρ)
  | d::ds,ρ=>match tg d ρ with
    | none=>none
    | some ρ1=>match body ρ1 with
      | some (.next ρ2)=>q8 tg body ds ρ2
      | some (.cont ρ2)=>q8 tg body ds ρ2
      | some (.brk ρ2)=>some (.next ρ2)
      | r=>r
def kz(it:FI)(tg:FT)(body:FS):FS:=fun ρ=>match it ρ with
  | none=>none
  | some (.exc c)=>some (.exc c ρ)
  | some (.ok l ds)=>if 2≤l then q8 tg body ds ρ else none
def yw(i:Nat)(tg:FT)(body:FS):FS:=fun ρ=>match ρ[i]? with
  | some (some (.own xs))=>q8 tg body xs (ρ.set i (some (.loc (.list xs))))
  | some (some (.par (.list xs)))=>if lfs xs=true then q8 tg body xs ρ else none
  | some (some (.loc (.list xs)))=>if lfs xs=true then q8 tg body xs ρ else none
  | some (some (.par (.tuple xs)))=>if lfs xs=true then q8 tg body xs ρ else none
  | some (some (.loc (.tuple xs)))=>if lfs xs=true then q8 tg body xs ρ else none
  | _=>none
def ya(c:FE)(body:FS):Nat→Rho→Option RS
  | 0,_=>none
  | n+1,ρ=>zi (c ρ) ρ fun _ d=>match d with
    | .bool true=>(match body ρ with
      | some (.next ρ')=>ya c body n ρ'
      | some (.cont ρ')=>ya c body n ρ'
      | some (.brk ρ')=>some (.next ρ')
      | r=>r)
    | .bool false=>some (.next ρ)
    | _=>none
def wFuel:Nat:=100000
def bi(c:FE)(body:FS):FS:=fun ρ=>ya c body wFuel ρ
def qt(n:Nat)(b:FS):FC:=fun ds=>match b (ds.map (fun d=>some (.par d))++List.replicate (n - ds.length) none) with
  | some (.ret d)=>some (.ok d)
  | some (.next _)=>some (.ok .none)
  | some (.exc c _)=>some (.exc c)
  | _=>none
end KT
namespace KT
open PySem L2
abbrev PP:=Bool→Addr→Prop
def Rl(P:PP)(H:Hp)(a:Addr)(u:HO):Prop:=(P false a∧H a=some u)∨(P true a∧∃ o,H a=some (.frz o u))
theorem Rl.rd{P:PP}{H:Hp}{a:Addr}{u:HO}(h:Rl P H a u):Rd H a u:=h.elim (fun x=>.inl x.2) fun x=>.inr x.2
def dEnt(x:List Int×Int):List Key×V:=(x.1.map .inl,.int x.2)
def DA(x:List Int×Int):PyData×PyData:=(.tuple (x.1.map .int),.int x.2)
theorem Rd.same{H H':Hp}(s:Same H H'){a:Addr}{u:HO}(h:Rd H a u):Rd H' a u:=by
  rcases h with h | ⟨o,h⟩
  · exact .inl (s _ _ h)
  · exact .inr ⟨o,s _ _ h⟩
mutual
def Rep(P:PP)(H:Hp):PyData→V→Prop
  | .none,v=>v= .non
  | .bool b,v=>v= .bl b
  | .int i,v=>v= .int i
  | .str x,v=>v= .str x
  | .tuple ds,v=>∃ a vs,v= .ref a∧Rd H a (.tup vs)∧Reps P H ds vs
  | .list ds,v=>∃ a vs,v= .ref a∧Rl P H a (.lst vs)∧Reps P H ds vs
  | .dict kvs,v=>(∃ a:Nat,kvs=[(.none,.int a)]∧v= .ref a)∨∃ (a:Addr) (ts:List (List Int×Int)) (ep:Nat),v= .ref a∧kvs=ts.map DA∧Rl P H a (.dT (ts.map dEnt) ep)
def Reps(P:PP)(H:Hp):List PyData→List V→Prop
  | [],vs=>vs=[]
  | d::ds,vs=>∃ v r,vs=v::r∧Rep P H d v∧Reps P H ds r
end
mutual
theorem Rep.mono{P P':PP}{H H':Hp}(hT:∀ a vs,Rd H a (.tup vs)→Rd H' a (.tup vs))(hL:∀ a u,Rl P H a u→Rl P' H' a u):
    ∀ (d:PyData) (v:V),Rep P H d v→Rep P' H' d v
  | .none,_,h=>h
  | .bool _,_,h=>h
  | .int _,_,h=>h
  | .str _,_,h=>h
  | .tuple ds,_,⟨a,vs,e,h,r⟩=>⟨a,vs,e,hT a vs h,Reps.mono hT hL ds vs r⟩
  | .list ds,_,⟨a,vs,e,h,r⟩=>⟨a,vs,e,hL a _ h,Reps.mono hT hL ds vs r⟩
  | .dict _,_,h=>h.imp (fun x=>x) fun ⟨a,ts,ep,e,q,r⟩=>⟨a,ts,ep,e,q,hL a _ r⟩
theorem Reps.mono{P P':PP}{H H':Hp}(hT:∀ a vs,Rd H a (.tup vs)→Rd H' a (.tup vs))(hL:∀ a u,Rl P H a u→Rl P' H' a u):
    ∀ (ds:List PyData) (vs:List V),Reps P H ds vs→Reps P' H' ds vs
  | [],_,h=>h
  | d::ds,_,⟨v,r,e,h,t⟩=>⟨v,r,e,Rep.mono hT hL d v h,Reps.mono hT hL ds r t⟩
end
theorem Rl.same{P:PP}{H H':Hp}(s:Same H H'){a:Addr}{vs:HO}(h:Rl P H a vs):Rl P H' a vs:=by
  rcases h with ⟨p,h⟩ | ⟨p,o,h⟩
  · exact .inl ⟨p,s _ _ h⟩
  · exact .inr ⟨p,o,s _ _ h⟩
theorem Rl.imp{P P':PP}{H:Hp}(hP:∀ z a,P z a→P' z a){a:Addr}{vs:HO}(h:Rl P H a vs):Rl P' H a vs:=by
  rcases h with ⟨p,h⟩ | ⟨p,o,h⟩
  · exact .inl ⟨hP _ _ p,h⟩
  · exact .inr ⟨hP _ _ p,o,h⟩
theorem Rep.same{P:PP}{H H':Hp}(s:Same H H'){d:PyData}{v:V}(h:Rep P H d v):Rep P H' d v:=
  Rep.mono (fun _ _ e=>Rd.same s e) (fun _ _ r=>r.same s) d v h
theorem Reps.same{P:PP}{H H':Hp}(s:Same H H'){d:List PyData}{v:List V}(h:Reps P H d v):Reps P H' d v:=
  Reps.mono (fun _ _ e=>Rd.same s e) (fun _ _ r=>r.same s) d v h
theorem Rep.imp{P P':PP}{H:Hp}(hP:∀ z a,P z a→P' z a){d:PyData}{v:V}(h:Rep P H d v):Rep P' H d v:=
  Rep.mono (fun _ _ e=>e) (fun _ _ r=>r.imp hP) d v h
theorem Reps.imp{P P':PP}{H:Hp}(hP:∀ z a,P z a→P' z a){d:List PyData}{v:List V}(h:Reps P H d v):Reps P' H d v:=
  Reps.mono (fun _ _ e=>e) (fun _ _ r=>r.imp hP) d v h
mutual
theorem Rep.free{P P':PP}{H H':Hp}(hT:∀ a vs,Rd H a (.tup vs)→Rd H' a (.tup vs)):∀ (d:PyData) (v:V),lf d=true→Rep P H d v→Rep P' H' d v
  | .none,_,_,h=>h
  | .bool _,_,_,h=>h
  | .int _,_,_,h=>h
  | .str _,_,_,h=>h
  | .tuple ds,_,f,⟨a,vs,e,h,r⟩=>⟨a,vs,e,hT a vs h,Reps.free hT ds vs (by simpa [lf] using f) r⟩
  | .list _,_,f,_=>by simp [lf] at f
  | .dict _,_,f,_=>by simp [lf] at f
theorem Reps.free{P P':PP}{H H':Hp}(hT:∀ a vs,Rd H a (.tup vs)→Rd H' a (.tup vs)):∀ (ds:List PyData) (vs:List V),lfs ds=true→Reps P H ds vs→Reps P' H' ds vs
  | [],_,_,h=>h
  | d::ds,_,f,⟨v,r,e,h,t⟩=>by
    have f':lf d=true∧lfs ds=true:=by simpa [lfs] using f
    exact ⟨v,r,e,Rep.free hT d v f'.1 h,Reps.free hT ds r f'.2 t⟩
end
theorem Rep.nl{P P':PP}{H:Hp}{d:PyData}{v:V}(f:lf d=true)(h:Rep P H d v):Rep P' H d v:=Rep.free (fun _ _ e=>e) d v f h
theorem Reps.nl{P P':PP}{H:Hp}{d:List PyData}{v:List V}(f:lfs d=true)(h:Reps P H d v):Reps P' H d v:=Reps.free (fun _ _ e=>e) d v f h
theorem Reps.length{P:PP}{H:Hp}:∀ {ds:List PyData} {vs:List V},Reps P H ds vs→vs.length=ds.length
  | [],_,h=>by cases (show _=_ from h);rfl
  | d::ds,_,⟨v,r,e,_,t⟩=>by subst e;simp [Reps.length t]
theorem Reps.get{P:PP}{H:Hp}:∀ {ds:List PyData} {vs:List V} {i:Nat} {d:PyData},Reps P H ds vs→ds[i]? =some d→∃ v,vs[i]? =some v∧Rep P H d v
  | [],_,_,_,_,e=>by simp at e
  | d::ds,_,0,d',⟨v,r,e,h,t⟩,q=>by subst e;simp at q;subst q;exact ⟨v,rfl,h⟩
  | d::ds,_,i+1,d',⟨v,r,e,h,t⟩,q=>by
    subst e
    obtain ⟨u,q1,q2⟩:=Reps.get (i:=i) t (by simpa using q)
    exact ⟨u,by simpa using q1,q2⟩
theorem Reps.append{P:PP}{H:Hp}:∀ {ds es:List PyData} {vs us:List V},Reps P H ds vs→Reps P H es us→Reps P H (ds++es) (vs++us)
  | [],_,_,_,h,t=>by cases (show _=_ from h);exact t
  | d::ds,_,_,_,⟨v,r,e,h,t⟩,q=>by subst e;exact ⟨v,_,rfl,h,Reps.append t q⟩
theorem Reps.one{P:PP}{H:Hp}{d:PyData}{v:V}(h:Rep P H d v):Reps P H [d] [v]:=⟨v,[],rfl,h,rfl⟩
theorem Reps.drop{P:PP}{H:Hp}:∀ {ds:List PyData} {vs:List V} (n:Nat),Reps P H ds vs→Reps P H (ds.drop n) (vs.drop n)
  | _,_,0,h=>h
  | [],_,n+1,h=>by cases (show _=_ from h);exact rfl
  | d::ds,_,n+1,⟨v,r,e,h,t⟩=>by subst e;exact Reps.drop n t
theorem Reps.take{P:PP}{H:Hp}:∀ {ds:List PyData} {vs:List V} (n:Nat),Reps P H ds vs→Reps P H (ds.take n) (vs.take n)
  | _,_,0,h=>rfl
  | [],_,n+1,h=>by cases (show _=_ from h);exact rfl
  | d::ds,_,n+1,⟨v,r,e,h,t⟩=>by subst e;exact ⟨v,_,rfl,h,Reps.take n t⟩
theorem JZ:∀ {xs:List PyData},(∀ x∈xs,lf x=true)→lfs xs=true
  | [],_=>rfl
  | y::ys,f=>by simp [lfs,f y (List.mem_cons_self ..),JZ fun x h=>f x (List.mem_cons_of_mem _ h)]
section
variable{X:Cx}{pins:List (Addr×Obj)}{σ:St}{H:Hp}{s:Shared}{P:PP}
mutual
theorem ym(I:Inv X pins σ H s):∀ (d:PyData) (v:V) (u:Value),d.canLay0=true→Rep P H d v→RelV v u→∃ as,Reads s.heap u d as
  | .none,_,_,_,h,r=>by cases (show _=_ from h);cases r;exact ⟨_,.none⟩
  | .bool b,_,_,_,h,r=>by cases (show _=_ from h);cases r;exact ⟨_,.bool b⟩
  | .int i,_,_,_,h,r=>by cases (show _=_ from h);obtain ⟨t,rfl⟩:=r;exact ⟨_,.int i t⟩
  | .str x,_,_,_,h,r=>by cases (show _=_ from h);obtain ⟨t,rfl⟩:=r;exact ⟨_,.str x t⟩
  | .tuple ds,_,_,c,⟨a,vs,e,h,t⟩,r=>by
    subst e;cases r
    obtain ⟨its,rs,⟨o,ho,hc,n,hd⟩,_⟩:=I.tuple (.inl h)
    obtain ⟨as,q⟩:=cx I ds vs its (by simpa [PyData.canLay0] using c) t rs
    exact ⟨_,.tuple ho hc hd q⟩
  | .list ds,_,_,c,⟨a,vs,e,h,t⟩,r=>by
    subst e;cases r
    obtain ⟨its,rs,⟨o,n,ho,hc,hd0,hd⟩,_⟩:=I.list (.inl h.rd)
    obtain ⟨as,q⟩:=cx I ds vs its (by simpa [PyData.canLay0] using c) t rs
    exact ⟨_,.list ho hc hd q⟩
  | .dict _,_,_,c,_,_=>by simp [PyData.canLay0] at c
theorem cx(I:Inv X pins σ H s):∀ (ds:List PyData) (vs:List V) (us:List Value),PyData.canLayAll0 ds=true→Reps P H ds vs→Vals vs us→∃ as,ReadsAll s.heap us ds as
  | [],_,_,_,h,r=>by cases (show _=_ from h);cases r;exact ⟨_,.nil⟩
  | d::ds,_,_,c,⟨v,t,e,h,hs⟩,r=>by
    subst e
    have c':d.canLay0=true∧PyData.canLayAll0 ds=true:=by simpa [PyData.canLayAll0] using c
    cases r with
    | cons r1 r2=>
      obtain ⟨as,q⟩:=ym I d v _ c'.1 h r1
      obtain ⟨bs,q'⟩:=cx I ds t _ c'.2 hs r2
      exact ⟨_,.cons q q'⟩
end
end
def PL(H₀ Hs:Hp):Nat→PP
  | 0=>fun _ _=>True
  | 1=>fun z a=>z=false∧H₀ a=none
  | _=>fun z a=>z=false∧Hs a=none
theorem PL.le{H₀ Hs:Hp}(s:Same H₀ Hs){l m:Nat}(h:l≤m){z:Bool}{a:Addr}(p:PL H₀ Hs m z a):PL H₀ Hs l z a:=by
  match l,m with
  | 0,_=>exact trivial
  | 1,1=>exact p
  | 1,m+2=>exact ⟨p.1,s.free p.2⟩
  | l+2,m+2=>exact p
  | l+1,0=>omega
  | l+2,1=>omega
def XRep(cv:Nat→Value)(H:Hp)(c:Nat)(a:Addr):Prop:=∃ φ,H a=some (.ext φ)∧∀ h,φ h→∃ o,h.get? a=some o∧o.cls=cv c∧o.dict=none∧∃ vs,o.data= .fields vs
theorem XRep.same{cv:Nat→Value}{H H':Hp}{c:Nat}{a:Addr}(s:Same H H')(h:XRep cv H c a):XRep cv H' c a:=let ⟨φ,e,r⟩:=h;⟨φ,s _ _ e,r⟩
def DR(H:Hp)(ts:List (List Int×Int))(a:Addr):Prop:=∃ ep,H a=some (.dT (ts.map dEnt) ep)
theorem DR.same{H H':Hp}{ks:List (List Int×Int)}{a:Addr}(s:Same H H')(h:DR H ks a):DR H' ks a:=let ⟨ep,q⟩:=h;⟨ep,s _ _ q⟩
def VS(cv:Nat→Value)(H₀:Hp)(o:Option (Option V))(H:Hp):Slot→Prop
  | .par d=>∃ v,o=some (some v)∧Rep (fun _ _=>True) H d v
  | .loc d=>∃ v,o=some (some v)∧Rep (fun z a=>z=false∧H₀ a=none) H d v
  | .own ds=>∃ v,o=some (some v)∧Rep (fun z a=>z=false∧H₀ a=none) H (.list ds) v
  | .own2 ds=>∃ v,o=some (some v)∧Rep (fun z a=>z=false∧H₀ a=none) H (.list ds) v
  | .lent ds=>∃ v,o=some (some v)∧Rep (fun z a=>z=false∧H₀ a=none) H (.list ds) v
  | .dct ks=>∃ v,o=some (some v)∧Rep (fun z a=>z=false∧H₀ a=none) H (.dict (ks.map DA)) v
  | .ex c=>∃ a,o=some (some (.ref a))∧XRep cv H c a
theorem VS.same{cv:Nat→Value}{H₀ H H':Hp}{o:Option (Option V)}(s:Same H H'):∀ {t:Slot},VS cv H₀ o H t→VS cv H₀ o H' t
  | .par _,⟨v,e,h⟩=>⟨v,e,h.same s⟩
  | .loc _,⟨v,e,h⟩=>⟨v,e,h.same s⟩
  | .own _,⟨v,e,h⟩=>⟨v,e,h.same s⟩
  | .own2 _,⟨v,e,h⟩=>⟨v,e,h.same s⟩
  | .lent _,⟨v,e,h⟩=>⟨v,e,h.same s⟩
  | .dct _,⟨v,e,h⟩=>⟨v,e,h.same s⟩
  | .ex _,⟨a,e,h⟩=>⟨a,e,h.same s⟩
structure G(cv:Nat→Value)(H₀ Hs:Hp)(ρ:Rho)(σ:St)(H:Hp):Prop where
  s0:Same H₀ Hs
  s1:Same Hs H
  vr:∀ (i:Nat) t,ρ[i]? =some (some t)→VS cv H₀ σ[i]? H t
theorem G.same{cv:Nat→Value}{H₀ Hs H H':Hp}{ρ:Rho}{σ:St}(g:G cv H₀ Hs ρ σ H)(s:Same H H'):G cv H₀ Hs ρ σ H':=⟨g.s0,g.s1.trans s,fun i t e=>(g.vr i t e).same s⟩
abbrev XOF:=Nat→St→Hp→Prop
structure XOT where
  cv:Nat→Value
  f:XOF
def KK(XO:XOT)(H₀ Hs:Hp)(σ:St)(H:Hp)(Q:VK)(r:RE):Prop:=
  (∀ l d v H',r= .ok l d→Same H H'→Rep (PL H₀ Hs l) H' d v→Q v H')∧∀ c H',r= .exc c→Same H H'→XO.f c σ H'
theorem KK.same{XO:XOT}{H₀ Hs:Hp}{σ:St}{H H':Hp}{Q:VK}{r:RE}(k:KK XO H₀ Hs σ H Q r)(s:Same H H'):KK XO H₀ Hs σ H' Q r:=
  ⟨fun l d v H2 e t=>k.1 l d v H2 e (s.trans t),fun c H2 e t=>k.2 c H2 e (s.trans t)⟩
def tF(XO:XOT)(f:FE):TE:=fun σ H Q=>∃ H₀ Hs ρ r,G XO.cv H₀ Hs ρ σ H∧f ρ=some r∧KK XO H₀ Hs σ H Q r
theorem kn{XO:XOT}{H₀ Hs:Hp}{ρ:Rho}{σ:St}{H:Hp}{Q Q':VK}{fa:FE}{k:Nat→PyData→Option RE}{r:RE}(g:G XO.cv H₀ Hs ρ σ H)(e:zk (fa ρ) k=some r)(kk:KK XO H₀ Hs σ H Q r)
    (cont:∀ l d v H1,Same H H1→G XO.cv H₀ Hs ρ σ H1→Rep (PL H₀ Hs l) H1 d v→k l d=some r→KK XO H₀ Hs σ H1 Q r→Q' v H1):tF XO fa σ H Q':=by
  cases h:fa ρ with
  | none=>rw [h] at e;cases e
  | some x=>
    rw [h] at e
    cases x with
    | exc c=>
      cases (Option.some.inj e)
      exact ⟨H₀,Hs,ρ,.exc c,g,h,⟨fun l d v H' e=>(nomatch e),kk.2⟩⟩
    | ok l d=>
      refine ⟨H₀,Hs,ρ,.ok l d,g,h,⟨fun l' d' v H' e' s rp=>?_,fun c H' e=>(nomatch e)⟩⟩
      cases e'
      exact cont l d v H' s (g.same s) rp e (kk.same s)
theorem KK.give{XO:XOT}{H₀ Hs:Hp}{σ:St}{H:Hp}{Q:VK}{r:RE}{l:Nat}{d:PyData}{v:V}{H':Hp}(kk:KK XO H₀ Hs σ H Q r)(e:some (RE.ok l d)=some r)(s:Same H H')(rp:Rep (PL H₀ Hs l) H' d v):Q v H':=
  kk.1 l d v H' (Option.some.inj e).symm s rp
section
variable{X:Cx}{XO:XOT}{a b c:Expr}{fa fb fc:FE}{pos:Pos}
theorem PE.imp{e:Expr}{t t':TE}(h:PE X e t)(f:∀ σ H Q,t' σ H Q→t σ H Q):PE X e t':=fun pins s σ H Q I q=>h pins s σ H Q I (f σ H Q q)
theorem PT.imp{e:Expr}{t t':TT}(h:PT X e t)(f:∀ σ H Q,t' σ H Q→t σ H Q):PT X e t':=fun pins s σ H Q I q=>h pins s σ H Q I (f σ H Q q)
theorem PS.imp{e:Stmt}{t t':TS}(h:PS X e t)(f:∀ D σ H,t' D σ H→t D σ H):PS X e t':=fun pins s σ H D I q=>h pins s σ H D I (f D σ H q)
theorem zg{i:Int}{j pos}:PE X (.Constant (.int i) j pos) (tF XO (eC (.int i))):=PE.imp CF fun σ H Q ⟨H₀,Hs,ρ,r,g,e,kk⟩=>kk.give e (Same.refl _) rfl
theorem qd{i:Str}{j pos}:PE X (.Constant (.str i) j pos) (tF XO (eC (.str i))):=PE.imp MO fun σ H Q ⟨H₀,Hs,ρ,r,g,e,kk⟩=>kk.give e (Same.refl _) rfl
theorem Ol{i:Bool}{j pos}:PE X (.Constant (.bool i) j pos) (tF XO (eC (.bool i))):=PE.imp Ph fun σ H Q ⟨H₀,Hs,ρ,r,g,e,kk⟩=>kk.give e (Same.refl _) rfl
theorem BD{j pos}:PE X (.Constant .none j pos) (tF XO (eC .none)):=PE.imp Nv fun σ H Q ⟨H₀,Hs,ρ,r,g,e,kk⟩=>kk.give e (Same.refl _) rfl
theorem zc(i:Nat){x:Str}{pos:Pos}(hN:X.N[i]? =some x:=by rfl)(hv:Vis X.env.scope x:=by first | exact Or.inl rfl | exact Or.inr (Or.inl rfl) | exact Or.inr (Or.inr rfl))(hd:(x == ("__debug__":Str))=false:=by decide)
    (hcd:(x == ("__classdict__":Str))=false:=by decide):PE X (.Name x pos) (tF XO (za i)):=PE.imp (w5 hN hv hd hcd) fun σ H Q ⟨H₀,Hs,ρ,r,g,e,kk⟩=>by
  unfold za at e
  have vr:=g.vr i
  split at e
  · rename_i d hρ
    obtain ⟨v,h1,h2⟩:=vr _ hρ
    exact ⟨v,h1,kk.give e (Same.refl _) h2⟩
  · rename_i d hρ
    obtain ⟨v,h1,h2⟩:=vr _ hρ
    exact ⟨v,h1,kk.give e (Same.refl _) h2⟩
  · rename_i d hρ
    obtain ⟨v,h1,h2⟩:=vr _ hρ
    exact ⟨v,h1,kk.give e (Same.refl _) h2⟩
  · rename_i d hρ
    obtain ⟨v,h1,h2⟩:=vr _ hρ
    exact ⟨v,h1,kk.give e (Same.refl _) h2⟩
  · rename_i d hρ
    obtain ⟨v,h1,h2⟩:=vr _ hρ
    exact ⟨v,h1,kk.give e (Same.refl _) h2⟩
  · rename_i d hρ
    obtain ⟨v,h1,h2⟩:=vr _ hρ
    exact ⟨v,h1,kk.give e (Same.refl _) h2⟩
  · cases e
def OpD(r:R2)(op:PyData→PyData→Option PyData)(fr:Bool):Prop:=
  ∀ (H₀ Hs H:Hp) (l m:Nat) (x y d:PyData) (v u:V) (Q:VK),Same H₀ Hs→Same Hs H→op x y=some d→Rep (PL H₀ Hs l) H x v→Rep (PL H₀ Hs m) H y u→
    (∀ z H',Same H H'→Rep (PL H₀ Hs (if fr then 2 else min l m)) H' d z→Q z H')→r v u H Q
theorem t6{r:R2}{op:PyData→PyData→Option PyData}{fr:Bool}(ho:OpD r op fr){σ:St}{H:Hp}{Q:VK}(h:tF XO (e2 op fr fa fb) σ H Q):tOp r (tF XO fa) (tF XO fb) σ H Q:=by
  obtain ⟨H₀,Hs,ρ,rr,g,e,kk⟩:=h
  refine kn g e kk fun l x v H1 s1 g1 r1 e1 k1=>?_
  refine kn g1 e1 k1 fun m y u H2 s2 g2 r2 e2' k2=>?_
  cases hd:op x y with
  | none=>rw [hd] at e2';cases e2'
  | some d=>
    rw [hd] at e2'
    exact ho H₀ Hs H2 l m x y d v u Q g2.s0 g2.s1 hd (r1.same s2) r2 fun z H' s rp=>k2.give e2' s rp
theorem FP{op:Operator}{r:R2}{f:PyData→PyData→Option PyData}{fr:Bool}(ho:OpR X (binaryOp op) r)(hd:OpD r f fr)(ha:PE X a (tF XO fa))(hb:PE X b (tF XO fb)):PE X (.BinOp a op b pos) (tF XO (e2 f fr fa fb)):=
  PE.imp (IA ho ha hb) fun _ _ _ h=>t6 hd h
theorem OD{op:CmpOp}{r:R2}{f:PyData→PyData→Option PyData}{fr:Bool}(ho:OpR X (compareOp op) r)(hd:OpD r f fr)(ha:PE X a (tF XO fa))(hb:PE X b (tF XO fb))(hm:behindInMarks op b=false):PE X (.Compare a [op] [b] pos) (tF XO (e2 f fr fa fb)):=
  PE.imp (Mk ho ha hb hm) fun _ _ _ h=>t6 hd h
theorem Pw{r:R2}{f:PyData→PyData→Option PyData}{fr:Bool}(ho:IxR X r)(hd:OpD r f fr)(ha:PE X a (tF XO fa))(hb:PE X b (tF XO fb))(hs:CC b):PE X (.Subscript a b pos) (tF XO (e2 f fr fa fb)):=
  PE.imp (M0 ho ha hb hs) fun _ _ _ h=>t6 hd h
end
end KT
namespace KT
open PySem PySem.Spec PyProof.Rows L2
theorem qb{H:Hp}{p:Addr}(h:H p=none)(o:HO):Same H (upd H p o):=fun b u q=>by rw [zt (jk q h)];exact q
theorem Db:big≤sizeLine:=by decide
theorem ut{n:Nat}(h:n≤big):n≤sizeLine:=Nat.le_trans h Db
section
variable{X:Cx}{XO:XOT}{a b c:Expr}{fa fb fc:FE}{pos:Pos}
def rCatE:R2:=fun x y H Q=>∃ a b ys,x= .ref a∧y= .ref b∧Rd H a (.tup [])∧Rd H b (.tup ys)∧Q (.ref b) H
theorem op_catE:OpR X (binaryOp .Add) rCatE:=by
  intro pins s σ H x y v u Q I rx ry h
  obtain ⟨a,b,ys,rfl,rfl,ha,hb,q⟩:=h
  cases rx
  cases ry
  obtain ⟨its,r1,p1,_⟩:=I.tuple (.inl ha)
  obtain ⟨its2,r2,p2,_⟩:=I.tuple (.inl hb)
  obtain ⟨⟨cls,dd,data,sl⟩,ho,hc,n,hd⟩:=id p1
  obtain ⟨⟨cls2,dd2,data2,sl2⟩,ho2,hc2,n2,hd2⟩:=id p2
  simp only at hc hd hc2 hd2
  subst hc hd hc2 hd2
  have hv:its=[]:=r1.nil_iff.mpr rfl
  exact concat_meets ⟨_,ho,rfl⟩ ⟨_,ho2,rfl⟩ noFill_tuple_add seq_tuple_add PySem.F.slot_tuple_add PySem.F.entry_tuple_add (PySem.F.args_tuple_add_2 _ _)
    (tuple_addW0 a b its.toArray its2.toArray n n2 dd dd2 sl sl2 (by simp [hv])) ⟨ho,ho2,⟨.ref b,H,I,rfl,q⟩⟩
theorem Mb{pins:List (Addr×Obj)}{σ:L2.St}{H:Hp}{s:Shared}{l:Addr}{xs:List V}(I:Inv X pins σ H s)(hH:Rd H l (.lst xs)):
    xs.length≤sizeLine∧∃ (its:List Value) (n:Nat),Vals xs its∧xs.length=its.length∧s.heap.get? l=some {cls:=.type "list",data:=.seq its.toArray n}:=by
  obtain ⟨z,its,n,r,e⟩:=hH.ok I.hok
  exact ⟨z,its,n,r,r.length,e⟩
def rCatR:R2:=fun x y H Q=>∃ l b xs zs,x= .ref l∧y= .ref b∧Rd H l (.lst xs)∧Rd H b (.lst zs)∧xs.length+zs.length≤sizeLine∧∀ p,H p=none→Q (.ref p) (upd H p (.lst (xs++zs)))
theorem KQ:OpR X (binaryOp .Add) rCatR:=by
  intro pins s σ H x y v u Q I rx ry h
  obtain ⟨l,b,xs,zs,rfl,rfl,hH,hB,hz,q⟩:=h
  cases rx
  cases ry
  obtain ⟨z,its,n,r,hl,e⟩:=Mb I hH
  obtain ⟨z2,its2,n2,r2,hl2,e2⟩:=Mb I hB
  refine PySem.P.add_list e e2 ?_ (by rw [List.size_toArray,List.size_toArray];omega)
  have ea:its.toArray++its2.toArray=(its++its2).toArray:=by simp
  rw [ea]
  exact ⟨.ref _,_,I.lnew (t':=s.toks) (r.append r2) (by rw [List.length_append];omega),rfl,q _ I.fresh⟩
def On:R2:=fun x y H Q=>∃ i j,x= .str i∧y= .str j∧i.length+j.length≤sizeLine∧Q (.str (i++j)) H
def Mu(K:PySem.W.Frag):R2:=fun x y H Q=>rI0 (fun i j=>.int (i+j)) x y H Q∨On x y H Q∨MB K x y H Q∨rCatE x y H Q∨rCatR x y H Q
theorem KP:OpR X (binaryOp .Add) (Mu X.K):=op_add.or (OpR.or Fl (op_catT.or (op_catE.or KQ)))
theorem Nj{K:PySem.W.Frag}:OpD (Mu K) uj true:=by
  intro H₀ Hs H l m x y d v u Q s0 s1 e rx ry q
  unfold uj at e
  split at e
  · rename_i i j
    cases (show v= .int i from rx);cases (show u= .int j from ry);cases e
    exact .inl ⟨i,j,rfl,rfl,q _ H (Same.refl H) rfl⟩
  · rename_i x y
    split at e
    · rename_i hz
      cases (show v= .str x from rx);cases (show u= .str y from ry);cases e
      exact .inr (.inl ⟨x,y,rfl,rfl,ut hz,q _ H (Same.refl H) rfl⟩)
    · cases e
  · rename_i xs ys
    split at e
    · rename_i hz
      simp only [Bool.and_eq_true,decide_eq_true_eq] at hz
      obtain ⟨⟨f1,f2⟩,hz⟩:=hz
      cases e
      obtain ⟨pa,vs,rfl,ha,ra⟩:=rx
      obtain ⟨pb,us,rfl,hb,rb⟩:=ry
      have l1:=ra.length
      have l2:=rb.length
      by_cases hv:vs=[]
      · subst hv
        have:xs=[]:=by cases xs with | nil=>rfl | cons _ _=>simp at l1
        subst this
        exact .inr (.inr (.inr (.inl ⟨pa,pb,us,rfl,rfl,ha,hb,q _ H (Same.refl H) ⟨pb,us,rfl,hb,rb.nl f2⟩⟩)))
      · refine .inr (.inr (.inl ⟨pa,pb,vs,us,rfl,rfl,.inl ha,.inl hb,hv,by rw [l1,l2];exact ut hz,fun hu=>?_,fun hu p hp=>?_⟩))
        · subst hu
          have:ys=[]:=by cases ys with | nil=>rfl | cons _ _=>simp at l2
          subst this
          rw [List.append_nil] at q
          exact q _ H (Same.refl H) ⟨pa,vs,rfl,ha,ra.nl f1⟩
        · exact q _ _ (qb hp _) ⟨p,_,rfl,(.inl z9),((ra.nl f1).append (rb.nl f2)).same (qb hp _)⟩
    · cases e
  · rename_i xs ys
    split at e
    · rename_i hz
      simp only [Bool.and_eq_true,decide_eq_true_eq] at hz
      obtain ⟨⟨f1,f2⟩,hz⟩:=hz
      cases e
      obtain ⟨pa,vs,rfl,ha,ra⟩:=rx
      obtain ⟨pb,us,rfl,hb,rb⟩:=ry
      have l1:=ra.length
      have l2:=rb.length
      refine .inr (.inr (.inr (.inr ⟨pa,pb,vs,us,rfl,rfl,ha.rd,hb.rd,by rw [l1,l2];exact ut hz,fun p hp=>?_⟩)))
      exact q _ _ (qb hp _) ⟨p,_,rfl,.inl ⟨⟨rfl,s1.free hp⟩,z9⟩,((ra.nl f1).append (rb.nl f2)).same (qb hp _)⟩
    · cases e
  · cases e
theorem jv(ha:PE X a (tF XO fa))(hb:PE X b (tF XO fb)):PE X (.BinOp a .Add b pos) (tF XO (qc fa fb)):=FP KP Nj ha hb
theorem Df{C:Int→Int→Prop}{g:Int→Int→Int}{f:PyData→PyData→Option PyData}(hf:∀ x y d,f x y=some d→∃ i j,x= .int i∧y= .int j∧C i j∧d= .int (g i j)):OpD (rI C fun i j=>.int (g i j)) f true:=by
  intro H₀ Hs H l m x y d v u Q s0 s1 e rx ry q
  obtain ⟨i,j,rfl,rfl,hc,rfl⟩:=hf x y d e
  cases (show v= .int i from rx);cases (show u= .int j from ry)
  exact ⟨i,j,rfl,rfl,hc,q _ H (Same.refl H) rfl⟩
theorem LI:OpR X (binaryOp .Sub) (rI (fun _ _=>True) fun i j=>.int (i - j)):=opI fun _ _ _ _ _ _ _ _ q=>sub_int q
theorem Gw(ha:PE X a (tF XO fa))(hb:PE X b (tF XO fb)):PE X (.BinOp a .Sub b pos) (tF XO (mi fa fb)):=
  FP LI (Df fun x y d e=>by unfold Ix at e;split at e<;>first | (cases e;exact ⟨_,_,rfl,rfl,trivial,rfl⟩) | cases e) ha hb
theorem D5{i:Int}(h:i.natAbs < lim):Builtin.Int.intBits i≤2 ^ 20:=by
  unfold Builtin.Int.intBits
  split
  · exact Nat.zero_le _
  · rename_i h0
    have h1:i.natAbs≠0:=by
      intro z
      exact h0 (by simp [Int.natAbs_eq_zero.mp z])
    have h2:i.natAbs.log2 < 256:=(Nat.log2_lt h1).mpr h
    have h3:(256:Nat)≤2 ^ 20:=by decide
    omega
theorem CMulD.ok{i j:Int}(h:CMulD i j):IntMulOk i j:=by
  rcases h with h | h | ⟨h1,h2⟩
  · exact IntMulOk.of_left (intBits_le_64 (by omega) (by omega))
  · exact IntMulOk.of_right (intBits_le_64 (by omega) (by omega))
  · exact IntMulOk.of_bits (D5 h1) (D5 h2)
theorem op_mulI:OpR X (binaryOp .Mult) (rI CMulD fun i j=>.int (i * j)):=opI fun _ _ _ _ _ _ _ hc q=>mul_int q hc.ok
def rRepR:R2:=fun x y H Q=>∃ l k xs,x= .ref l∧y= .int k∧Rd H l (.lst xs)∧-(2 ^ 63)≤k∧k < 2 ^ 63∧xs.length * k.toNat≤sizeLine∧
  ∀ p,H p=none→Q (.ref p) (upd H p (.lst (List.replicate k.toNat xs).flatten))
theorem KO:OpR X (binaryOp .Mult) rRepR:=by
  intro pins s σ H x y v u Q I rx ry h
  obtain ⟨l,k,xs,rfl,rfl,hH,h1,h2,hz,q⟩:=h
  cases rx
  obtain ⟨t,rfl⟩:=ry
  obtain ⟨z,its,n,r,hl,e⟩:=Mb I hH
  have hlen:its.toArray.size * k.toNat≤sizeLine:=by rw [List.size_toArray,← hl];exact hz
  have hcap:¬ its.toArray.size * k.toNat > (2 ^ 63 - 1) / 8:=by
    have:(sizeLine:Nat)≤(2 ^ 63 - 1) / 8:=by decide
    omega
  have hfit:¬ (!Builtin.List.listFitsIndex k)=true:=by
    rw [fitsIndex_both h1 h2]
    exact Bool.false_ne_true
  have hlong:¬ Builtin.List.listTooLong (its.toArray.size * k.toNat)=true:=by
    rw [AE hlen]
    exact Bool.false_ne_true
  have hnew:List.foldl (fun x1 x2=>x1++x2) #[] (List.replicate (if its.toArray.isEmpty=true then 0 else k.toNat) its.toArray)=(List.replicate k.toNat its).flatten.toArray:=by
    have f0:∀ m:Nat,List.foldl (fun x1 x2=>x1++x2) #[] (List.replicate m its.toArray)=(List.replicate m its).flatten.toArray:=fun m=>by
      have:=pc its m []
      rw [List.nil_append] at this
      exact this
    rw [f0]
    cases its with
    | nil=>simp
    | cons a r'=>rw [if_neg (by simp)]
  refine wpAny_binaryOp_repeat_ref (T:="list") (U:="int") (by decide) ⟨_,e,rfl⟩ (fun s'=>typeIs_int s' k t) noFill_list_mul F.fills_int_mul F.slot_int_rmul repeat_list F.slot_int_index.lookup
    (call_meets F.slot_int_rmul (typeIs_int s k t) F.entry_int_rmul (F.args_int_rmul_2 _ _) (int___rmul___int_list k t l its.toArray n)
      ⟨e,rfl,⟨_,e,rfl⟩,call_meets F.slot_list_mul ⟨_,e,rfl⟩ F.entry_list_mul (F.args_list_mul_2 _ _) (AutoListH.list___mul___list_int_3 l its.toArray n k t hfit hcap hlong) ⟨e,?_⟩⟩)
  rw [hnew]
  exact ⟨.ref _,_,I.lnew (t':=s.toks) (r.rep k.toNat) (by rw [CH,Nat.mul_comm];exact hz),rfl,q _ I.fresh⟩
theorem Reps.rep{P:PP}{H:Hp}{ds:List PyData}{vs:List V}(h:Reps P H ds vs):∀ k:Nat,Reps P H (List.replicate k ds).flatten (List.replicate k vs).flatten
  | 0=>rfl
  | k+1=>by
    rw [List.replicate_succ,List.replicate_succ,List.flatten_cons,List.flatten_cons]
    exact h.append (Reps.rep h k)
def OV:R2:=fun x y H Q=>rI CMulD (fun i j=>.int (i * j)) x y H Q∨rRepR x y H Q
theorem Of:OpD OV i0 true:=by
  intro H₀ Hs H l m x y d v u Q s0 s1 e rx ry q
  unfold i0 at e
  split at e
  · rename_i i j
    split at e
    · rename_i hc
      cases (show v= .int i from rx);cases (show u= .int j from ry);cases e
      exact .inl ⟨i,j,rfl,rfl,hc,q _ H (Same.refl H) rfl⟩
    · cases e
  · rename_i xs k
    split at e
    · rename_i hz
      simp only [Bool.and_eq_true,decide_eq_true_eq] at hz
      obtain ⟨⟨f1,hz⟩,hk⟩:=hz
      cases e
      obtain ⟨pa,vs,rfl,ha,ra⟩:=rx
      cases (show u= .int k from ry)
      have l1:=ra.length
      have hb:big < 2 ^ 63:=by decide
      refine .inr ⟨pa,k,vs,rfl,rfl,ha.rd,by omega,by omega,by rw [l1];exact ut hz,fun p hp=>?_⟩
      exact q _ _ (qb hp _) ⟨p,_,rfl,.inl ⟨⟨rfl,s1.free hp⟩,z9⟩,((ra.nl f1).rep _).same (qb hp _)⟩
    · cases e
  · cases e
theorem xr(ha:PE X a (tF XO fa))(hb:PE X b (tF XO fb)):PE X (.BinOp a .Mult b pos) (tF XO (vc fa fb)):=FP (op_mulI.or KO) Of ha hb
theorem Lm:OpR X (binaryOp .FloorDiv) (rI (fun _ j=>0 < j∧j.natAbs < lim) fun i j=>.int (i / j)):=opI fun i j _ _ _ _ _ hc q=>by
  have h0:j≠0:=by omega
  refine floordiv_int h0 ?_ (.inl (PyProof.noPylong_of_log2 ?_))
  · rw [Int.fdiv_eq_ediv_of_nonneg _ (by omega)]
    exact q
  · have h1:j.natAbs≠0:=by omega
    have h2:j.natAbs.log2 < 256:=(Nat.log2_lt h1).mpr hc.2
    omega
theorem JJ(ha:PE X a (tF XO fa))(hb:PE X b (tF XO fb)):PE X (.BinOp a .FloorDiv b pos) (tF XO (A4 fa fb)):=
  FP Lm (Df fun x y d e=>by
    unfold Ig at e
    split at e
    · split at e
      · rename_i hc;cases e;exact ⟨_,_,rfl,rfl,hc,rfl⟩
      · cases e
    · cases e) ha hb
theorem fx(ha:PE X a (tF XO fa))(hb:PE X b (tF XO fb)):PE X (.BinOp a .Mod b pos) (tF XO (yv fa fb)):=
  FP Oa (Df fun x y d e=>by
    unfold A7 at e
    split at e
    · split at e
      · rename_i hc;cases e;exact ⟨_,_,rfl,rfl,hc,rfl⟩
      · cases e
    · cases e) ha hb
theorem O3(ha:PE X a (tF XO fa))(hb:PE X b (tF XO fb)):PE X (.BinOp a .Pow b pos) (tF XO (Mh fa fb)):=
  FP N0 (Df fun x y d e=>by
    unfold Nd at e
    split at e
    · split at e
      · rename_i hc;cases e;exact ⟨_,_,rfl,rfl,⟨hc.1,by omega,hc.2.2⟩,rfl⟩
      · cases e
    · cases e) ha hb
def P9(r:V→Hp→VK→Prop)(op:PyData→Option PyData)(fr:Bool):Prop:=
  ∀ (H₀ Hs H:Hp) (l:Nat) (x d:PyData) (v:V) (Q:VK),Same H₀ Hs→Same Hs H→op x=some d→Rep (PL H₀ Hs l) H x v→
    (∀ z H',Same H H'→Rep (PL H₀ Hs (if fr then 2 else l)) H' d z→Q z H')→r v H Q
theorem LU{r:V→Hp→VK→Prop}{op:PyData→Option PyData}{fr:Bool}(ho:P9 r op fr){σ:L2.St}{H:Hp}{Q:VK}(h:tF XO (e1 op fr fa) σ H Q):tF XO fa σ H fun x H1=>r x H1 Q:=by
  obtain ⟨H₀,Hs,ρ,rr,g,e,kk⟩:=h
  refine kn g e kk fun l x v H1 s1 g1 r1 e1 k1=>?_
  cases hd:op x with
  | none=>rw [hd] at e1;cases e1
  | some d=>
    rw [hd] at e1
    exact ho H₀ Hs H1 l x d v Q g1.s0 g1.s1 hd r1 fun z H' s rp=>k1.give e1 s rp
theorem Mz(ha:PE X a (tF XO fa)):PE X (.UnaryOp .USub a pos) (tF XO (Pi fa)):=
  PE.imp (OR NB ha) fun _ _ _ h=>LU (op:=Lu) (fun H₀ Hs H l x d v Q s0 s1 e rx q=>by
    unfold Lu at e
    split at e
    · rename_i i
      cases (show v= .int i from rx);cases e
      exact ⟨i,rfl,q _ H (Same.refl H) rfl⟩
    · cases e) h
end
structure BC(X:Cx):Prop where
  hu:X.A.units+64 < cLine
  mlen:X.mg "len" =none
  mint:X.mg "int" =none
  mbool:X.mg "bool" =none
  mstr:X.mg "str" =none
  mtuple:X.mg "tuple" =none
  mlist:X.mg "list" =none
  misi:X.mg "isinstance" =none
  mrange:X.mg "range" =none
  menum:X.mg "enumerate" =none
  mzip:X.mg "zip" =none
  mrev:X.mg "reversed" =none
section
variable{X:Cx}{XO:XOT}{a b c:Expr}{fa fb fc:FE}{pos:Pos}
def Lj(neg:Bool):R2:=fun x y H Q=>∃ (P1 P2:PP) (d1 d2:PyData),Rep P1 H d1 x∧Rep P2 H d2 y∧d1.canLay0=true∧d2.canLay0=true∧min d1.depth d2.depth≤60∧Q (.bl (if neg then !PyData.eqv d1 d2 else PyData.eqv d1 d2)) H
theorem J9(hu:X.A.units+64 < cLine):OpR X (compareOp .Eq) (Lj false):=by
  intro pins s σ H x y v u Q I rx ry h
  obtain ⟨P1,P2,d1,d2,r1,r2,c1,c2,hd,q⟩:=h
  obtain ⟨as,ra⟩:=ym I d1 x v c1 r1 rx
  obtain ⟨bs,rb⟩:=ym I d2 y u c2 r2 ry
  exact SeqAt.compareEq_reads ra rb c1 c2 (by omega) ⟨.bl _,H,I,rfl,q⟩
theorem N6(hu:X.A.units+64 < cLine):OpR X (compareOp .NotEq) (Lj true):=by
  intro pins s σ H x y v u Q I rx ry h
  obtain ⟨P1,P2,d1,d2,r1,r2,c1,c2,hd,q⟩:=h
  obtain ⟨as,ra⟩:=ym I d1 x v c1 r1 rx
  obtain ⟨bs,rb⟩:=ym I d2 y u c2 r2 ry
  exact SeqAt.compareNe_reads ra rb c1 c2 (by omega) ⟨.bl _,H,I,rfl,q⟩
theorem AV{x y:PyData}{b:Bool}(h:vt x y=some b):(∃ i j,x= .int i∧y= .int j∧b=(i == j))∨(∃ i j,x= .str i∧y= .str j∧b=(i == j))∨(∃ i j,x= .bool i∧y= .bool j∧b=(i == j))∨(ai x y=true∧b=PyData.eqv x y):=by
  unfold vt at h
  split at h
  · cases h;exact .inl ⟨_,_,rfl,rfl,rfl⟩
  · cases h;exact .inr (.inl ⟨_,_,rfl,rfl,rfl⟩)
  · cases h;exact .inr (.inr (.inl ⟨_,_,rfl,rfl,rfl⟩))
  · split at h
    · rename_i hk;cases h;exact .inr (.inr (.inr ⟨hk,rfl⟩))
    · cases h
theorem Er{x y:PyData}(h:ai x y=true):x.canLay0=true∧y.canLay0=true∧min x.depth y.depth≤60:=by
  simp only [ai,Bool.and_eq_true,decide_eq_true_eq] at h
  exact ⟨h.1.1,h.1.2,h.2⟩
theorem MC:OpD (fun x y H Q=>rEq x y H Q∨Lj false x y H Q) dEq true:=by
  intro H₀ Hs H l m x y d v u Q s0 s1 e rx ry q
  unfold dEq at e
  cases hb:vt x y with
  | none=>rw [hb] at e;cases e
  | some k=>
    rw [hb] at e
    cases e
    rcases AV hb with ⟨i,j,rfl,rfl,rfl⟩ | ⟨i,j,rfl,rfl,rfl⟩ | ⟨i,j,rfl,rfl,rfl⟩ | ⟨hk,rfl⟩
    · cases (show v= .int i from rx);cases (show u= .int j from ry)
      exact .inl ⟨rfl,q _ H (Same.refl H) (by rw [t5];rfl)⟩
    · cases (show v= .str i from rx);cases (show u= .str j from ry)
      exact .inl ⟨rfl,q _ H (Same.refl H) (by rw [t8];rfl)⟩
    · cases (show v= .bl i from rx);cases (show u= .bl j from ry)
      exact .inl ⟨rfl,q _ H (Same.refl H) (by rw [CB];rfl)⟩
    · obtain ⟨c1,c2,hd⟩:=Er hk
      exact .inr ⟨_,_,x,y,rx,ry,c1,c2,hd,q _ H (Same.refl H) rfl⟩
theorem O0:OpD (fun x y H Q=>rNe x y H Q∨Lj true x y H Q) dNe true:=by
  intro H₀ Hs H l m x y d v u Q s0 s1 e rx ry q
  unfold dNe at e
  cases hb:vt x y with
  | none=>rw [hb] at e;cases e
  | some k=>
    rw [hb] at e
    cases e
    rcases AV hb with ⟨i,j,rfl,rfl,rfl⟩ | ⟨i,j,rfl,rfl,rfl⟩ | ⟨i,j,rfl,rfl,rfl⟩ | ⟨hk,rfl⟩
    · cases (show v= .int i from rx);cases (show u= .int j from ry)
      exact .inl ⟨rfl,q _ H (Same.refl H) (by rw [t5];rfl)⟩
    · cases (show v= .str i from rx);cases (show u= .str j from ry)
      exact .inl ⟨rfl,q _ H (Same.refl H) (by rw [t8];rfl)⟩
    · cases (show v= .bl i from rx);cases (show u= .bl j from ry)
      exact .inl ⟨rfl,q _ H (Same.refl H) (by rw [CB];rfl)⟩
    · obtain ⟨c1,c2,hd⟩:=Er hk
      exact .inr ⟨_,_,x,y,rx,ry,c1,c2,hd,q _ H (Same.refl H) rfl⟩
def KZ(neg:Bool):R2:=fun x y H Q=>∃ (P1 P2:PP) (d1:PyData) (ds:List PyData),Rep P1 H d1 x∧(Rep P2 H (.list ds) y∨Rep P2 H (.tuple ds) y)∧d1.canLay0=true∧PyData.canLayAll0 ds=true∧min (PyData.depthAll ds) d1.depth≤60∧
  Q (.bl (if neg then !(ds.any fun y=>PyData.eqv y d1) else ds.any fun y=>PyData.eqv y d1)) H
theorem Nt(hu:X.A.units+64 < cLine):OpR X (compareOp .In) (KZ false):=by
  intro pins s σ H x y v u Q I rx ry h
  obtain ⟨P1,P2,d1,ds,r1,r2,c1,c2,hd,q⟩:=h
  obtain ⟨as,ra⟩:=ym I d1 x v c1 r1 rx
  rcases r2 with r2 | r2
  · obtain ⟨bs,rb⟩:=ym I _ y u (by simpa [PyData.canLay0] using c2) r2 ry
    exact SeqAt.in_list_reads rb ra c2 c1 (by omega) ⟨.bl _,H,I,rfl,q⟩
  · obtain ⟨bs,rb⟩:=ym I _ y u (by simpa [PyData.canLay0] using c2) r2 ry
    exact SeqAt.in_tuple_reads rb ra c2 c1 (by omega) ⟨.bl _,H,I,rfl,q⟩
theorem Hw(hu:X.A.units+64 < cLine):OpR X (compareOp .NotIn) (KZ true):=by
  intro pins s σ H x y v u Q I rx ry h
  obtain ⟨P1,P2,d1,ds,r1,r2,c1,c2,hd,q⟩:=h
  obtain ⟨as,ra⟩:=ym I d1 x v c1 r1 rx
  rcases r2 with r2 | r2
  · obtain ⟨bs,rb⟩:=ym I _ y u (by simpa [PyData.canLay0] using c2) r2 ry
    exact SeqAt.notIn_list_reads rb ra c2 c1 (by omega) ⟨.bl _,H,I,rfl,q⟩
  · obtain ⟨bs,rb⟩:=ym I _ y u (by simpa [PyData.canLay0] using c2) r2 ry
    exact SeqAt.notIn_tuple_reads rb ra c2 c1 (by omega) ⟨.bl _,H,I,rfl,q⟩
theorem ni{x:PyData}{ys:List PyData}(h:Fd x ys=true):x.canLay0=true∧PyData.canLayAll0 ys=true∧min (PyData.depthAll ys) x.depth≤60:=by
  simp only [Fd,Bool.and_eq_true,decide_eq_true_eq] at h
  exact ⟨h.1.1,h.1.2,h.2⟩
theorem OI:OpD (KZ false) dIn true:=by
  intro H₀ Hs H l m x y d v u Q s0 s1 e rx ry q
  unfold dIn at e
  cases hb:Ea x y with
  | none=>rw [hb] at e;cases e
  | some k=>
    rw [hb] at e
    cases e
    unfold Ea at hb
    split at hb
    · split at hb
      · rename_i hk
        cases hb
        obtain ⟨c1,c2,hd⟩:=ni hk
        exact ⟨_,_,_,_,rx,.inr ry,c1,c2,hd,q _ H (Same.refl H) rfl⟩
      · cases hb
    · split at hb
      · rename_i hk
        cases hb
        obtain ⟨c1,c2,hd⟩:=ni hk
        exact ⟨_,_,_,_,rx,.inl ry,c1,c2,hd,q _ H (Same.refl H) rfl⟩
      · cases hb
    · cases hb
theorem IP:OpD (KZ true) Af true:=by
  intro H₀ Hs H l m x y d v u Q s0 s1 e rx ry q
  unfold Af at e
  cases hb:Ea x y with
  | none=>rw [hb] at e;cases e
  | some k=>
    rw [hb] at e
    cases e
    unfold Ea at hb
    split at hb
    · split at hb
      · rename_i hk
        cases hb
        obtain ⟨c1,c2,hd⟩:=ni hk
        exact ⟨_,_,_,_,rx,.inr ry,c1,c2,hd,q _ H (Same.refl H) rfl⟩
      · cases hb
    · split at hb
      · rename_i hk
        cases hb
        obtain ⟨c1,c2,hd⟩:=ni hk
        exact ⟨_,_,_,_,rx,.inl ry,c1,c2,hd,q _ H (Same.refl H) rfl⟩
      · cases hb
    · cases hb
theorem Hd{g:Int→Int→Bool}{f:PyData→PyData→Option PyData}(hf:∀ x y d,f x y=some d→∃ i j,x= .int i∧y= .int j∧d= .bool (g i j)):OpD (rI0 fun i j=>.bl (g i j)) f true:=by
  intro H₀ Hs H l m x y d v u Q s0 s1 e rx ry q
  obtain ⟨i,j,rfl,rfl,rfl⟩:=hf x y d e
  cases (show v= .int i from rx);cases (show u= .int j from ry)
  exact ⟨i,j,rfl,rfl,q _ H (Same.refl H) rfl⟩
theorem Pb:OpD (rI0 fun i j=>.bl (decide (i < j))) dLt true:=Hd fun x y d e=>by unfold dLt at e;split at e<;>first | (cases e;exact ⟨_,_,rfl,rfl,rfl⟩) | cases e
theorem O9:OpD (rI0 fun i j=>.bl (decide (j < i))) dGt true:=Hd fun x y d e=>by unfold dGt at e;split at e<;>first | (cases e;exact ⟨_,_,rfl,rfl,rfl⟩) | cases e
theorem ET{P:PP}{H:Hp}:∀ {x:PyData} {v:V},Rep P H x v→decide (v= .non)=isNone x
  | .none,_,h=>by cases (show _=_ from h);rfl
  | .bool _,_,h=>by cases (show _=_ from h);rfl
  | .int _,_,h=>by cases (show _=_ from h);rfl
  | .str _,_,h=>by cases (show _=_ from h);rfl
  | .tuple _,_,⟨_,_,e,_⟩=>by subst e;rfl
  | .list _,_,⟨_,_,e,_⟩=>by subst e;rfl
  | .dict _,_,h=>by
    rcases h with ⟨_,_,e⟩ | ⟨_,_,_,e,_⟩<;>(subst e;rfl)
theorem BX{y:PyData}(h:isNone y=true):y= .none:=by cases y<;>first | rfl | cases h
theorem MM:OpD (fun x y H Q=>y= .non∧Q (.bl (decide (x= .non))) H) Jx true:=by
  intro H₀ Hs H l m x y d v u Q s0 s1 e rx ry q
  unfold Jx at e
  split at e
  · rename_i hn
    cases BX hn
    cases e
    exact ⟨ry,q _ H (Same.refl H) (by rw [ET rx];rfl)⟩
  · cases e
theorem KC:OpD (fun x y H Q=>y= .non∧Q (.bl (!decide (x= .non))) H) DQ true:=by
  intro H₀ Hs H l m x y d v u Q s0 s1 e rx ry q
  unfold DQ at e
  split at e
  · rename_i hn
    cases BX hn
    cases e
    exact ⟨ry,q _ H (Same.refl H) (by rw [ET rx];rfl)⟩
  · cases e
theorem mv{op:CmpOp}{r:R2}{f:PyData→PyData→Option PyData}{fr:Bool}(ho:OpR X (compareOp op) r)(hd:OpD r f fr)(ha:PE X a (tF XO fa))(hb:PE X b (tF XO fb))(hm:behindInMarks op b=false):PT X (.Compare a [op] [b] pos) (yo (tF XO (e2 f fr fa fb))):=
  PT.imp (Mc ho ha hb hm) fun _ _ _ h=>t6 hd h
theorem NW(C:BC X)(ha:PE X a (tF XO fa))(hb:PE X b (tF XO fb)):PE X (.Compare a [.Eq] [b] pos) (tF XO (eEq fa fb)):=OD (op_eq.or (J9 C.hu)) MC ha hb (cu _)
theorem vq(C:BC X)(ha:PE X a (tF XO fa))(hb:PE X b (tF XO fb)):PT X (.Compare a [.Eq] [b] pos) (yo (tF XO (eEq fa fb))):=mv (op_eq.or (J9 C.hu)) MC ha hb (cu _)
theorem Cz(C:BC X)(ha:PE X a (tF XO fa))(hb:PE X b (tF XO fb)):PT X (.Compare a [.NotEq] [b] pos) (yo (tF XO (eNe fa fb))):=mv (op_ne.or (N6 C.hu)) O0 ha hb (cu _)
theorem Ps(C:BC X)(ha:PE X a (tF XO fa))(hb:PE X b (tF XO fb))(hm:behindInMarks .In b=false:=by rfl):PT X (.Compare a [.In] [b] pos) (yo (tF XO (eIn fa fb))):=mv (Nt C.hu) OI ha hb hm
theorem LS(C:BC X)(ha:PE X a (tF XO fa))(hb:PE X b (tF XO fb))(hm:behindInMarks .NotIn b=false:=by rfl):PT X (.Compare a [.NotIn] [b] pos) (yo (tF XO (A3 fa fb))):=mv (Hw C.hu) IP ha hb hm
theorem HP(C:BC X)(ha:PE X a (tF XO fa))(hb:PE X b (tF XO fb)):PT X (.Compare a [.Lt] [b] pos) (yo (tF XO (eLt fa fb))):=mv Pe Pb ha hb (cu _)
theorem OM(C:BC X)(ha:PE X a (tF XO fa))(hb:PE X b (tF XO fb)):PT X (.Compare a [.Gt] [b] pos) (yo (tF XO (eGt fa fb))):=mv O2 O9 ha hb (cu _)
theorem OS(C:BC X)(ha:PE X a (tF XO fa))(hb:PE X b (tF XO fb)):PT X (.Compare a [.Is] [b] pos) (yo (tF XO (LC fa fb))):=mv Oj MM ha hb (cu _)
theorem Oe(C:BC X)(ha:PE X a (tF XO fa))(hb:PE X b (tF XO fb)):PT X (.Compare a [.IsNot] [b] pos) (yo (tF XO (DO fa fb))):=mv Ma KC ha hb (cu _)
theorem Mx{op:BoolOp}(ha:PE X a (tF XO fa)):PE X (.BoolOp op [a] pos) (tF XO fa):=Nz ha
theorem OO{rest:List Expr}(ha:PE X a (tF XO fa))(hb:PE X (.BoolOp .And (b::rest) pos) (tF XO fb)):PE X (.BoolOp .And (a::b::rest) pos) (tF XO (kf fa fb)):=
  PE.imp (Ng ha hb) fun σ H Q ⟨H₀,Hs,ρ,r,g,e,kk⟩=>kn g e kk fun l x v H1 s1 g1 r1 e1 k1=>by
    split at e1
    · exact ⟨true,r1,L2.Gg (⟨H₀,Hs,ρ,r,g1,e1,k1⟩)⟩
    · exact ⟨false,r1,L2.FZ (k1.give e1 (Same.refl _) rfl)⟩
    · cases e1
theorem P8{rest:List Expr}(ha:PE X a (tF XO fa))(hb:PE X (.BoolOp .Or (b::rest) pos) (tF XO fb)):PE X (.BoolOp .Or (a::b::rest) pos) (tF XO (eOr fa fb)):=
  PE.imp (Ox ha hb) fun σ H Q ⟨H₀,Hs,ρ,r,g,e,kk⟩=>kn g e kk fun l x v H1 s1 g1 r1 e1 k1=>by
    split at e1
    · exact ⟨true,r1,L2.Gg (k1.give e1 (Same.refl _) rfl)⟩
    · exact ⟨false,r1,L2.FZ (⟨H₀,Hs,ρ,r,g1,e1,k1⟩)⟩
    · cases e1
theorem BZ(ha:PE X a (tF XO fa))(he:∀ whole,isTrue a X.env whole=(do let v ← whole;standAt a.pos;holding [v] (truthy v)):=by intro _;rfl):PT X a (yo (tF XO fa)):=MI ha he
theorem bx(ha:PT X a (yo (tF XO fa))):PW X (.BoolOp .And [a] pos) (yo (tF XO fa)):=Mf ha
theorem Ml(ha:PT X a (yo (tF XO fa))):PW X (.BoolOp .Or [a] pos) (yo (tF XO fa)):=Nw ha
theorem PW.imp{e:Expr}{t t':TT}(h:PW X e t)(f:∀ σ H Q,t' σ H Q→t σ H Q):PW X e t':=fun whole pins s σ H Q I q=>h whole pins s σ H Q I (f σ H Q q)
theorem sd{rest:List Expr}(ha:PT X a (yo (tF XO fa)))(hb:PW X (.BoolOp .And (b::rest) pos) (yo (tF XO fb))):PW X (.BoolOp .And (a::b::rest) pos) (yo (tF XO (kf fa fb))):=
  PW.imp (NR ha hb) fun σ H Q ⟨H₀,Hs,ρ,r,g,e,kk⟩=>kn g e kk fun l x v H1 s1 g1 r1 e1 k1=>by
    split at e1
    · exact ⟨true,r1,L2.Gg (⟨H₀,Hs,ρ,r,g1,e1,k1⟩)⟩
    · obtain ⟨z,hz,q⟩:=k1.give e1 (Same.refl _) (v:=.bl _) rfl
      cases hz
      exact ⟨false,r1,L2.FZ (q)⟩
    · cases e1
theorem P0{rest:List Expr}(ha:PT X a (yo (tF XO fa)))(hb:PW X (.BoolOp .Or (b::rest) pos) (yo (tF XO fb))):PW X (.BoolOp .Or (a::b::rest) pos) (yo (tF XO (eOr fa fb))):=
  PW.imp (OT ha hb) fun σ H Q ⟨H₀,Hs,ρ,r,g,e,kk⟩=>kn g e kk fun l x v H1 s1 g1 r1 e1 k1=>by
    split at e1
    · obtain ⟨z,hz,q⟩:=k1.give e1 (Same.refl _) (v:=.bl _) rfl
      cases hz
      exact ⟨true,r1,L2.Gg (q)⟩
    · exact ⟨false,r1,L2.FZ (⟨H₀,Hs,ρ,r,g1,e1,k1⟩)⟩
    · cases e1
end
def GJ:Expr→Bool
  | .Starred _ _=>false
  | _=>true
theorem q0{e:Expr}{es:List Expr}{env:Env}(h:GJ e=true):starEach (e::es) env=(false,eval e env)::starEach es env:=by
  cases e<;>first | cases h;done | (rw [starEach];intro _ _ z;cases z)
theorem w6{pos:Pos}{env:Env}:∀ {es:List Expr},es.all GJ=true→(backTo pos (starEach es env)).any (·.1)=false
  | [],_=>by simp [starEach,backTo]
  | e::es,h=>by
    rw [List.all_cons,Bool.and_eq_true] at h
    rw [q0 h.1]
    show (false || (backTo pos (starEach es env)).any (·.1))=false
    rw [w6 h.2]
    rfl
section
variable{X:Cx}{XO:XOT}{a b c e:Expr}{es:List Expr}{fa fb fc f:FE}{fs:List FE}{pos:Pos}
def KI(XO:XOT)(H₀ Hs:Hp)(σ:L2.St)(H:Hp)(Q:List V→Hp→Prop)(r:RI):Prop:=
  (∀ l ds vs H',r= .ok l ds→Same H H'→Reps (PL H₀ Hs l) H' ds vs→Q vs H')∧∀ c H',r= .exc c→Same H H'→XO.f c σ H'
def tAs(XO:XOT)(fs:List FE):TA:=fun σ H Q=>∃ H₀ Hs ρ r,G XO.cv H₀ Hs ρ σ H∧zo fs ρ=some r∧KI XO H₀ Hs σ H Q r
theorem PA.imp{t t':TA}(h:PA X es t)(g:∀ σ H Q,t' σ H Q→t σ H Q):PA X es t':=fun pos pins s σ H Q I q=>h pos pins s σ H Q I (g σ H Q q)
theorem zh:PA X [] (tAs XO []):=PA.imp gy fun σ H Q ⟨H₀,Hs,ρ,r,g,e,k⟩=>by
  cases e
  exact k.1 2 [] [] H rfl (Same.refl H) rfl
theorem Rep.low{H₀ Hs H:Hp}(s:Same H₀ Hs){l m:Nat}(h:l≤m){d:PyData}{v:V}(r:Rep (PL H₀ Hs m) H d v):Rep (PL H₀ Hs l) H d v:=r.imp fun _ _ p=>PL.le s h p
theorem Reps.low{H₀ Hs H:Hp}(s:Same H₀ Hs){l m:Nat}(h:l≤m){d:List PyData}{v:List V}(r:Reps (PL H₀ Hs m) H d v):Reps (PL H₀ Hs l) H d v:=r.imp fun _ _ p=>PL.le s h p
theorem zb(ha:PE X e (tF XO f))(hr:PA X es (tAs XO fs))(hs:starEach (e::es) X.env=(false,eval e X.env)::starEach es X.env:=by exact q0 rfl):PA X (e::es) (tAs XO (f::fs)):=
  PA.imp (wx ha hr hs) fun σ H Q ⟨H₀,Hs,ρ,r,g,e,k⟩=>by
    unfold zo at e
    cases hf:f ρ with
    | none=>rw [hf] at e;cases e
    | some x=>
      rw [hf] at e
      cases x with
      | exc c=>
        cases e
        exact ⟨H₀,Hs,ρ,.exc c,g,hf,⟨fun l d v H' e=>(nomatch e),fun c' H' e' s=>k.2 c' H' (by cases e';rfl) s⟩⟩
      | ok l d=>
        refine ⟨H₀,Hs,ρ,.ok l d,g,hf,⟨fun l' d' v H1 e' s1 r1=>?_,fun c H' e=>(nomatch e)⟩⟩
        cases e'
        dsimp only at e
        cases ht:zo fs ρ with
        | none=>rw [ht] at e;cases e
        | some y=>
          rw [ht] at e
          cases y with
          | exc c=>
            cases e
            exact ⟨H₀,Hs,ρ,.exc c,g.same s1,ht,⟨fun l d v H' e=>(nomatch e),fun c' H' e' s=>k.2 c' H' (by cases e';rfl) (s1.trans s)⟩⟩
          | ok m ds=>
            cases e
            refine ⟨H₀,Hs,ρ,.ok m ds,g.same s1,ht,⟨fun m' ds' vs H2 e' s2 r2=>?_,fun c H' e=>(nomatch e)⟩⟩
            cases e'
            exact k.1 _ _ (v::vs) H2 rfl (s1.trans s2) ⟨v,vs,rfl,(r1.same s2).low g.s0 (Nat.min_le_left _ _),r2.low g.s0 (Nat.min_le_right _ _)⟩
theorem BH:∀ {fs:List FE} {ρ:Rho} {l:Nat} {ds:List PyData},zo fs ρ=some (.ok l ds)→ds.length=fs.length
  | [],_,_,_,e=>by cases e;rfl
  | f::fs,ρ,l,ds,e=>by
    unfold zo at e
    cases hf:f ρ with
    | none=>rw [hf] at e;cases e
    | some x=>
      rw [hf] at e
      cases x with
      | exc c=>cases e
      | ok l d=>
        dsimp only at e
        cases ht:zo fs ρ with
        | none=>rw [ht] at e;cases e
        | some y=>
          rw [ht] at e
          cases y with
          | exc c=>cases e
          | ok m ds'=>cases e;simp [BH ht]
theorem AA{H₀ Hs:Hp}{ρ:Rho}{σ:L2.St}{H:Hp}{Q:VK}{Q':List V→Hp→Prop}{k:Nat→List PyData→Option RE}{r:RE}(g:G XO.cv H₀ Hs ρ σ H)(e:zv (zo fs ρ) k=some r)(kk:KK XO H₀ Hs σ H Q r)
    (cont:∀ l ds vs H1,Same H H1→G XO.cv H₀ Hs ρ σ H1→Reps (PL H₀ Hs l) H1 ds vs→ds.length=fs.length→k l ds=some r→KK XO H₀ Hs σ H1 Q r→Q' vs H1):tAs XO fs σ H Q':=by
  cases h:zo fs ρ with
  | none=>rw [h] at e;cases e
  | some x=>
    rw [h] at e
    cases x with
    | exc c=>
      cases (Option.some.inj e)
      exact ⟨H₀,Hs,ρ,.exc c,g,h,⟨fun l d v H' e=>(nomatch e),fun c' H' e' s=>kk.2 c' H' (by cases e';rfl) s⟩⟩
    | ok l ds=>
      refine ⟨H₀,Hs,ρ,.ok l ds,g,h,⟨fun l' d' v H' e' s rp=>?_,fun c H' e=>(nomatch e)⟩⟩
      cases e'
      exact cont l ds v H' s (g.same s) rp (BH h) e (kk.same s)
theorem qa{x1}(h:PA X es (tAs XO fs))(hl:Nat.ble fs.length 1000=true:=by rfl):PE X (.Tuple es x1 pos) (tF XO (zm fs)):=
  PE.imp (N7 h) fun σ H Q ⟨H₀,Hs,ρ,r,g,e,kk⟩=>AA g e kk fun l ds vs H1 s1 g1 r1 hn e1 k1=>by
    have hz:vs.length≤sizeLine:=by
      rw [r1.length,hn]
      exact Nat.le_trans (Nat.le_of_ble_eq_true hl) (by decide)
    exact ⟨hz,fun p hp=>k1.give e1 (qb hp _) ⟨p,vs,rfl,(.inl z9),r1.same (qb hp _)⟩⟩
theorem wy(h:PA X es (tAs XO fs))(hl:Nat.ble fs.length 1000=true:=by rfl):PE X (.List es pos) (tF XO (qp fs)):=
  PE.imp (JP h) fun σ H Q ⟨H₀,Hs,ρ,r,g,e,kk⟩=>AA g e kk fun l ds vs H1 s1 g1 r1 hn e1 k1=>by
    have hz:vs.length≤sizeLine:=by
      rw [r1.length,hn]
      exact Nat.le_trans (Nat.le_of_ble_eq_true hl) (by decide)
    refine ⟨hz,fun p hp=>?_⟩
    split at e1
    · rename_i f1
      exact k1.give e1 (qb hp _) ⟨p,vs,rfl,.inl ⟨⟨rfl,g1.s1.free hp⟩,z9⟩,(r1.nl f1).same (qb hp _)⟩
    · cases e1
theorem Nq{α:Type}(xs:List α)(i:Int):atP xs i=atI xs i:=rfl
theorem Reps.atI{P:PP}{H:Hp}{ds:List PyData}{vs:List V}{i:Int}{d:PyData}(r:Reps P H ds vs)(h:atP ds i=some d):∃ v,L2.atI vs i=some v∧Rep P H d v:=by
  rw [Nq] at h
  unfold L2.atI at h ⊢
  rw [r.length]
  cases q:ixN ds.length i with
  | none=>rw [q] at h;cases h
  | some j=>
    rw [q] at h
    exact r.get h
theorem Om{K:PySem.W.Frag}:OpD (rIx K) dIx false:=by
  intro H₀ Hs H l m x y d v u Q s0 s1 e rx ry q
  unfold dIx at e
  split at e
  · rename_i xs i
    obtain ⟨pa,vs,rfl,ha,ra⟩:=rx
    cases (show u= .int i from ry)
    obtain ⟨z,hz,rz⟩:=ra.atI e
    exact .inr (.inl ⟨pa,vs,i,z,rfl,rfl,.inl ha,hz,q z H (Same.refl H) (rz.low s0 (Nat.min_le_left _ _))⟩)
  · rename_i xs i
    obtain ⟨pa,vs,rfl,ha,ra⟩:=rx
    cases (show u= .int i from ry)
    obtain ⟨z,hz,rz⟩:=ra.atI e
    exact .inl ⟨pa,vs,i,z,rfl,rfl,.inl ha.rd,hz,q z H (Same.refl H) (rz.low s0 (Nat.min_le_left _ _))⟩
  · rename_i z i
    split at e
    · rename_i hz
      cases (show v= .str z from rx)
      cases (show u= .int i from ry)
      cases hc:atP z.cps.toList i with
      | none=>rw [hc] at e;cases e
      | some c=>
        rw [hc] at e
        cases e
        exact .inr (.inr ⟨z,i,c,rfl,rfl,ut hz,hc,q _ H (Same.refl H) rfl⟩)
    · cases e
  · cases e
theorem jo(ha:PE X a (tF XO fa))(hb:PE X b (tF XO fb))(hs:CC b:=by exact fun _ _=>rfl):PE X (.Subscript a b pos) (tF XO (eIx fa fb)):=Pw IC Om ha hb hs
def tO(XO:XOT)(f:FO):TO:=fun σ H Q=>∃ H₀ Hs ρ r,G XO.cv H₀ Hs ρ σ H∧f ρ=some r∧(∀ i H',r= .ok i→Same H H'→Q i H')∧∀ c H',r= .exc c→Same H H'→XO.f c σ H'
theorem PO.imp{o:Option Expr}{t t':TO}(h:PO X o t)(g:∀ σ H Q,t' σ H Q→t σ H Q):PO X o t':=fun pins s σ H Q I q=>h pins s σ H Q I (g σ H Q q)
theorem NK:PO X none (tO XO GI):=PO.imp L1 fun σ H Q ⟨H₀,Hs,ρ,r,g,e,k,_⟩=>by
  cases e
  exact k none H rfl (Same.refl H)
theorem NI(h:PE X a (tF XO fa)):PO X (some a) (tO XO (Eo fa)):=PO.imp (K8 h) fun σ H Q ⟨H₀,Hs,ρ,r,g,e,k,kx⟩=>by
  unfold Eo at e
  split at e
  · rename_i l i hf
    cases e
    refine ⟨H₀,Hs,ρ,_,g,hf,⟨fun l' d' v H' e' s rp=>?_,fun c H' e=>(nomatch e)⟩⟩
    cases e'
    exact ⟨i,rp,k _ H' rfl s⟩
  · rename_i c hf
    cases e
    exact ⟨H₀,Hs,ρ,_,g,hf,⟨fun l d v H' e=>(nomatch e),fun c' H' e' s=>kx c' H' (by cases e';rfl) s⟩⟩
  · cases e
theorem K3(n d:Nat)(o:Option Int):sxP n d o=HT.sIx n d o:=by
  cases o with
  | none=>rfl
  | some v=>
    have h:=HT.clip_eq v n d
    show (if v < 0 then (v+n).toNat else min v.toNat n)=HT.sIx n d (some v)
    by_cases hv:v < 0
    · rw [if_pos hv] at h ⊢
      omega
    · rw [if_neg hv] at h ⊢
      omega
theorem CY{P:PP}{H:Hp}{ds:List PyData}{vs:List V}(r:Reps P H ds vs)(lo hi:Option Int):Reps P H (Jp ds lo hi) (Cv vs lo hi):=by
  unfold Jp Cv
  rw [K3,K3,r.length]
  exact (r.drop _).take _
theorem mh{prog:Program}{w:World}{A:Around}{E:Value→Shared→Prop}{s:Shared}{t sl:Addr}{items:Array Value}{vl vu:Value}{lo hi:Option Int}{Q:Value→Shared→Prop}(ht:IsTup s.heap t items)(hs:s.heap.IsSliceOf sl vl vu .none)(pl:IsPart vl lo)(pu:IsPart vu hi)
    (h1:HT.sIx items.size 0 lo=0) (h2:HT.sIx items.size items.size hi=items.size) (h:Q (.ref t) s):wpAny (model prog w) A (getItem (.ref t) (.ref sl)) Q E s:=by
  obtain ⟨os,hos,hcs,hds⟩:=id hs
  have hTs:s.TypeIs (.ref sl) "slice":=⟨os,hos,hcs⟩
  obtain ⟨ot,hot,hct,nt,hdt⟩:=id ht
  unfold getItem
  try with_reducible refine wpAny_holding ?_
  first | refine wpAny_bind (wpAny_pure ?_) | skip
  refine wpAny_bind (wpAny_sequenceKey ht.typeIs (by decide) ?_)
  refine wpAny_bind (wpAny_callSpecial?_slot (name:=Str.ofString "__getitem__") ht.typeIs PyProof.Rows.slot_tuple_getitem
    (wpAny_call_entry PyProof.Rows.slot_tuple_getitem ht.typeIs entry_tuple_getitem ?_ (args_tuple_getitem _ _)))
  show wpAny _ _ (Builtin.Tuple.tupleItemsOf (.ref t) >>= _) _ _ s
  refine wpAny_bind (tupleItemsOf_ ht ?_)
  refine wpAny_bind (wpAny_typeOf hTs ?_)
  rw [if_pos (by decide)]
  refine wpAny_bind (HT.sliceApplied_gen hs pl pu ?_)
  rw [h1,h2]
  show wpAny _ _ (if (((0:Nat):Int) == 0 && (1:Int) == 1 && (items.size - 0) == items.size)=true then (Builtin.Tuple.tupleIsExact (.ref t) >>= _) else _) _ _ s
  rw [if_pos (by simp)]
  refine wpAny_bind ?_
  unfold Builtin.Tuple.tupleIsExact
  refine wpAny_bind (wpAny_typeOf ht.typeIs (wpAny_pure ?_))
  rw [if_pos (by decide)]
  exact wpAny_bind (wpAny_rule (wpAny_pure ⟨_,rfl,wpAny_pure h⟩))
def Pt(K:PySem.W.Frag):V→Option Int→Option Int→Hp→VK→Prop:=fun x lo hi H Q=>∃ a xs,x= .ref a∧SqT K H a xs∧HT.sIx xs.length 0 lo=0∧HT.sIx xs.length xs.length hi=xs.length∧Q (.ref a) H
theorem sl_all:SlR X (Pt X.K):=by
  intro pins s σ H x v vl vu lo hi sl Q I rx hs pl pu h
  obtain ⟨a,xs,rfl,hx,h1,h2,q⟩:=h
  cases rx
  obtain ⟨its,r,ht,hz⟩:=I.tuple hx
  have hlen:its.toArray.size=xs.length:=by rw [List.size_toArray];exact r.length.symm
  exact ⟨"tuple",_,PyProof.Rows.slot_tuple_getitem.lookup,ht.typeIs,mh ht hs pl pu (by rw [hlen];exact h1) (by rw [hlen];exact h2) ⟨.ref a,H,I,rfl,q⟩⟩
theorem PF{lo hi:Option Expr}{flo fhi:FO}{p2:Pos}(ha:PE X a (tF XO fa))(hl:PO X lo (tO XO flo))(hh:PO X hi (tO XO fhi)):PE X (.Subscript a (.Slice lo hi none p2) pos) (tF XO (eSl fa flo fhi)):=
  PE.imp (J5 (sl_all.or (sl_tup.or LB)) ha hl hh) fun σ H Q ⟨H₀,Hs,ρ,r,g,e,kk⟩=>kn g e kk fun l x v H1 s1 g1 r1 e1 k1=>by
    split at e1
    · rename_i lo' hlo
      refine ⟨H₀,Hs,ρ,_,g1,hlo,fun i H2 ei s2=>?_,fun c H' e=>(nomatch e)⟩
      cases ei
      split at e1
      · rename_i hi' hhi
        refine ⟨H₀,Hs,ρ,_,g1.same s2,hhi,fun j H3 ej s3=>?_,fun c H' e=>(nomatch e)⟩
        cases ej
        have r3:=r1.same (s2.trans s3)
        have k3:=k1.same (s2.trans s3)
        have g3:=g1.same (s2.trans s3)
        cases hd:dSl lo' hi' x with
        | none=>rw [hd] at e1;cases e1
        | some d=>
          rw [hd] at e1
          unfold dSl at hd
          split at hd
          · split at hd
            · rename_i f1
              cases hd
              obtain ⟨pa,vs,rfl,hp,ra⟩:=r3
              by_cases hw:HT.sIx vs.length 0 lo'=0∧HT.sIx vs.length vs.length hi'=vs.length
              · refine .inl ⟨pa,vs,rfl,.inl hp,hw.1,hw.2,k3.give e1 (Same.refl _) ⟨pa,vs,rfl,hp,?_⟩⟩
                have hc:=CY (ra.nl (P':=PL H₀ Hs 2) f1) lo' hi'
                unfold Cv at hc
                rw [hw.1,hw.2,Nat.sub_zero,List.drop_zero,List.take_length] at hc
                exact hc
              · refine .inr (.inl ⟨pa,vs,rfl,.inl hp,hw,fun p hpn=>?_⟩)
                exact k3.give e1 (qb hpn _) ⟨p,_,rfl,(.inl z9),(CY (ra.nl f1) _ _).same (qb hpn _)⟩
            · cases hd
          · split at hd
            · rename_i f1
              cases hd
              obtain ⟨pa,vs,rfl,hp,ra⟩:=r3
              refine .inr (.inr ⟨pa,vs,rfl,.inl hp.rd,fun p hpn=>?_⟩)
              exact k3.give e1 (qb hpn _) ⟨p,_,rfl,.inl ⟨⟨rfl,g3.s1.free hpn⟩,z9⟩,(CY (ra.nl f1) _ _).same (qb hpn _)⟩
            · cases hd
          · cases hd
      · rename_i c hhi
        cases e1
        exact ⟨H₀,Hs,ρ,_,g1.same s2,hhi,fun j H3 ej s3=>(nomatch ej),fun c' H' e' s=>k1.2 c' H' (by cases e';rfl) (s2.trans s)⟩
      · cases e1
    · rename_i c hlo
      cases e1
      exact ⟨H₀,Hs,ρ,_,g1,hlo,fun j H3 ej s3=>(nomatch ej),fun c' H' e' s=>k1.2 c' H' (by cases e';rfl) s⟩
    · cases e1
end
abbrev Own:=Addr→Option Nat
structure Cfg where
  cv:Nat→Value
  n:Nat
  lend:Addr
inductive OwV where
  | l (vs:List V) | k (kvs:List (Key×V)) | t (kvs:List (List Key×V)) (ep:Nat)
def OwV.ho:OwV→HO
  | .l vs=>.lst vs
  | .k kvs=>.dK kvs
  | .t kvs ep=>.dT kvs ep
theorem o9{H:Hp}{p a:Addr}{o:HO}{o0:OwV}{xs:List V}(hp:H p=some o0.ho)(h:Rd H a (.tup xs)):Rd (upd H p o) a (.tup xs):=by
  have hne:a≠p:=by
    intro z;subst z
    rcases h with h | ⟨_,h⟩<;>(rw [hp] at h;cases o0<;>cases h)
  rcases h with h | ⟨q,h⟩
  · exact .inl (by rw [zt hne];exact h)
  · exact .inr ⟨q,by rw [zt hne];exact h⟩
theorem DR.ow{H:Hp}{ks:List (List Int×Int)}{a:Addr}(h:DR H ks a):∃ vs:OwV,H a=some vs.ho:=let ⟨ep,q⟩:=h;⟨.t _ ep,q⟩
def SS(cv:Cfg)(H₀:Hp)(O:Own)(o:Option (Option V))(i:Nat)(H:Hp):Slot→Prop
  | .par d=>∃ v,o=some (some v)∧Rep (fun _ a=>O a=none) H d v
  | .loc d=>∃ v,o=some (some v)∧Rep (fun z a=>z=false∧O a=none∧H₀ a=none) H d v
  | .own ds=>∃ p vs,o=some (some (.ref p))∧O p=some i∧H p=some (.lst vs)∧Reps (fun _ _=>False) H ds vs
  | .own2 ds=>∃ p vs,o=some (some (.ref p))∧O p=some i∧H p=some (.lst vs)∧Reps (fun z a=>z=false∧O a=none∧H₀ a=none) H ds vs
  | .lent ds=>∃ vs,o=some (some (.ref cv.lend))∧O cv.lend=some i∧H cv.lend=some (.lst vs)∧Reps (fun _ _=>False) H ds vs
  | .dct ks=>∃ a,o=some (some (.ref a))∧O a=some i∧DR H ks a
  | .ex c=>∃ a,o=some (some (.ref a))∧XRep cv.cv H c a
structure SO(cv:Cfg)(H₀ F:Hp)(ρ:Rho)(σ:L2.St)(H:Hp)(O:Own):Prop where
  fr:∀ a i,O a=some i→F a=none
  ls:∀ a i,O a=some i→∃ vs:OwV,H a=some vs.ho
  sl:∀ i t,ρ[i]? =some (some t)→SS cv H₀ O σ[i]? i H t
structure SR(cv:Cfg)(H₀ F:Hp)(ρ:Rho)(σ:L2.St)(H:Hp):Prop where
  s0:Same H₀ F
  s1:Same F H
  len:ρ.length=cv.n
  ln:σ.length=cv.n
  ex:∃ O,SO cv H₀ F ρ σ H O
theorem SS.same{cv:Cfg}{H₀ H H':Hp}{O:Own}{o:Option (Option V)}{i:Nat}(s:Same H H'):∀ {t:Slot},SS cv H₀ O o i H t→SS cv H₀ O o i H' t
  | .par _,⟨v,e,h⟩=>⟨v,e,h.same s⟩
  | .loc _,⟨v,e,h⟩=>⟨v,e,h.same s⟩
  | .own _,⟨p,vs,e,q,h,r⟩=>⟨p,vs,e,q,s _ _ h,r.same s⟩
  | .own2 _,⟨p,vs,e,q,h,r⟩=>⟨p,vs,e,q,s _ _ h,r.same s⟩
  | .lent _,⟨vs,e,q,h,r⟩=>⟨vs,e,q,s _ _ h,r.same s⟩
  | .dct _,⟨a,e,q,h⟩=>⟨a,e,q,h.same s⟩
  | .ex _,⟨a,e,h⟩=>⟨a,e,h.same s⟩
theorem SR.same{cv:Cfg}{H₀ F H H':Hp}{ρ:Rho}{σ:L2.St}(r:SR cv H₀ F ρ σ H)(s:Same H H'):SR cv H₀ F ρ σ H':=
  ⟨r.s0,r.s1.trans s,r.len,r.ln,let ⟨O,o⟩:=r.ex;⟨O,o.fr,fun a i e=>let ⟨vs,q⟩:=o.ls a i e;⟨vs,s _ _ q⟩,fun i t e=>(o.sl i t e).same s⟩⟩
theorem SR.g{cv:Cfg}{H₀ F H:Hp}{ρ:Rho}{σ:L2.St}(r:SR cv H₀ F ρ σ H):G cv.cv H₀ H ρ σ H:=by
  refine ⟨r.s0.trans r.s1,Same.refl H,fun i t e=>?_⟩
  obtain ⟨O,o⟩:=r.ex
  have h:=o.sl i t e
  cases t with
  | par d=>obtain ⟨v,e,q⟩:=h;exact ⟨v,e,q.imp fun _ _ _=>trivial⟩
  | loc d=>obtain ⟨v,e,q⟩:=h;exact ⟨v,e,q.imp fun _ _ p=>⟨p.1,p.2.2⟩⟩
  | own ds=>
    obtain ⟨p,vs,e,q,h,rs⟩:=h
    exact ⟨.ref p,e,p,vs,rfl,.inl ⟨⟨rfl,r.s0.free (o.fr p i q)⟩,h⟩,rs.imp fun _ _ z=>z.elim⟩
  | own2 ds=>
    obtain ⟨p,vs,e,q,h,rs⟩:=h
    exact ⟨.ref p,e,p,vs,rfl,.inl ⟨⟨rfl,r.s0.free (o.fr p i q)⟩,h⟩,rs.imp fun _ _ z=>⟨z.1,z.2.2⟩⟩
  | lent ds=>
    obtain ⟨vs,e,q,h,rs⟩:=h
    exact ⟨.ref cv.lend,e,_,vs,rfl,.inl ⟨⟨rfl,r.s0.free (o.fr _ i q)⟩,h⟩,rs.imp fun _ _ z=>z.elim⟩
  | dct ks=>obtain ⟨a,e,q,ep,h⟩:=h;exact ⟨.ref a,e,.inr ⟨a,ks,ep,rfl,rfl,.inl ⟨⟨rfl,r.s0.free (o.fr a i q)⟩,h⟩⟩⟩
  | ex c=>exact h
def KS(cv:Cfg)(XO:XOF)(H₀ F:Hp)(D:Ends)(r:RS):Prop:=
  match r with
  | .next ρ'=>∀ σ' H',SR cv H₀ F ρ' σ' H'→D.nx σ' H'
  | .ret d=>∀ v H',Same F H'→Rep (fun z a=>z=false∧H₀ a=none) H' d v→D.rt v H'
  | .exc c ρ'=>∀ σ' H',SR cv H₀ F ρ' σ' H'→XO c σ' H'
  | .brk ρ'=>∀ σ' H',SR cv H₀ F ρ' σ' H'→D.bk σ' H'
  | .cont ρ'=>∀ σ' H',SR cv H₀ F ρ' σ' H'→D.ct σ' H'
  | .retL d ds=>∀ v H',Same F H'→Rep (fun _ a=>a≠cv.lend) H' d v→(∃ vs,H' cv.lend=some (.lst vs)∧Reps (fun _ _=>False) H' ds vs)→D.rt v H'
def tS(cv:Cfg)(XO:XOF)(f:FS):TS:=fun D σ H=>∃ H₀ F ρ r,SR cv H₀ F ρ σ H∧f ρ=some r∧KS cv XO H₀ F D r
section
variable{X:Cx}{XO:XOF}{cv:Cfg}{e:Expr}{f fa fb:FE}{st:Stmt}{rest sa sb:List Stmt}{a b:FS}{pos:Pos}
theorem PSs.imp{sts:List Stmt}{t t':TS}(h:PSs X sts t)(g:∀ D σ H,t' D σ H→t D σ H):PSs X sts t':=fun pins s σ H D I q=>h pins s σ H D I (g D σ H q)
theorem xh{H₀ F:Hp}{ρ:Rho}{σ:L2.St}{H:Hp}{D:Ends}{Q:VK}{k:Nat→PyData→Option RS}{r:RS}(g:SR cv H₀ F ρ σ H)(e:zi (f ρ) ρ k=some r)(kk:KS cv XO H₀ F D r)
    (cont:∀ l d v H1,Same H H1→Rep (PL H₀ H l) H1 d v→k l d=some r→Q v H1):tF ⟨cv.cv,XO⟩ f σ H Q:=by
  cases h:f ρ with
  | none=>rw [h] at e;cases e
  | some x=>
    rw [h] at e
    cases x with
    | exc c=>
      cases (Option.some.inj e)
      refine ⟨H₀,H,ρ,.exc c,g.g,h,⟨fun l d v H' e=>(nomatch e),fun c' H' e' s=>?_⟩⟩
      cases e'
      exact kk σ H' (g.same s)
    | ok l d=>
      refine ⟨H₀,H,ρ,.ok l d,g.g,h,⟨fun l' d' v H' e' s rp=>?_,fun c H' e=>(nomatch e)⟩⟩
      cases e'
      exact cont l d v H' s rp e
theorem jj:PSs X [] (tS cv XO zj):=PSs.imp KM fun D σ H ⟨H₀,F,ρ,r,g,e,k⟩=>by
  cases e
  exact k σ H g
theorem zr(h:PS X st (tS cv XO a)):PSs X [st] (tS cv XO a):=Md h
theorem zf(h:PS X st (tS cv XO a))(t:PSs X rest (tS cv XO b)):PSs X (st::rest) (tS cv XO (ze a b)):=PSs.imp (Jw h t) fun D σ H ⟨H₀,F,ρ,r,g,e,k⟩=>by
  unfold ze at e
  cases ha:a ρ with
  | none=>rw [ha] at e;cases e
  | some x=>
    rw [ha] at e
    cases x with
    | next ρ'=>exact ⟨H₀,F,ρ,.next ρ',g,ha,fun σ' H' g'=>⟨H₀,F,ρ',r,g',e,k⟩⟩
    | ret d=>cases e;exact ⟨H₀,F,ρ,.ret d,g,ha,k⟩
    | exc c ρ'=>cases e;exact ⟨H₀,F,ρ,.exc c ρ',g,ha,k⟩
    | brk ρ'=>cases e;exact ⟨H₀,F,ρ,.brk ρ',g,ha,k⟩
    | cont ρ'=>cases e;exact ⟨H₀,F,ρ,.cont ρ',g,ha,k⟩
    | retL d ds=>cases e;exact ⟨H₀,F,ρ,.retL d ds,g,ha,k⟩
theorem jd(h:PE X e (tF ⟨cv.cv,XO⟩ f)):PS X (.Return (some e) pos) (tS cv XO (zu f)):=
  PS.imp (lj h) fun D σ H ⟨H₀,F,ρ,r,g,e,k⟩=>xh g e k fun l d v H1 s1 r1 e1=>by
    split at e1
    · rename_i hc
      cases e1
      refine k v H1 (g.s1.trans s1) ?_
      by_cases hl:lf d=true
      · exact r1.nl hl
      · have h1:1≤l:=by
          rw [Bool.or_eq_true] at hc
          exact of_decide_eq_true (hc.resolve_left hl)
        exact r1.imp fun z a p=>PL.le (g.s0.trans g.s1) h1 p
    · cases e1
theorem wk{c:Expr}{fc:FE}(hc:PT X c (yo (tF ⟨cv.cv,XO⟩ fc)))(ha:PSs X sa (tS cv XO a))(hb:PSs X sb (tS cv XO b)):PS X (.If c sa sb pos) (tS cv XO (sIf fc a b)):=
  PS.imp (ON hc ha hb) fun D σ H ⟨H₀,F,ρ,r,g,e,k⟩=>xh g e k fun l d v H1 s1 r1 e1=>by
    split at e1
    · exact ⟨true,r1,L2.Gg (⟨H₀,F,ρ,r,g.same s1,e1,k⟩)⟩
    · exact ⟨false,r1,L2.FZ (⟨H₀,F,ρ,r,g.same s1,e1,k⟩)⟩
    · cases e1
theorem bb{H:Hp}{a:Addr}{o:HO}(e:H a=some o):H a≠none:=by rw [e];simp
theorem qz{α:Type}(xs:List α)(i j:Nat)(v:α)(hi:i < xs.length):(xs.set i v)[j]? =if i=j then some v else xs[j]?:=by
  by_cases h:i=j
  · subst h;simp [hi]
  · simp [h]
theorem SR.set{H₀ F H H1:Hp}{ρ:Rho}{σ:L2.St}{i l:Nat}{d:PyData}{v:V}{t:Slot}(g:SR cv H₀ F ρ σ H)(hi':Nat.blt i cv.n=true)(s1:Same H H1)(r1:Rep (PL H₀ H l) H1 d v)(ha:asg l d=some t):
    SR cv H₀ F (ρ.set i (some t)) (σ.set i (some v)) H1:=by
  obtain ⟨O,o⟩:=g.ex
  have o1:SO cv H₀ F ρ σ H1 O:=⟨o.fr,fun a i e=>let ⟨vs,q⟩:=o.ls a i e;⟨vs,s1 _ _ q⟩,fun i t e=>(o.sl i t e).same s1⟩
  have hi:i < σ.length:=by rw [g.ln];exact Nat.ble_eq.mp hi'
  have hρ:i < ρ.length:=by rw [g.len];exact Nat.ble_eq.mp hi'
  have keep:∀ (O':Own),(∀ a,H a≠none→O' a=O a)→∀ j t',i≠j→(ρ.set i (some t))[j]? =some (some t')→SS cv H₀ O' (σ.set i (some v))[j]? j H1 t':=fun O' hO j t' hij e=>by
    rw [qz _ _ _ _ hρ,if_neg hij] at e
    rw [qz _ _ _ _ hi,if_neg hij]
    have q:=o.sl j t' e
    have old:∀ {P P':PP},(∀ z a,H a≠none→P z a→P' z a)→∀ {d:PyData} {v:V},Rep P H d v→Rep P' H1 d v:=fun {P P'} hP {d v} r=>
      Rep.mono (fun a vs e=>Rd.same s1 e) (fun a vs r=>by
        rcases r with ⟨p,e⟩ | ⟨p,u,e⟩
        · exact .inl ⟨hP _ _ (bb e) p,s1 _ _ e⟩
        · exact .inr ⟨hP _ _ (bb e) p,u,s1 _ _ e⟩) d v r
    cases t' with
    | par d=>obtain ⟨w,e,r⟩:=q;exact ⟨w,e,old (fun z a n p=>by rw [hO a n];exact p) r⟩
    | loc d=>obtain ⟨w,e,r⟩:=q;exact ⟨w,e,old (fun z a n p=>by rw [hO a n];exact p) r⟩
    | own ds=>
      obtain ⟨p,vs,e,q,h,rs⟩:=q
      exact ⟨p,vs,e,by rw [hO p (bb h)];exact q,s1 _ _ h,rs.same s1⟩
    | own2 ds=>
      obtain ⟨p,vs,e,q,h,rs⟩:=q
      exact ⟨p,vs,e,by rw [hO p (bb h)];exact q,s1 _ _ h,Reps.mono (fun a vs e=>Rd.same s1 e) (fun a vs r=>by
        rcases r with ⟨p,e⟩ | ⟨p,u,e⟩
        · exact .inl ⟨⟨p.1,(hO a (bb e)).trans p.2.1,p.2.2⟩,s1 _ _ e⟩
        · exact .inr ⟨⟨p.1,(hO a (bb e)).trans p.2.1,p.2.2⟩,u,s1 _ _ e⟩) ds _ rs⟩
    | lent ds=>
      obtain ⟨vs,e,q,h,rs⟩:=q
      exact ⟨vs,e,by rw [hO _ (bb h)];exact q,s1 _ _ h,rs.same s1⟩
    | dct ks=>obtain ⟨a,e,q,h⟩:=q;obtain ⟨_,hw⟩:=h.ow;exact ⟨a,e,by rw [hO a (bb hw)];exact q,h.same s1⟩
    | ex c=>obtain ⟨a,e,x⟩:=q;exact ⟨a,e,x.same s1⟩
  have fin:∀ (O':Own),(∀ a,H a≠none→O' a=O a)→(∀ a i,O' a=some i→F a=none)→(∀ a i,O' a=some i→∃ vs:OwV,H1 a=some vs.ho)→SS cv H₀ O' (some (some v)) i H1 t→SR cv H₀ F (ρ.set i (some t)) (σ.set i (some v)) H1:=fun O' hO hF hL ht=>
    ⟨g.s0,g.s1.trans s1,by simp [g.len],by simp [g.ln],O',hF,hL,fun j t' e=>by
      by_cases hij:i=j
      · subst hij
        rw [qz _ _ _ _ hρ,if_pos rfl] at e
        cases e
        rw [qz _ _ _ _ hi,if_pos rfl]
        exact ht
      · exact keep O' hO j t' hij e⟩
  unfold asg at ha
  split at ha
  · rename_i hl
    cases ha
    exact fin O (fun _ _=>rfl) o.fr o1.ls ⟨v,rfl,r1.nl hl⟩
  · split at ha
    · rename_i h2
      have young:∀ z a,PL H₀ H l z a→z=false∧O a=none∧H₀ a=none:=fun z a p=>by
        have p2:z=false∧H a=none:=by
          match l,h2,p with
          | l+2,_,p=>exact p
        refine ⟨p2.1,?_,(g.s0.trans g.s1).free p2.2⟩
        cases q:O a with
        | none=>rfl
        | some j=>obtain ⟨vs,e⟩:=o.ls a j q;rw [p2.2] at e;cases vs<;>cases e
      split at ha
      · rename_i ds
        split at ha
        · rename_i hf
          cases ha
          obtain ⟨p,vs,rfl,rl,rs⟩:=r1
          rcases rl with ⟨y,e⟩ | ⟨y,u,e⟩
          · have hn:H p=none:=by
              match l,h2,y with
              | l+2,_,y=>exact y.2
            refine fin (fun a=>if a=p then some i else O a) (fun a n=>?_) (fun a j q=>?_) (fun a j q=>?_) ⟨p,vs,rfl,by simp,e,rs.nl hf⟩
            · rw [if_neg]
              intro z;subst z;exact n hn
            · by_cases z:a=p
              · subst z;exact g.s1.free hn
              · rw [if_neg z] at q;exact o.fr a j q
            · by_cases z:a=p
              · subst z;exact ⟨.l vs,e⟩
              · rw [if_neg z] at q;exact o1.ls a j q
          · exact absurd (young _ _ y).1 (by simp)
        · cases ha
          exact fin O (fun _ _=>rfl) o.fr o1.ls ⟨v,rfl,r1.imp young⟩
      · cases ha
        exact fin O (fun _ _=>rfl) o.fr o1.ls ⟨v,rfl,r1.imp young⟩
    · cases ha
theorem je(i:Nat){x:Str}{pos':Pos}(hN:X.N.Nodup)(h:PE X e (tF ⟨cv.cv,XO⟩ f))(hi:X.N[i]? =some x:=by rfl)(hx:Loc X.env.scope x:=by first | exact Or.inl rfl | exact Or.inr rfl)
    (hs:swapsWith e (some (.Name x pos')) pos.line X.env=pure false:=by rfl) (hf:X.fn x=true∨X.env.scope.names.lookup x=some .local:=by first | exact .inl rfl | exact .inr rfl | assumption)
    (hin:Nat.blt i cv.n=true:=by rfl):PS X (.Assign [.Name x pos'] e pos) (tS cv XO (zn i f)):=by
  intro pins s σ H D I ⟨H₀,F,ρ,r,g,e',k⟩
  refine ol hN hi hx h hs hf pins s σ H D I ?_
  refine xh g e' k fun l d v H1 s1 r1 e1=>?_
  cases ha:asg l d with
  | none=>rw [ha] at e1;cases e1
  | some t=>
    rw [ha] at e1
    cases e1
    exact k _ _ (g.set hin s1 r1 ha)
end
section
variable{X:Cx}{XO:XOF}{cv:Cfg}{e:Expr}{f fa fb:FE}{st:Stmt}{rest sa sb:List Stmt}{a b:FS}{pos:Pos}
variable{H₀ F H H1:Hp}{ρ:Rho}{σ:L2.St}
theorem Rep.none_lf{P:PP}{d:PyData}{v:V}(r:Rep (fun _ _=>False) H d v):Rep P H d v:=r.imp fun _ _ z=>z.elim
theorem SR.put{i:Nat}{v:V}{t:Slot}(g:SR cv H₀ F ρ σ H)(hi':Nat.blt i cv.n=true)(ht:∀ O,SO cv H₀ F ρ σ H O→SS cv H₀ O (some (some v)) i H t):SR cv H₀ F (ρ.set i (some t)) (σ.set i (some v)) H:=by
  obtain ⟨O,o⟩:=g.ex
  have hi:i < σ.length:=by rw [g.ln];exact Nat.ble_eq.mp hi'
  have hρ:i < ρ.length:=by rw [g.len];exact Nat.ble_eq.mp hi'
  refine ⟨g.s0,g.s1,by simp [g.len],by simp [g.ln],O,o.fr,o.ls,fun j t' e=>?_⟩
  by_cases hij:i=j
  · subst hij
    rw [qz _ _ _ _ hρ,if_pos rfl] at e
    cases e
    rw [qz _ _ _ _ hi,if_pos rfl]
    exact ht O o
  · rw [qz _ _ _ _ hρ,if_neg hij] at e
    rw [qz _ _ _ _ hi,if_neg hij]
    exact o.sl j t' e
theorem SR.putLoc{i:Nat}{v:V}{d:PyData}(g:SR cv H₀ F ρ σ H)(hi:Nat.blt i cv.n=true)(r:Rep (fun _ _=>False) H d v):SR cv H₀ F (ρ.set i (some (.loc d))) (σ.set i (some v)) H:=
  g.put hi fun O o=>⟨v,rfl,r.none_lf⟩
theorem DR.upd{ks:List (List Int×Int)}{a p:Addr}{o:HO}(h:DR H ks a)(hne:a≠p):DR (upd H p o) ks a:=let ⟨ep,q⟩:=h;⟨ep,(zt hne).trans q⟩
theorem SR.change{i:Nat}{ds ds':List PyData}{p:Addr}{vs vs':List V}{O:Own}(g:SR cv H₀ F ρ σ H)(o:SO cv H₀ F ρ σ H O)(hi:ρ[i]? =some (some (.own ds)))(hσ:σ[i]? =some (some (.ref p)))(hO:O p=some i)(hp:H p=some (.lst vs))(r:Reps (fun _ _=>False) H ds' vs'):
    SR cv H₀ F (ρ.set i (some (.own ds'))) σ (upd H p (.lst vs')):=by
  have hρ:i < ρ.length:=(List.getElem?_eq_some_iff.mp hi).1
  have hT:∀ a xs,Rd H a (.tup xs)→Rd (upd H p (.lst vs')) a (.tup xs):=fun a xs e=>o9 (o0:=.l vs) hp e
  have hR:∀ {P:PP},(∀ z a,P z a→O a=none)→∀ (d:PyData) (v:V),Rep P H d v→Rep P (upd H p (.lst vs')) d v:=fun {P} hP d v r=>
    Rep.mono hT (fun a ws rl=>by
      have hne:∀ z,P z a→a≠p:=fun z q y=>by have:=hP z a q;rw [y,hO] at this;cases this
      rcases rl with ⟨q,e⟩ | ⟨q,u,e⟩
      · exact .inl ⟨q,by rw [zt (hne _ q)];exact e⟩
      · exact .inr ⟨q,u,by rw [zt (hne _ q)];exact e⟩) d v r
  have hF:∀ {ds:List PyData} {ws:List V},Reps (fun _ _=>False) H ds ws→Reps (fun _ _=>False) (upd H p (.lst vs')) ds ws:=fun {ds ws} r=>
    Reps.mono hT (fun a ws rl=>by rcases rl with ⟨q,_⟩ | ⟨q,_⟩<;>exact q.elim) ds ws r
  refine ⟨g.s0,fun b u e=>?_,by simp [g.len],g.ln,O,o.fr,fun a j e=>?_,fun j t e=>?_⟩
  · rw [zt]
    · exact g.s1 b u e
    · intro z;subst z;rw [o.fr b i hO] at e;cases e
  · by_cases z:a=p
    · subst z;exact ⟨.l vs',z9⟩
    · rw [zt z];exact o.ls a j e
  · by_cases hij:i=j
    · subst hij
      rw [qz _ _ _ _ hρ,if_pos rfl] at e
      cases e
      exact ⟨p,vs',hσ,hO,z9,hF r⟩
    · rw [qz _ _ _ _ hρ,if_neg hij] at e
      have q:=o.sl j t e
      cases t with
      | par d=>obtain ⟨w,e1,rr⟩:=q;exact ⟨w,e1,hR (fun _ _ x=>x) d w rr⟩
      | loc d=>obtain ⟨w,e1,rr⟩:=q;exact ⟨w,e1,hR (fun _ _ x=>x.2.1) d w rr⟩
      | own ds=>
        obtain ⟨q1,ws,e1,hq,hqp,rs⟩:=q
        have hne:q1≠p:=fun z=>by rw [z,hO] at hq;cases hq;exact hij rfl
        exact ⟨q1,ws,e1,hq,by rw [zt hne];exact hqp,hF rs⟩
      | own2 ds=>
        obtain ⟨q1,ws,e1,hq,hqp,rs⟩:=q
        have hne:q1≠p:=fun z=>by rw [z,hO] at hq;cases hq;exact hij rfl
        exact ⟨q1,ws,e1,hq,by rw [zt hne];exact hqp,Reps.mono hT (fun a ws rl=>by
          have hne:∀ z,(z=false∧O a=none∧H₀ a=none)→a≠p:=fun z q y=>by have:=q.2.1;rw [y,hO] at this;cases this
          rcases rl with ⟨q,e⟩ | ⟨q,u,e⟩
          · exact .inl ⟨q,by rw [zt (hne _ q)];exact e⟩
          · exact .inr ⟨q,u,by rw [zt (hne _ q)];exact e⟩) ds ws rs⟩
      | lent ds=>
        obtain ⟨ws,e1,hq,hqp,rs⟩:=q
        have hne:cv.lend≠p:=fun z=>by rw [z,hO] at hq;cases hq;exact hij rfl
        exact ⟨ws,e1,hq,by rw [zt hne];exact hqp,hF rs⟩
      | dct ks=>
        obtain ⟨q1,e1,hq,hd⟩:=q
        have hne:q1≠p:=fun z=>by rw [z,hO] at hq;cases hq;exact hij rfl
        exact ⟨q1,e1,hq,hd.upd hne⟩
      | ex c=>
        obtain ⟨w,e1,φ,hx,hφ⟩:=q
        have hne:w≠p:=fun z=>by rw [z,hp] at hx;cases hx
        exact ⟨w,e1,φ,by rw [zt hne];exact hx,hφ⟩
theorem SR.own{i:Nat}{ds:List PyData}(g:SR cv H₀ F ρ σ H)(hi:ρ[i]? =some (some (.own ds))):∃ O p vs,SO cv H₀ F ρ σ H O∧σ[i]? =some (some (.ref p))∧O p=some i∧H p=some (.lst vs)∧Reps (fun _ _=>False) H ds vs:=by
  obtain ⟨O,o⟩:=g.ex
  obtain ⟨p,vs,e,q,h,r⟩:=o.sl i _ hi
  exact ⟨O,p,vs,o,e,q,h,r⟩
theorem m9(i:Nat){x:Str}{xp apos cpos:Pos}(h:PE X e (tF ⟨cv.cv,XO⟩ f))(hN:X.N[i]? =some x:=by rfl)(hv:Vis X.env.scope x:=by first | exact Or.inl rfl | exact Or.inr (Or.inl rfl) | exact Or.inr (Or.inr rfl))
    (hd:(x == ("__debug__":Str))=false:=by decide) (hcd:(x == ("__classdict__":Str))=false:=by decide)
    (hbase:attributeBase (.Name x xp) "append" X.env (eval (.Name x xp) X.env)=eval (.Name x xp) X.env:=by rfl)
    (hfew:((backTo cpos (starEach [e] X.env)).all (fun x=>!x.1) && (backToKw cpos (keywordEach [] X.env)).all (fun x=>x.1.isSome)
      && decide ([e].length+([]:List Keyword).length+(if ([]:List Keyword).isEmpty then 0 else 1) < 30))=true:=by rfl)
    (hline:(apos.endLine == cpos.line)=true:=by rfl) (hs1:starEach [e] X.env=(false,eval e X.env)::starEach [] X.env:=by rfl) (hplain:(backTo cpos (starEach [] X.env)).any (·.1)=false:=by rfl)
    (hs:swapsWith (.Call (.Attribute (.Name x xp) "append" apos) [e] [] cpos) none pos.line X.env=pure false:=by rfl):
    PS X (.Expr (.Call (.Attribute (.Name x xp) "append" apos) [e] [] cpos) pos) (tS cv XO (vk i f)):=by
  intro pins s σ H D I ⟨H₀,F,ρ,r,g,e',k⟩
  refine m7 (EI PySem.F.plainAttrs_list PySem.F.slot_list_append PySem.F.type_list_append pv (w5 (i:=i) hN hv hd hcd) (wx h gy hs1) hbase hfew hline hs1 hplain) hs pins s σ H D I ?_
  unfold vk at e'
  split at e'
  · rename_i xs hρ
    obtain ⟨O,p,vs,o,hσ,hO,hp,rs⟩:=g.own hρ
    refine ⟨.ref p,hσ,.inl ⟨rfl,vs,SqL.of hp⟩,?_⟩
    refine xh g e' k fun l d v H1 s1 r1 e1=>?_
    split at e1
    · rename_i hc
      cases e1
      rw [Bool.and_eq_true] at hc
      have hlen:xs.length < big:=of_decide_eq_true hc.2
      refine ⟨p,vs,v,rfl,rfl,s1 _ _ hp,by rw [rs.length];exact Nat.lt_of_lt_of_le hlen Db,?_⟩
      have g1:=g.same s1
      have o1:SO cv H₀ F ρ σ H1 O:=⟨o.fr,fun a i e=>let ⟨vs,q⟩:=o.ls a i e;⟨vs,s1 _ _ q⟩,fun i t e=>(o.sl i t e).same s1⟩
      exact k _ _ (g1.change o1 hρ hσ hO (s1 _ _ hp) ((rs.same s1).append (Reps.one (r1.nl hc.1))))
    · cases e1
  · cases e'
theorem O1(j i:Nat){x y:Str}{xp yp apos cpos:Pos}(hnd:X.N.Nodup)(hN:X.N[i]? =some x:=by rfl)(hv:Vis X.env.scope x:=by first | exact Or.inl rfl | exact Or.inr (Or.inl rfl) | exact Or.inr (Or.inr rfl))
    (hd:(x == ("__debug__":Str))=false:=by decide) (hcd:(x == ("__classdict__":Str))=false:=by decide) (hj:X.N[j]? =some y:=by rfl) (hy:Loc X.env.scope y:=by first | exact Or.inl rfl | exact Or.inr rfl)
    (hbase:attributeBase (.Name x xp) "pop" X.env (eval (.Name x xp) X.env)=eval (.Name x xp) X.env:=by rfl) (hline:(apos.endLine == cpos.line)=true:=by rfl)
    (hs:swapsWith (.Call (.Attribute (.Name x xp) "pop" apos) [] [] cpos) (some (.Name y yp)) pos.line X.env=pure false:=by rfl) (hf:X.fn y=true∨X.env.scope.names.lookup y=some .local:=by first | exact .inl rfl | exact .inr rfl | assumption)
    (hjn:Nat.blt j cv.n=true:=by rfl):PS X (.Assign [.Name y yp] (.Call (.Attribute (.Name x xp) "pop" apos) [] [] cpos) pos) (tS cv XO (Hx j i)):=by
  intro pins s σ H D I ⟨H₀,F,ρ,r,g,e',k⟩
  refine ol hnd hj hy (Nc PySem.F.plainAttrs_list PySem.F.slot_list_pop PySem.F.type_list_pop NU (w5 (i:=i) hN hv hd hcd) hbase hline) hs hf pins s σ H D I ?_
  unfold Hx at e'
  split at e'
  · rename_i xs hρ
    obtain ⟨O,p,vs,o,hσ,hO,hp,rs⟩:=g.own hρ
    split at e'
    · rename_i d hd'
      split at e'
      · cases e'
      · rename_i hij
        cases e'
        obtain ⟨v,hv',rv⟩:=rs.get hd'
        refine ⟨.ref p,hσ,.inl ⟨rfl,vs,SqL.of hp⟩,p,vs,v,rfl,rfl,hp,by rw [rs.length];exact hv',?_⟩
        have dl:Reps (fun _ _=>False) H xs.dropLast vs.dropLast:=by
          rw [List.dropLast_eq_take,List.dropLast_eq_take,rs.length]
          exact rs.take _
        have g2:=g.change o hρ hσ hO hp dl
        refine k _ _ (g2.putLoc hjn ?_)
        exact Rep.mono (fun a ws e=>o9 (o0:=.l vs) hp e) (fun a ws rl=>by rcases rl with ⟨q,_⟩ | ⟨q,_⟩<;>exact q.elim) d v rv
    · cases e'
  · cases e'
def rExtendD:V→List V→Hp→VK→Prop:=fun x vs H Q=>∃ l b xs zs,x= .ref l∧vs=[.ref b]∧H l=some (.lst xs)∧(Rd H b (.lst zs)∨Rd H b (.tup zs))∧xs.length+zs.length≤sizeLine∧Q .non (upd H l (.lst (xs++zs)))
theorem Bp(l:Addr)(items:Array Value)(n:Nat)(b:Addr)(items2:Array Value)(n2:Nat)(dd:Option Addr)(sl:Array (Option Value))(hs0:¬(!items.isEmpty && Builtin.List.listTooLong (items.size+items2.size))=true)(hs1:items.size≤sizeLine)(hs2:items.size+items2.size≤sizeLine+1):
    Meets (Builtin.«list.extend» ⟨[.ref l,.ref b],[]⟩) (fun _ R s=>s.heap.get? l=some {cls:=.type "list",dict:=none,data:=.seq items n,slots:=#[]}∧s.heap.get? b=some {cls:=.type "tuple",dict:=dd,data:=.seq items2 n2,slots:=sl}∧R (.ok (.ret Value.none)) {s with heap:=s.heap.update l (Obj.mapSeq fun x=>x++items2),toks:=s.toks}):=
  .of_wp fun prog w A R s h=>by
    obtain ⟨hp,g,d,tk,os⟩:=s;obtain ⟨hl,hb,h⟩:=h;have f1:=AutoSeq1.idx_int;have f2:=AutoSeq1.sub_tuple_tuple;have f3:=AutoSeq1.sub_list_list;have f4:=AutoSeq1.sub_tuple_list;have f5:=AutoSeq1.sub_list_tuple;
    have hz':(items++items2).size≤sizeLine+1:=by rw [Array.size_append];exact hs2
    wp_walk using (wpAny_updateSeq hl rfl (hz:=hs1) (_hz':=hz')),AutoSeq1.wpAny_loadPart' hl,AutoSeq1.wpAny_loadPart' hb;exact ⟨_,rfl,h⟩
theorem FM:MtM X "list.extend" rExtendD:=by
  intro pins s σ H x vs v us Q I rx rv h
  obtain ⟨l,b,xs,zs,rfl,rfl,hH,hB,hz,q⟩:=h
  cases rx
  obtain ⟨u,rfl,ru⟩:=rv.one
  cases ru
  obtain ⟨z,its,n,r,hl,e⟩:=I.lstM hH
  rcases hB with hB | hB
  · obtain ⟨z2,its2,n2,r2,hl2,e2⟩:=Mb I hB
    have hsz:its.toArray.size+its2.toArray.size≤sizeLine:=by rw [List.size_toArray,List.size_toArray];omega
    have hlong:¬ (!its.toArray.isEmpty && Builtin.List.listTooLong (its.toArray.size+its2.toArray.size))=true:=by
      rw [AE hsz,Bool.and_false]
      exact Bool.false_ne_true
    refine call_meets F.slot_list_extend ⟨_,e,rfl⟩ F.entry_list_extend (F.args_list_extend_2 _ _)
      (AutoSeq1.list_extend_list_list_0 l its.toArray n b its2.toArray n2 hlong (by rw [List.size_toArray];omega) (by omega)) ⟨e,e2,?_⟩
    refine ⟨.non,_,I.lset (its':=its++its2) hH e (by simp) (r.append r2) ?_,rfl,q⟩
    rw [List.length_append]
    omega
  · obtain ⟨its2,r2,⟨⟨cls2,dd2,data2,sl2⟩,e2,hc2,n2,hd2⟩,z2⟩:=I.tuple (.inl hB)
    simp only at hc2 hd2
    subst hc2 hd2
    have hl2:=r2.length
    have hsz:its.toArray.size+its2.toArray.size≤sizeLine:=by rw [List.size_toArray,List.size_toArray];omega
    have hlong:¬ (!its.toArray.isEmpty && Builtin.List.listTooLong (its.toArray.size+its2.toArray.size))=true:=by
      rw [AE hsz,Bool.and_false]
      exact Bool.false_ne_true
    refine call_meets F.slot_list_extend ⟨_,e,rfl⟩ F.entry_list_extend (F.args_list_extend_2 _ _)
      (Bp l its.toArray n b its2.toArray n2 dd2 sl2 hlong (by rw [List.size_toArray];omega) (by omega)) ⟨e,e2,?_⟩
    refine ⟨.non,_,I.lset (its':=its++its2) hH e (by simp) (r.append r2) ?_,rfl,q⟩
    rw [List.length_append]
    omega
theorem EV(i:Nat){x:Str}{xp apos cpos:Pos}(h:PE X e (tF ⟨cv.cv,XO⟩ f))(hN:X.N[i]? =some x:=by rfl)(hv:Vis X.env.scope x:=by first | exact Or.inl rfl | exact Or.inr (Or.inl rfl) | exact Or.inr (Or.inr rfl))
    (hd:(x == ("__debug__":Str))=false:=by decide) (hcd:(x == ("__classdict__":Str))=false:=by decide)
    (hbase:attributeBase (.Name x xp) "extend" X.env (eval (.Name x xp) X.env)=eval (.Name x xp) X.env:=by rfl)
    (hfew:((backTo cpos (starEach [e] X.env)).all (fun x=>!x.1) && (backToKw cpos (keywordEach [] X.env)).all (fun x=>x.1.isSome)
      && decide ([e].length+([]:List Keyword).length+(if ([]:List Keyword).isEmpty then 0 else 1) < 30))=true:=by rfl)
    (hline:(apos.endLine == cpos.line)=true:=by rfl) (hs1:starEach [e] X.env=(false,eval e X.env)::starEach [] X.env:=by rfl) (hplain:(backTo cpos (starEach [] X.env)).any (·.1)=false:=by rfl)
    (hs:swapsWith (.Call (.Attribute (.Name x xp) "extend" apos) [e] [] cpos) none pos.line X.env=pure false:=by rfl):
    PS X (.Expr (.Call (.Attribute (.Name x xp) "extend" apos) [e] [] cpos) pos) (tS cv XO (u1 i f)):=by
  intro pins s σ H D I ⟨H₀,F,ρ,r,g,e',k⟩
  refine m7 (EI PySem.F.plainAttrs_list PySem.F.slot_list_extend PySem.F.type_list_extend FM (w5 (i:=i) hN hv hd hcd) (wx h gy hs1) hbase hfew hline hs1 hplain) hs pins s σ H D I ?_
  unfold u1 at e'
  split at e'
  · rename_i xs hρ
    obtain ⟨O,p,vs,o,hσ,hO,hp,rs⟩:=g.own hρ
    refine ⟨.ref p,hσ,.inl ⟨rfl,vs,SqL.of hp⟩,?_⟩
    refine xh g e' k fun l d v H1 s1 r1 e1=>?_
    have g1:=g.same s1
    have o1:SO cv H₀ F ρ σ H1 O:=⟨o.fr,fun a i e=>let ⟨vs,q⟩:=o.ls a i e;⟨vs,s1 _ _ q⟩,fun i t e=>(o.sl i t e).same s1⟩
    split at e1
    · rename_i ys
      split at e1
      · rename_i hc
        cases e1
        rw [Bool.and_eq_true] at hc
        have hlen:xs.length+ys.length≤big:=of_decide_eq_true hc.2
        obtain ⟨q,us,rfl,rl,ru⟩:=r1
        refine ⟨p,q,vs,us,rfl,rfl,s1 _ _ hp,.inl rl.rd,by rw [rs.length,ru.length];exact ut hlen,?_⟩
        exact k _ _ (g1.change o1 hρ hσ hO (s1 _ _ hp) ((rs.same s1).append (ru.nl hc.1)))
      · cases e1
    · rename_i ys
      split at e1
      · rename_i hc
        cases e1
        rw [Bool.and_eq_true] at hc
        have hlen:xs.length+ys.length≤big:=of_decide_eq_true hc.2
        obtain ⟨q,us,rfl,hq,ru⟩:=r1
        refine ⟨p,q,vs,us,rfl,rfl,s1 _ _ hp,.inr hq,by rw [rs.length,ru.length];exact ut hlen,?_⟩
        exact k _ _ (g1.change o1 hρ hσ hO (s1 _ _ hp) ((rs.same s1).append (ru.nl hc.1)))
      · cases e1
    · cases e1
  · cases e'
end
section
variable{X:Cx}{XO:XOF}{cv:Cfg}{e:Expr}{f fa fb fc:FE}{st:Stmt}{rest sa sb body:List Stmt}{a b:FS}{pos:Pos}{tg iter:Expr}{fi:FI}{tf:FT}
variable{H₀ F F' H H1:Hp}{ρ:Rho}{σ:L2.St}
theorem CZ{c:Expr}(hp:PassesOwn (model X.prog X.w) X.A X.env X.xe)(hc:PT X c (yo (tF ⟨cv.cv,XO⟩ fc)))(hb:PSs X body (tS cv XO b)):PS X (.While c body [] pos) (tS cv XO (bi fc b)):=
  PS.imp (Kt hp hc hb) fun D σ H ⟨H₀,F,ρ,r,g,e,k⟩=>by
    refine ⟨fun m σ' H'=>∃ ρ',SR cv H₀ F ρ' σ' H'∧ya fc b m ρ'=some r,⟨wFuel,ρ,g,e⟩,?_⟩
    rintro m σ1 H1 ⟨ρ1,g1,e1⟩
    cases m with
    | zero=>cases e1
    | succ m=>
      unfold ya at e1
      refine xh g1 e1 k fun l d v H2 s2 r2 e2=>?_
      have g2:=g1.same s2
      split at e2
      · refine ⟨true,r2,L2.Gg ?_⟩
        refine ⟨fun σ' H'=>∃ ρ',SR cv H₀ F ρ' σ' H'∧ya fc b m ρ'=some r,fun σ' H' ⟨ρ',g',e'⟩=>⟨m,Nat.lt_succ_self m,ρ',g',e'⟩,?_⟩
        cases hbr:b ρ1 with
        | none=>rw [hbr] at e2;cases e2
        | some x=>
          rw [hbr] at e2
          refine ⟨H₀,F,ρ1,x,g2,hbr,?_⟩
          cases x with
          | next ρ'=>exact fun σ' H' g'=>⟨ρ',g',e2⟩
          | cont ρ'=>exact fun σ' H' g'=>⟨ρ',g',e2⟩
          | brk ρ'=>cases e2;exact k
          | ret d=>cases e2;exact k
          | retL d ds=>cases e2;exact k
          | exc c ρ'=>cases e2;exact k
      · refine ⟨false,r2,L2.FZ ?_⟩
        cases e2
        exact k σ1 H2 g2
      · cases e2
def cz(Z:Hp)(J:It)(ds:List PyData):Prop:=
  ∀ H2,Same Z H2→∀ i,(∀ d,ds[i]? =some d→J.go i H2∧∀ x H3,J.yld i H2 x H3→Same H2 H3∧Rep (fun _ _=>False) H3 d x)∧(i=ds.length→J.stop i H2)
def IF(H₀ Hs:Hp)(l:Nat)(ds:List PyData)(J:It)(H1:Hp):Prop:=
  ∀ Z,(∀ a xs,Rd H1 a (.tup xs)→Rd Z a (.tup xs))→(∀ a u,Rl (PL H₀ Hs l) H1 a u→Rd Z a u)→cz Z J ds
def tI(XO:XOT)(fi:FI):TI:=fun σ H R=>∃ H₀ Hs ρ r,G XO.cv H₀ Hs ρ σ H∧fi ρ=some r∧(∀ l ds J H1,r= .ok l ds→Same H H1→IF H₀ Hs l ds J H1→R J H1)∧∀ c H',r= .exc c→Same H H'→XO.f c σ H'
theorem PI.imp{wi wi':TI}(h:PI X tg iter wi)(g:∀ σ H R,wi' σ H R→wi σ H R):PI X tg iter wi':=fun pins s σ H R I q=>h pins s σ H R I (g σ H R q)
theorem PI.or{wi wi':TI}(h:PI X tg iter wi)(h':PI X tg iter wi'):PI X tg iter (fun σ H R=>wi σ H R∨wi' σ H R):=fun pins s σ H R I q=>q.elim (h pins s σ H R I) (h' pins s σ H R I)
theorem bc{K:PySem.W.Frag}{Z:Hp}{p:Addr}{vs:List V}{ds:List PyData}(hl:Rd Z p (.lst vs))(r:Reps (fun _ _=>False) Z ds vs):cz Z (Itl K p) ds:=fun H2 s i=>by
  have hq:SqL K H2 p vs:=.inl (Rd.same s hl)
  refine ⟨fun d hd=>?_,fun hi=>⟨vs,hq,by rw [r.length,hi];exact Nat.le_refl _⟩⟩
  obtain ⟨v,hv,rv⟩:=r.get hd
  refine ⟨⟨vs,v,hq,hv⟩,fun x H3 y=>?_⟩
  obtain ⟨e,y⟩:=y
  subst e
  have:=y vs hq
  rw [hv] at this
  cases this
  exact ⟨Same.refl _,rv.same s⟩
theorem lm{K:PySem.W.Frag}{Z:Hp}{p:Addr}{vs:List V}{ds:List PyData}(hl:Rd Z p (.tup vs))(r:Reps (fun _ _=>False) Z ds vs):cz Z (Itt K p) ds:=fun H2 s i=>by
  have hq:SqT K H2 p vs:=.inl (Rd.same s hl)
  refine ⟨fun d hd=>?_,fun hi=>⟨vs,hq,by rw [r.length,hi];exact Nat.le_refl _⟩⟩
  obtain ⟨v,hv,rv⟩:=r.get hd
  refine ⟨⟨vs,v,hq,hv⟩,fun x H3 y=>?_⟩
  obtain ⟨e,y⟩:=y
  subst e
  have:=y vs hq
  rw [hv] at this
  cases this
  exact ⟨Same.refl _,rv.same s⟩
theorem EA{Z:Hp}{n:Nat}:cz Z (Itr 0 n) (bh n):=fun H2 s i=>by
  refine ⟨fun d hd=>?_,fun hi=>?_⟩
  · unfold bh at hd
    rw [List.getElem?_map] at hd
    cases hr:(List.range n)[i]? with
    | none=>rw [hr] at hd;cases hd
    | some k=>
      rw [hr] at hd
      cases hd
      obtain ⟨hlt,hk⟩:=List.getElem?_eq_some_iff.mp hr
      rw [List.length_range] at hlt
      rw [List.getElem_range] at hk
      subst hk
      refine ⟨hlt,fun x H3 y=>?_⟩
      obtain ⟨e,y⟩:=y
      subst e y
      refine ⟨Same.refl _,?_⟩
      show V.int (0+(i:Int))=V.int (i:Int)
      rw [Int.zero_add]
  · show n≤i
    rw [hi]
    simp [bh]
theorem DB{XO:XOT}(h:PE X e (tF XO f)):PI X tg e (tI XO (uk f)):=PI.imp (PI.or (GM h) (Fj h)) fun σ H R ⟨H₀,Hs,ρ,r,g,e,k,kx⟩=>by
  unfold uk at e
  split at e
  · rename_i l ds hf
    split at e
    · rename_i hlf
      cases e
      refine .inl ⟨H₀,Hs,ρ,_,g,hf,⟨fun l' d' v H1 e' s1 r1=>?_,fun c H' e=>(nomatch e)⟩⟩
      cases e'
      obtain ⟨p,vs,rfl,rl,rs⟩:=r1
      refine ⟨p,rfl,⟨vs,.inl rl.rd⟩,k l ds (Itl X.K p) H1 rfl s1 fun Z hT hL=>bc (hL p _ rl) ?_⟩
      exact Reps.free hT ds vs hlf rs
    · cases e
  · rename_i l ds hf
    split at e
    · rename_i hlf
      cases e
      refine .inr ⟨H₀,Hs,ρ,_,g,hf,⟨fun l' d' v H1 e' s1 r1=>?_,fun c H' e=>(nomatch e)⟩⟩
      cases e'
      obtain ⟨p,vs,rfl,hp,rs⟩:=r1
      refine ⟨p,rfl,⟨vs,.inl hp⟩,k 2 ds (Itt X.K p) H1 rfl s1 fun Z hT hL=>lm (hT p vs hp) ?_⟩
      exact Reps.free hT ds vs hlf rs
    · cases e
  · rename_i c hf
    cases e
    exact .inl ⟨H₀,Hs,ρ,_,g,hf,⟨fun l' d' v H1 e' s1 r1=>(nomatch e'),fun c' H' e' s=>kx c' H' (by cases e';rfl) s⟩⟩
  · cases e
theorem OA{XO:XOT}{p:Pos}(C:BC X)(h:PE X e (tF XO f))(hg:Gl X "range":=by rfl)(hs:starEach [e] X.env=[(false,eval e X.env)]:=by rfl):PI X tg (.Call (.Name "range" p) [e] [] pos) (tI XO (iR1 f)):=
  PI.imp (HW hg C.mrange (wx h gy (by rw [hs];rfl)) hs) fun σ H R ⟨H₀,Hs,ρ,r,g,e,k,kx⟩=>by
    unfold iR1 at e
    split at e
    · rename_i l n hf
      split at e
      · rename_i hn
        cases e
        refine ⟨H₀,Hs,ρ,_,g,hf,⟨fun l' d' v H1 e' s1 r1=>?_,fun c H' e=>(nomatch e)⟩⟩
        cases e'
        have hb:big < 2 ^ 62:=by decide
        refine ⟨n,by rw [show v=V.int n from r1],by omega,by omega,?_⟩
        exact k 2 _ _ H1 rfl s1 fun Z _ _=>EA
      · cases e
    · rename_i c hf
      cases e
      exact ⟨H₀,Hs,ρ,_,g,hf,⟨fun l' d' v H1 e' s1 r1=>(nomatch e'),fun c' H' e' s=>kx c' H' (by cases e';rfl) s⟩⟩
    · cases e
def Bs(O:Own)(H:Hp):Hp:=fun a=>match O a with
  | some _=>none
  | none=>H a
theorem j9{O:Own}{H:Hp}{a:Addr}(h:O a=none):Bs O H a=H a:=by unfold Bs;rw [h]
theorem Cn{O:Own}{H:Hp}{a:Addr}{i:Nat}(h:O a=some i):Bs O H a=none:=by unfold Bs;rw [h]
theorem Dj{O:Own}{H:Hp}{a:Addr}{xs:List V}(ls:∀ a i,O a=some i→∃ vs:OwV,H a=some vs.ho)(h:Rd H a (.tup xs)):Rd (Bs O H) a (.tup xs):=by
  cases q:O a with
  | none=>
    rcases h with h | ⟨u,h⟩
    · exact .inl (by rw [j9 q];exact h)
    · exact .inr ⟨u,by rw [j9 q];exact h⟩
  | some i=>
    obtain ⟨vs,hv⟩:=ls a i q
    rcases h with h | ⟨_,h⟩<;>(rw [h] at hv;cases vs<;>cases hv)
theorem SR.freeze{O:Own}(g:SR cv H₀ F ρ σ H)(o:SO cv H₀ F ρ σ H O):SR cv H₀ (Bs O H) ρ σ H∧Same F (Bs O H):=by
  have hF:Same F (Bs O H):=fun b u e=>by
    have:O b=none:=by
      cases q:O b with
      | none=>rfl
      | some i=>rw [o.fr b i q] at e;cases e
    rw [j9 this]
    exact g.s1 b u e
  refine ⟨⟨g.s0.trans hF,fun b u e=>?_,g.len,g.ln,O,fun a i e=>Cn e,o.ls,o.sl⟩,hF⟩
  cases q:O b with
  | none=>rw [j9 q] at e;exact e
  | some i=>rw [Cn q] at e;cases e
theorem SR.thaw(g:SR cv H₀ F' ρ σ H)(h0:Same H₀ F)(h:Same F F'):SR cv H₀ F ρ σ H:=
  ⟨h0,h.trans g.s1,g.len,g.ln,let ⟨O,o⟩:=g.ex;⟨O,fun a i e=>h.free (o.fr a i e),o.ls,o.sl⟩⟩
theorem KS.thaw{D:Ends}{r:RS}(h0:Same H₀ F)(h:Same F F')(k:KS cv XO H₀ F D r):KS cv XO H₀ F' D r:=by
  cases r with
  | next ρ'=>exact fun σ' H' g=>k σ' H' (g.thaw h0 h)
  | ret d=>exact fun v H' s rp=>k v H' (h.trans s) rp
  | exc c ρ'=>exact fun σ' H' g=>k σ' H' (g.thaw h0 h)
  | brk ρ'=>exact fun σ' H' g=>k σ' H' (g.thaw h0 h)
  | cont ρ'=>exact fun σ' H' g=>k σ' H' (g.thaw h0 h)
  | retL d ds=>exact fun v H' s rp q=>k v H' (h.trans s) rp q
def TgD(cv:Cfg)(g:TG)(tf:FT):Prop:=∀ (H₀ F:Hp) (ρ ρ1:Rho) (σ:L2.St) (H:Hp) (d:PyData) (x:V) (Q:L2.St→Hp→Prop),SR cv H₀ F ρ σ H→Rep (fun _ _=>False) H d x→tf d ρ=some ρ1→(∀ σ1,SR cv H₀ F ρ1 σ1 H→Q σ1 H)→g x σ H Q
theorem fj{J:It}{ds:List PyData}{D:Ends}{r:RS}{g:TG}(s:SR cv H₀ F ρ σ H)(hy:cz F J ds)(ht:TgD cv g tf)(e:q8 tf b ds ρ=some r)(k:KS cv XO H₀ F D r):
    ∃ W:Nat→Nat→L2.St→Hp→Prop,(∃ m,W 0 m σ H)∧∀ i m σ H,W i m σ H→
      (J.stop i H∧D.nx σ H)∨(J.go i H∧∃ N:L2.St→Hp→Prop,(∀ σ' H',N σ' H'→∃ m',m' < m∧W (i+1) m' σ' H')∧∀ x H',J.yld i H x H'→g x σ H' fun σ2 H2=>tS cv XO b {D with nx:=N,ct:=N,bk:=D.nx} σ2 H2):=by
  refine ⟨fun i m σ H=>∃ ρ',SR cv H₀ F ρ' σ H∧q8 tf b (ds.drop i) ρ'=some r∧i≤ds.length∧m=ds.length - i,⟨ds.length,ρ,s,e,Nat.zero_le _,rfl⟩,?_⟩
  rintro i m σ1 H1 ⟨ρ1,s1,e1,hi,rfl⟩
  obtain ⟨y1,y2⟩:=hy H1 s1.s1 i
  cases hd:ds[i]? with
  | none=>
    have hl:ds.length≤i:=List.getElem?_eq_none_iff.mp hd
    have hil:i=ds.length:=by omega
    rw [List.drop_eq_nil_of_le hl] at e1
    cases e1
    exact .inl ⟨y2 hil,k σ1 H1 s1⟩
  | some d=>
    obtain ⟨hlt,hde⟩:=List.getElem?_eq_some_iff.mp hd
    rw [List.drop_eq_getElem_cons hlt,hde] at e1
    obtain ⟨hgo,hyl⟩:=y1 d hd
    refine .inr ⟨hgo,fun σ' H'=>∃ ρ',SR cv H₀ F ρ' σ' H'∧q8 tf b (ds.drop (i+1)) ρ'=some r,fun σ' H' ⟨ρ',s',e'⟩=>⟨ds.length - (i+1),by omega,ρ',s',e',by omega,rfl⟩,fun x H2 y=>?_⟩
    obtain ⟨sm,rx⟩:=hyl x H2 y
    unfold q8 at e1
    cases htf:tf d ρ1 with
    | none=>rw [htf] at e1;cases e1
    | some ρ2=>
      rw [htf] at e1
      refine ht H₀ F ρ1 ρ2 σ1 H2 d x _ (s1.same sm) rx htf fun σ2 s2=>?_
      dsimp only at e1
      cases hb:b ρ2 with
      | none=>rw [hb] at e1;cases e1
      | some y=>
        rw [hb] at e1
        refine ⟨H₀,F,ρ2,y,s2,hb,?_⟩
        cases y with
        | next ρ'=>exact fun σ' H' g'=>⟨ρ',g',e1⟩
        | cont ρ'=>exact fun σ' H' g'=>⟨ρ',g',e1⟩
        | brk ρ'=>cases e1;exact k
        | ret d=>cases e1;exact k
        | retL d ds=>cases e1;exact k
        | exc c ρ'=>cases e1;exact k
structure Tg(X:Cx)(cv:Cfg)(tg:Expr)(tf:FT):Prop where
  ex:∃ g,PG X tg g∧TgD cv g tf
theorem gk(i:Nat){x:Str}(hN:X.N.Nodup)(hi:X.N[i]? =some x:=by rfl)(hx:Loc X.env.scope x:=by first | exact Or.inl rfl | exact Or.inr rfl)
    (hf:X.fn x=true∨X.env.scope.names.lookup x=some .local:=by first | exact .inl rfl | exact .inr rfl | assumption) (hin:Nat.blt i cv.n=true:=by rfl):Tg X cv (.Name x pos) (zw i):=
  ⟨rh i,ef hN hi hx hf,fun H₀ F ρ ρ1 σ H d x Q s r e q=>by cases e;exact q _ (s.putLoc hin r)⟩
theorem AI(hp:PassesOwn (model X.prog X.w) X.A X.env X.xe)(hc:X.calm=true)(hi:PI X tg iter (tI ⟨cv.cv,XO⟩ fi))(ht:Tg X cv tg tf)(hb:PSs X body (tS cv XO b))(hs:∀ x,foldedSetIterable iter X.env x=pure x:=by intro _;rfl):
    PS X (.For tg iter body [] pos) (tS cv XO (kz fi tf b)):=by
  obtain ⟨gt,hg,hd⟩:=ht.ex
  refine PS.imp (Fy hp hc hi hg hb hs) fun D σ H ⟨H₀,F,ρ,r,g,e,k⟩=>?_
  unfold kz at e
  cases hf:fi ρ with
  | none=>rw [hf] at e;cases e
  | some x=>
    rw [hf] at e
    refine ⟨H₀,H,ρ,x,g.g,hf,fun l ds J H1 ex s1 it=>?_,fun c H' ex s=>?_⟩
    · subst ex
      dsimp only at e
      split at e
      · rename_i h2
        obtain ⟨O,o⟩:=g.ex
        have o1:SO cv H₀ F ρ σ H1 O:=⟨o.fr,fun a i e=>let ⟨vs,q⟩:=o.ls a i e;⟨vs,s1 _ _ q⟩,fun i t e=>(o.sl i t e).same s1⟩
        obtain ⟨gf,hF⟩:=(g.same s1).freeze o1
        refine fj gf (it (Bs O H1) (fun a xs hx=>?_) fun a vs rl=>?_) hd e (k.thaw g.s0 hF)
        · exact Dj o1.ls hx
        · have no:∀ z,PL H₀ H l z a→O a=none:=fun z p=>by
            have hn:H a=none:=by
              match l,h2,p with
              | l+2,_,p=>exact p.2
            cases q:O a with
            | none=>rfl
            | some i=>obtain ⟨vs,hv⟩:=o.ls a i q;rw [hn] at hv;cases vs<;>cases hv
          rcases rl with ⟨p,hx⟩ | ⟨p,u,hx⟩
          · exact .inl (by rw [j9 (no _ p)];exact hx)
          · exact .inr ⟨u,by rw [j9 (no _ p)];exact hx⟩
      · cases e
    · subst ex
      cases e
      exact k σ H' (g.same s)
theorem ox(i:Nat){x:Str}{xp:Pos}(hp:PassesOwn (model X.prog X.w) X.A X.env X.xe)(hc:X.calm=true)(ht:Tg X cv tg tf)(hb:PSs X body (tS cv XO b))(hN:X.N[i]? =some x:=by rfl)
    (hv:Vis X.env.scope x:=by first | exact Or.inl rfl | exact Or.inr (Or.inl rfl) | exact Or.inr (Or.inr rfl)) (hd:(x == ("__debug__":Str))=false:=by decide) (hcd:(x == ("__classdict__":Str))=false:=by decide)
    (hs:∀ y,foldedSetIterable (.Name x xp) X.env y=pure y:=by intro _;rfl):PS X (.For tg (.Name x xp) body [] pos) (tS cv XO (yw i tf b)):=by
  obtain ⟨gt,hg,hd'⟩:=ht.ex
  refine PS.imp (Fy hp hc (PI.or (GM (w5 (i:=i) hN hv hd hcd)) (Fj (w5 (i:=i) hN hv hd hcd))) hg hb hs) fun D σ H ⟨H₀,F,ρ,r,g,e,k⟩=>?_
  obtain ⟨O,o⟩:=g.ex
  obtain ⟨gf,hF⟩:=g.freeze o
  have hT:∀ a xs,Rd H a (.tup xs)→Rd (Bs O H) a (.tup xs):=fun a xs hx=>Dj o.ls hx
  unfold yw at e
  split at e
  · rename_i xs hρ
    obtain ⟨p,vs,hσ,hO,hp',rs⟩:=o.sl i _ hρ
    have hρl:i < ρ.length:=(List.getElem?_eq_some_iff.mp hρ).1
    have o2:SO cv H₀ F (ρ.set i (some (.loc (.list xs)))) σ H (fun a=>if a=p then none else O a):=by
      refine ⟨fun a j q=>?_,fun a j q=>?_,fun j t q=>?_⟩
      · by_cases z:a=p
        · rw [if_pos z] at q;cases q
        · rw [if_neg z] at q;exact o.fr a j q
      · by_cases z:a=p
        · rw [if_pos z] at q;cases q
        · rw [if_neg z] at q;exact o.ls a j q
      · by_cases hij:i=j
        · subst hij
          rw [qz _ _ _ _ hρl,if_pos rfl] at q
          cases q
          exact ⟨.ref p,hσ,p,vs,rfl,.inl ⟨⟨rfl,if_pos rfl,g.s0.free (o.fr p i hO)⟩,hp'⟩,rs.imp fun _ _ z=>z.elim⟩
        · rw [qz _ _ _ _ hρl,if_neg hij] at q
          have h:=o.sl j t q
          have hn:∀ a,O a=none→(if a=p then none else O a)=none:=fun a q=>by
            by_cases z:a=p
            · rw [if_pos z]
            · rw [if_neg z];exact q
          cases t with
          | par d=>obtain ⟨w,e1,rr⟩:=h;exact ⟨w,e1,rr.imp fun _ a z=>hn a z⟩
          | loc d=>obtain ⟨w,e1,rr⟩:=h;exact ⟨w,e1,rr.imp fun _ a z=>⟨z.1,hn a z.2.1,z.2.2⟩⟩
          | own ds=>
            obtain ⟨q1,ws,e1,hq,hqp,rs'⟩:=h
            have hne:q1≠p:=fun z=>by rw [z,hO] at hq;cases hq;exact hij rfl
            exact ⟨q1,ws,e1,(if_neg hne).trans hq,hqp,rs'⟩
          | own2 ds=>
            obtain ⟨q1,ws,e1,hq,hqp,rs'⟩:=h
            have hne:q1≠p:=fun z=>by rw [z,hO] at hq;cases hq;exact hij rfl
            exact ⟨q1,ws,e1,(if_neg hne).trans hq,hqp,rs'.imp fun _ a z=>⟨z.1,hn a z.2.1,z.2.2⟩⟩
          | lent ds=>
            obtain ⟨ws,e1,hq,hqp,rs'⟩:=h
            have hne:cv.lend≠p:=fun z=>by rw [z,hO] at hq;cases hq;exact hij rfl
            exact ⟨ws,e1,(if_neg hne).trans hq,hqp,rs'⟩
          | dct ks=>
            obtain ⟨q1,e1,hq,hd⟩:=h
            have hne:q1≠p:=fun z=>by rw [z,hO] at hq;cases hq;exact hij rfl
            exact ⟨q1,e1,(if_neg hne).trans hq,hd⟩
          | ex c=>exact h
    have g2:SR cv H₀ F (ρ.set i (some (.loc (.list xs)))) σ H:=⟨g.s0,g.s1,by simp [g.len],g.ln,_,o2⟩
    obtain ⟨gf2,hF2⟩:=g2.freeze o2
    refine .inl ⟨.ref p,hσ,p,rfl,⟨vs,SqL.of hp'⟩,fj gf2 (bc (vs:=vs) (.inl ?_) ?_) hd' e (k.thaw g.s0 hF2)⟩
    · rw [j9 (if_pos rfl)];exact hp'
    · refine Reps.mono (fun a ys hx=>?_) (fun a ws rl=>by rcases rl with ⟨q,_⟩ | ⟨q,_⟩<;>exact q.elim) xs vs rs
      exact Dj o2.ls hx
  · rename_i xs hρ
    split at e
    · rename_i hlf
      obtain ⟨v,hσ,p,vs,rfl,rl,rs⟩:=o.sl i _ hρ
      refine .inl ⟨.ref p,hσ,p,rfl,⟨vs,.inl rl.rd⟩,fj gf (bc ?_ (Reps.free hT xs vs hlf rs)) hd' e (k.thaw g.s0 hF)⟩
      rcases rl with ⟨q,hx⟩ | ⟨q,u,hx⟩
      · exact .inl (by rw [j9 q];exact hx)
      · exact .inr ⟨u,by rw [j9 q];exact hx⟩
    · cases e
  · rename_i xs hρ
    split at e
    · rename_i hlf
      obtain ⟨v,hσ,p,vs,rfl,rl,rs⟩:=o.sl i _ hρ
      refine .inl ⟨.ref p,hσ,p,rfl,⟨vs,.inl rl.rd⟩,fj gf (bc ?_ (Reps.free hT xs vs hlf rs)) hd' e (k.thaw g.s0 hF)⟩
      rcases rl with ⟨q,hx⟩ | ⟨q,u,hx⟩
      · exact .inl (by rw [j9 q.2.1];exact hx)
      · exact .inr ⟨u,by rw [j9 q.2.1];exact hx⟩
    · cases e
  · rename_i xs hρ
    split at e
    · rename_i hlf
      obtain ⟨v,hσ,p,vs,rfl,hq,rs⟩:=o.sl i _ hρ
      exact .inr ⟨.ref p,hσ,p,rfl,⟨vs,.inl hq⟩,fj gf (lm (hT p vs hq) (Reps.free hT xs vs hlf rs)) hd' e (k.thaw g.s0 hF)⟩
    · cases e
  · rename_i xs hρ
    split at e
    · rename_i hlf
      obtain ⟨v,hσ,p,vs,rfl,hq,rs⟩:=o.sl i _ hρ
      exact .inr ⟨.ref p,hσ,p,rfl,⟨vs,.inl hq⟩,fj gf (lm (hT p vs hq) (Reps.free hT xs vs hlf rs)) hd' e (k.thaw g.s0 hF)⟩
    · cases e
  · cases e
end
def spD(cv:Nat→Value)(n:Nat)(g:FC):Sp:=fun vs H Q E=>∃ ds r,vs.length=n∧Reps (fun _ _=>True) H ds vs∧g ds=some r∧
  (∀ d v H',r= .ok d→Same H H'→Rep (fun z a=>z=false∧H a=none) H' d v→Q v H')∧∀ c H',r= .exc c→Same H H'→E (cv c) none H'
def DX(CX:CXT)(X:Cx)(XO:XOT):Prop:=∀ pins σ H s e s',Inv X pins σ H s→CX X.stack H s (fun cls _ H'=>∃ c,cls=XO.cv c∧XO.f c σ H') e s'→X.xe e s'
structure FnF(CX:CXT)(P:Program)(w:World)(K:PySem.W.Frag)(mg:Str→Option Value)(base:Heap)(cv:Nat→Value)(n:Nat)(x:Str)(ar:Nat)(g:FC):Prop where
  ex:∃ f fd ps,FnOk P w K mg base CX n f fd ps (spD cv ar g)∧mg x=some (.ref f)∧PySem.W.keepIn K (.ref f)=true∧Binds K fd ps []
section
variable{X:Cx}{XO:XOT}{CX:CXT}{cv:Nat→Value}{a b c e:Expr}{es:List Expr}{fa fb fc f:FE}{fs:List FE}{pos p:Pos}{n ar:Nat}{x:Str}{g:FC}
theorem z0(F:FnF CX X.prog X.w X.K X.mg X.base XO.cv n x ar g)(hr:Room n X.A)(L:DX CX X XO)(ha:PA X (e::es) (tAs XO fs))(hn:Nat.beq ar fs.length=true:=by rfl)(hg:Gl X x:=by rfl)
    (hdb:(x == ("__debug__":Str))=false:=by decide) (he:starEach (e::es) X.env=(false,eval e X.env)::starEach es X.env:=by exact q0 rfl) (hpl:(backTo pos (starEach es X.env)).any (·.1)=false:=by exact w6 rfl):
    PE X (.Call (.Name x p) (e::es) [] pos) (tF XO (zd g fs)):=by
  obtain ⟨f,fd,ps,F,hm,hk,hb⟩:=F.ex
  intro pins s σ H Q I ⟨H₀,Hs,ρ,r,gg,ee,kk⟩
  refine wpAny_Call_Name_kw (Cw I hg hm ?_ hdb)
  have hA:tAs XO fs σ H (fun vs H1=>spD XO.cv ar g vs H1 Q (fun cls _ H'=>∃ c,cls=XO.cv c∧XO.f c σ H')):=by
    refine AA gg ee kk fun l ds vs H1 s1 g1 r1 hl e1 k1=>?_
    have hlen:vs.length=ar:=by rw [r1.length,hl,Nat.eq_of_beq_eq_true hn]
    cases hg:g ds with
    | none=>rw [hg] at e1;cases e1
    | some rc=>
      rw [hg] at e1
      refine ⟨ds,rc,hlen,r1.imp fun _ _ _=>trivial,hg,fun d v H' er s rp=>?_,fun c H' er s=>?_⟩
      · subst er
        exact k1.give (l:=2) e1 s (rp.imp fun z a q=>⟨q.1,g1.s1.free q.2⟩)
      · subst er
        exact ⟨c,rfl,k1.2 c H' (by cases e1;rfl) s⟩
  refine PySem.W.callWith_K (h₀:=X.base) I.ok.mod.kin hk (thn (ha pos pins s σ H _ I hA) fun us s1 ⟨vs,H1,I1,r,q⟩=>⟨I1.kIn,?_⟩) he hpl
  have hl:(us++[]).length=ps.length:=by rw [List.append_nil,← r.length];exact F.len _ _ _ _ q
  have hB:=hb s1 us I1.kIn hl
  rw [List.append_nil] at hB
  refine wpAny_call (codeAny_mono (F.run X.A X.stack s1 H1 ⟨us,[]⟩ us vs Q _ hr I1.env0 hB r q) fun r s' hq=>?_)
  cases r with
  | error e=>exact L pins σ H1 s1 e s' I1 hq
  | ok fl=>
    cases fl with
    | ret u=>exact I1.after hq
    | next=>exact False.elim hq
    | brk=>exact False.elim hq
    | cont=>exact False.elim hq
def GX(r:List V→Hp→VK→Prop)(op:PyData→Option PyData):Prop:=
  ∀ (H₀ Hs H:Hp) (l:Nat) (x d:PyData) (v:V) (Q:VK),Same H₀ Hs→Same Hs H→op x=some d→Rep (PL H₀ Hs l) H x v→(∀ z H',Same H H'→Rep (PL H₀ Hs 2) H' d z→Q z H')→r [v] H Q
theorem B2{r:List V→Hp→VK→Prop}{op:PyData→Option PyData}(ho:GX r op){σ:L2.St}{H:Hp}{Q:VK}(h:tF XO (e1 op true fa) σ H Q):tCB r (Gu (tF XO fa) tNil) σ H Q:=by
  obtain ⟨H₀,Hs,ρ,rr,g,e,kk⟩:=h
  refine kn g e kk fun l x v H1 s1 g1 r1 e1 k1=>?_
  cases hd:op x with
  | none=>rw [hd] at e1;cases e1
  | some d=>
    rw [hd] at e1
    exact ho H₀ Hs H1 l x d v Q g1.s0 g1.s1 hd r1 fun z H' s rp=>k1.give e1 s rp
theorem C3{id:String}{r:List V→Hp→VK→Prop}{op:PyData→Option PyData}(hc:CallR X (.builtin id) r)(ho:GX r op)(hm:X.mg x=none)(hv:bootBuiltins x=some (.builtin id))(ha:PE X a (tF XO fa))(hg:Gl X x)(hn:x≠"__name__")(hdb:(x == ("__debug__":Str))=false)
    (he:starEach [a] X.env=(false,eval a X.env)::starEach [] X.env) (hpl:(backTo pos (starEach [] X.env)).any (·.1)=false):PE X (.Call (.Name x p) [a] [] pos) (tF XO (e1 op true fa)):=
  PE.imp (DU hc hg hm hv (wx ha gy he) hn hdb he hpl) fun _ _ _ h=>B2 ho h
theorem tz{T:String}{r:List V→Hp→VK→Prop}{op:PyData→Option PyData}(hc:CallR X (.type T) r)(ho:GX r op)(hm:X.mg x=none)(hv:bootBuiltins x=some (.type T))(ha:PE X a (tF XO fa))(hg:Gl X x)(hn:x≠"__name__")(hdb:(x == ("__debug__":Str))=false)
    (he:starEach [a] X.env=(false,eval a X.env)::starEach [] X.env) (hpl:(backTo pos (starEach [] X.env)).any (·.1)=false):PE X (.Call (.Name x p) [a] [] pos) (tF XO (e1 op true fa)):=
  PE.imp (B4 hc hg hm hv (wx ha gy he) hn hdb he hpl) fun _ _ _ h=>B2 ho h
theorem av(C:BC X)(ha:PE X a (tF XO fa))(hg:Gl X "len":=by rfl)(he:starEach [a] X.env=(false,eval a X.env)::starEach [] X.env:=by exact q0 rfl)(hpl:(backTo pos (starEach [] X.env)).any (·.1)=false:=by exact w6 rfl):PE X (.Call (.Name "len" p) [a] [] pos) (tF XO (wm fa)):=
  C3 (call_len_seq.or CT) (fun H₀ Hs H l x d v Q s0 s1 e rx q=>by
    unfold ce at e
    split at e
    · cases e
      obtain ⟨p,vs,rfl,hp,rs⟩:=rx
      exact .inl ⟨p,vs,rfl,.inr (.inl hp),q _ H (Same.refl H) (by rw [rs.length];rfl)⟩
    · cases e
      obtain ⟨p,vs,rfl,hp,rs⟩:=rx
      exact .inl ⟨p,vs,rfl,.inl (.inl hp.rd),q _ H (Same.refl H) (by rw [rs.length];rfl)⟩
    · split at e
      · rename_i z hz
        cases e
        exact .inr ⟨z,by rw [show v=V.str z from rx],ut hz,q _ H (Same.refl H) rfl⟩
      · cases e
    · cases e) C.mlen PySem.boot_len ha hg (by decide) (by decide) he hpl
theorem NF(C:BC X)(ha:PE X a (tF XO fa))(hg:Gl X "int":=by rfl)(he:starEach [a] X.env=(false,eval a X.env)::starEach [] X.env:=by exact q0 rfl)(hpl:(backTo pos (starEach [] X.env)).any (·.1)=false:=by exact w6 rfl):PE X (.Call (.Name "int" p) [a] [] pos) (tF XO (Jo fa)):=
  tz HF (fun H₀ Hs H l x d v Q s0 s1 e rx q=>by
    unfold KB at e
    split at e
    · rename_i i
      cases e
      exact .inl ⟨i,by rw [show v=V.int i from rx],q _ H (Same.refl H) rfl⟩
    · rename_i k
      cases e
      exact .inr ⟨k,by rw [show v=V.bl k from rx],q _ H (Same.refl H) rfl⟩
    · cases e) C.mint PyProof.Rows.boot_int ha hg (by decide) (by decide) he hpl
theorem tm(C:BC X)(ha:PE X a (tF XO fa))(hg:Gl X "tuple":=by rfl)(he:starEach [a] X.env=(false,eval a X.env)::starEach [] X.env:=by exact q0 rfl)(hpl:(backTo pos (starEach [] X.env)).any (·.1)=false:=by exact w6 rfl):PE X (.Call (.Name "tuple" p) [a] [] pos) (tF XO (xc fa)):=
  tz iq (fun H₀ Hs H l x d v Q s0 s1 e rx q=>by
    unfold dn at e
    split at e
    · split at e
      · rename_i hlf
        cases e
        obtain ⟨p,vs,rfl,hp,rs⟩:=rx
        exact ⟨p,vs,rfl,.inl ⟨.inl hp.rd,fun l hl=>q _ _ (qb hl _) ⟨l,vs,rfl,(.inl z9),(rs.nl hlf).same (qb hl _)⟩⟩⟩
      · cases e
    · split at e
      · rename_i hlf
        cases e
        obtain ⟨p,vs,rfl,hp,rs⟩:=rx
        exact ⟨p,vs,rfl,.inr ⟨.inl hp,q _ H (Same.refl H) ⟨p,vs,rfl,hp,rs.nl hlf⟩⟩⟩
      · cases e
    · cases e) C.mtuple PyProof.Rows.boot_tuple ha hg (by decide) (by decide) he hpl
theorem CO(C:BC X)(ha:PE X a (tF XO fa))(hg:Gl X "list":=by rfl)(he:starEach [a] X.env=(false,eval a X.env)::starEach [] X.env:=by exact q0 rfl)(hpl:(backTo pos (starEach [] X.env)).any (·.1)=false:=by exact w6 rfl):PE X (.Call (.Name "list" p) [a] [] pos) (tF XO (ro fa)):=
  tz CD (fun H₀ Hs H l x d v Q s0 s1 e rx q=>by
    unfold Hh at e
    split at e
    · split at e
      · rename_i hlf
        cases e
        obtain ⟨p,vs,rfl,hp,rs⟩:=rx
        exact ⟨p,vs,rfl,.inl (.inl hp.rd),fun l hl=>q _ _ (qb hl _) ⟨l,vs,rfl,.inl ⟨⟨rfl,s1.free hl⟩,z9⟩,(rs.nl hlf).same (qb hl _)⟩⟩
      · cases e
    · split at e
      · rename_i hlf
        cases e
        obtain ⟨p,vs,rfl,hp,rs⟩:=rx
        exact ⟨p,vs,rfl,.inr (.inl hp),fun l hl=>q _ _ (qb hl _) ⟨l,vs,rfl,.inl ⟨⟨rfl,s1.free hl⟩,z9⟩,(rs.nl hlf).same (qb hl _)⟩⟩
      · cases e
    · cases e) C.mlist PyProof.Rows.boot_list ha hg (by decide) (by decide) he hpl
def i6:Ty→String
  | .int=>"int"
  | .bool=>"bool"
  | .str=>"str"
  | .tuple=>"tuple"
  | .list=>"list"
theorem IH:CallR X (.builtin "isinstance") (fun xs H Q=>∃ x T t b,xs=[x,.ty T]∧TyOf X.K H x t∧PySem.W.kitOne X.K t (.type T)=some b∧Q (.bl b) H):=by
  intro pins s σ H xs us Q I r h
  obtain ⟨x,T,t,b,rfl,ht,hk,q⟩:=h
  obtain ⟨u,w',rfl,rx,ry⟩:=OQ r
  cases ry
  exact Hv I rx ht hk fun tk=>⟨.bl b,H,I.tok _,rfl,q⟩
theorem ak{K:PySem.W.Frag}:∀ (t:Ty) (T:String),(T= "NoneType"∨T= "bool"∨T= "int"∨T= "str"∨T= "list"∨T= "tuple")→
    PySem.W.kitOne K (.type T) (.type (i6 t))=some (T == i6 t || (T == "bool" && i6 t == "int")):=by
  intro t T h
  rcases h with rfl | rfl | rfl | rfl | rfl | rfl<;>cases t<;>kernel_rfl
end
section
variable{X:Cx}{XO:XOT}{a b c e:Expr}{fa fb fc f:FE}{pos p p2:Pos}
theorem Pf{K:PySem.W.Frag}{P:PP}{H:Hp}(t:Ty):∀ {d:PyData} {v:V},(∀ kvs,d≠.dict kvs)→Rep P H d v→∃ T,TyOf K H v (.type T)∧PySem.W.kitOne K (.type T) (.type (i6 t))=some (CQ t d)
  | .none,_,_,h=>by cases (show _=_ from h);exact ⟨_,.non,by rw [ak t _ (.inl rfl)];cases t<;>rfl⟩
  | .bool _,_,_,h=>by cases (show _=_ from h);exact ⟨_,.bl _,by rw [ak t _ (.inr (.inl rfl))];cases t<;>rfl⟩
  | .int _,_,_,h=>by cases (show _=_ from h);exact ⟨_,.int _,by rw [ak t _ (.inr (.inr (.inl rfl)))];cases t<;>rfl⟩
  | .str _,_,_,h=>by cases (show _=_ from h);exact ⟨_,.str _,by rw [ak t _ (.inr (.inr (.inr (.inl rfl))))];cases t<;>rfl⟩
  | .tuple _,_,_,⟨_,_,e,h,_⟩=>by subst e;exact ⟨_,.tup h,by rw [ak t _ (.inr (.inr (.inr (.inr (.inr rfl)))))];cases t<;>rfl⟩
  | .list _,_,_,⟨_,_,e,h,_⟩=>by
    subst e
    rcases h with ⟨_,h⟩ | ⟨_,_,h⟩
    · exact ⟨_,.lst h,by rw [ak t _ (.inr (.inr (.inr (.inr (.inl rfl)))))];cases t<;>rfl⟩
    · exact ⟨_,.frz h,by rw [ak t _ (.inr (.inr (.inr (.inr (.inl rfl)))))];cases t<;>rfl⟩
  | .dict _,_,n,_=>absurd rfl (n _)
theorem M7(t:Ty){x:Str}(C:BC X)(ha:PE X a (tF XO fa))(hm:X.mg x=none)(hv:bootBuiltins x=some (.type (i6 t)))(hgx:Gl X x)(hnx:x≠"__name__")(hdx:(x == ("__debug__":Str))=false)(hg:Gl X "isinstance")
    (hs1:starEach [a,.Name x p2] X.env=(false,eval a X.env)::starEach [.Name x p2] X.env) (hpl:(backTo pos (starEach [.Name x p2] X.env)).any (·.1)=false):PE X (.Call (.Name "isinstance" p) [a,.Name x p2] [] pos) (tF XO (eIs t fa)):=
  PE.imp (DU IH hg C.misi PyProof.Rows.boot_isinstance (wx ha (wx (Mm (v:=.ty (i6 t)) hgx hm hv rfl hnx hdx) gy rfl) hs1) (by decide) (by decide) hs1 hpl) fun σ H Q ⟨H₀,Hs,ρ,rr,g,e,kk⟩=>by
    refine kn g e kk fun l x v H1 s1 g1 r1 e1 k1=>?_
    have hn:∀ kvs,x≠.dict kvs:=fun kvs z=>by subst z;cases e1
    obtain ⟨T,hT,hk⟩:=Pf (K:=X.K) t hn r1
    have hd:dIs t x=some (.bool (CQ t x)):=by cases x<;>first | rfl | exact absurd rfl (hn _)
    rw [hd] at e1
    exact ⟨v,i6 t,_,_,rfl,hT,hk,k1.give e1 (Same.refl _) rfl⟩
theorem HM(C:BC X)(ha:PE X a (tF XO fa))(hgx:Gl X "tuple":=by rfl)(hg:Gl X "isinstance":=by rfl)(hs1:starEach [a,.Name "tuple" p2] X.env=(false,eval a X.env)::starEach [.Name "tuple" p2] X.env:=by exact q0 rfl)(hpl:(backTo pos (starEach [.Name "tuple" p2] X.env)).any (·.1)=false:=by exact w6 rfl):
    PE X (.Call (.Name "isinstance" p) [a,.Name "tuple" p2] [] pos) (tF XO (eIs .tuple fa)):=M7 .tuple C ha C.mtuple PyProof.Rows.boot_tuple hgx (by decide) (by decide) hg hs1 hpl
theorem EM(C:BC X)(ha:PE X a (tF XO fa))(hgx:Gl X "list":=by rfl)(hg:Gl X "isinstance":=by rfl)(hs1:starEach [a,.Name "list" p2] X.env=(false,eval a X.env)::starEach [.Name "list" p2] X.env:=by exact q0 rfl)(hpl:(backTo pos (starEach [.Name "list" p2] X.env)).any (·.1)=false:=by exact w6 rfl):
    PE X (.Call (.Name "isinstance" p) [a,.Name "list" p2] [] pos) (tF XO (eIs .list fa)):=M7 .list C ha C.mlist PyProof.Rows.boot_list hgx (by decide) (by decide) hg hs1 hpl
end
structure Flown(fs:List Addr)(ea:Addr)(oe:Obj)(h h':Heap):Prop where
  keep:∀ b o,h.get? b=some o→b≠ea→b∉fs→h'.get? b=some o
  frm:∀ b o,h.get? b=some o→b∈fs→∃ sl,h'.get? b=some {o with slots:=sl}
  ex:∃ oe' vs T oT ts,h'.get? ea=some oe'∧oe'.cls=oe.cls∧oe'.dict=oe.dict∧oe'.data= .fields vs∧vs[1]? =some (.ref T)∧h.get? T=none∧T≠ea∧h'.get? T=some oT∧oT.data= .fields ts∧ts[3]? =some .none
def FH(h:Heap)(ea:Addr)(vs:Array Value):Prop:=
  vs[1]? =some .none∨∃ T oT ts,vs[1]? =some (.ref T)∧T≠ea∧h.get? T=some oT∧oT.data= .fields ts∧ts[3]? =some .none
theorem AY(o:Obj)(f:Array Value→Array Value):(o.mapFields f).dict=o.dict:=by
  obtain ⟨_,_,dt,_⟩:=o
  cases dt<;>rfl
section
variable{M:Model}{A:Around}{E:Value→Shared→Prop}{s:Shared}{base:Heap}{env:Env}{outer:List Env}{L ea:Addr}{oe:Obj}{vs:Array Value}{Q:Unit→Shared→Prop}
theorem Ck{hd0:Value}{nx:Bool}(hfr:A.frames=some (env::outer))(ff:s.heap.FunFrames base (env::outer))(hf:env.frame=some L)(he:s.heap.get? ea=some oe)(hd:oe.data= .fields vs)(hsz:1 < vs.size)
    (k:∀ h',Flown (frs (env::outer)) ea oe s.heap h'→Q () {s with heap:=h'}):
    wpAny M A (do let fo ← frameOf env;let pl ← entryPlaceOf L nx;let t ← EntryCells.newEntry hd0 fo .none (rawInt L) .none pl;setField (.ref ea) 1 t) (fun _ s'=>wpAny M A (setFlight (.ref ea) none) Q E s') E s:=by
  have nfr:ea∉frs (env::outer):=fun hm=>by
    obtain ⟨_,o,ho,no⟩:=ff.mem hm
    rw [he] at ho
    cases ho
    exact no vs hd
  refine wpAny_bind (wpAny_frameOf_fun hfr ff hf fun g hg=>?_)
  refine wpAny_bind (wpAny_entryPlaceOf fun pl hpl=>?_)
  unfold EntryCells.newEntry newFields
  refine wpAny_bind (wpAny_newObj_type ?_ (hpl.sizeOk5 _ _ _ _ _))
  generalize hob:({cls:=.type "traceback",dict:=none,data:=.fields ([hd0,.ref L,.none,rawInt L,.none]++(if pl.isEmpty then List.replicate 6 Value.none else pl)).toArray}:Obj)=ob
  have obd:∃ ts,ob.data= .fields ts∧3 < ts.size:=⟨_,by rw [← hob],by simp only [List.size_toArray,List.length_append,List.length_cons,List.length_nil]<;>omega⟩
  obtain ⟨ts,obd,ob3⟩:=obd
  have eg:g.get? ea=some oe:=(hg.2.1 ea nfr).trans he
  have ltE:ea < g.objs.size:=Heap.lt_size eg
  have e2:(g.push ob).get? ea=some oe:=Heap.get?_push_of_some ob eg
  refine wpAny_setField e2 hd hsz ?_
  have d3:=Obj.data_mapFields hd (·.setIfInBounds 1 (Value.ref g.objs.size))
  have e3:=Heap.get?_update_self (Obj.mapFields (·.setIfInBounds 1 (Value.ref g.objs.size))) e2 (Obj.isFreed_of_fields d3)
  have neT:g.objs.size≠ea:=Nat.ne_of_gt ltE
  have obf:ob.isFreed=false:=Obj.isFreed_of_fields obd
  have t3:((g.push ob).update ea (Obj.mapFields (·.setIfInBounds 1 (Value.ref g.objs.size)))).get? g.objs.size=some ob:=by
    rw [Heap.get?_update_other _ _ neT.symm]
    exact Heap.get?_push_size g obf
  unfold setFlight
  refine wpAny_bind (wpAny_field e3 d3 (x:=.ref g.objs.size) (by simp [hsz]) ?_)
  rw [if_pos (by simp)]
  refine wpAny_setField t3 obd ob3 (k _ ?_)
  have stay:∀ b o,b≠ea→g.get? b=some o→(((g.push ob).update ea (Obj.mapFields (·.setIfInBounds 1 (Value.ref g.objs.size)))).update g.objs.size (Obj.mapFields (·.setIfInBounds 3 ((none:Option Addr).elim Value.none fun f=>rawInt f)))).get? b=some o:=fun b o hb q=>by
    rw [Heap.get?_update_other _ _ (Nat.ne_of_gt (Heap.lt_size q)),Heap.get?_update_other _ _ hb.symm]
    exact Heap.get?_push_of_some _ q
  refine ⟨fun b o q hb hn=>stay b o hb ((hg.2.1 b hn).trans q),fun b o q hb=>?_,?_⟩
  · obtain ⟨sl,q'⟩:=hg.2.2 b o q
    exact ⟨sl,stay b _ (fun z=>nfr (z ▸ hb)) q'⟩
  · refine ⟨_,_,g.objs.size,_,_,(Heap.get?_update_other _ _ neT).trans e3,Obj.cls_mapFields _ _,AY _ _,d3,by simp [hsz],?_,neT,Heap.get?_update_self _ t3 (Obj.isFreed_of_fields (Obj.data_mapFields obd _)),Obj.data_mapFields obd _,by simp [ob3]⟩
    cases q:s.heap.get? g.objs.size with
    | none=>rfl
    | some o=>
      have:=Heap.lt_size q
      rw [hg.1] at this
      exact absurd this (Nat.lt_irrefl _)
theorem Dw{h:Heap}{T:Addr}{oT:Obj}{ts:Array Value}(hT:h.get? T=some oT)(hd:oT.data= .fields ts)(h3:ts[3]? =some .none):(h.update T (Obj.mapFields (·.setIfInBounds 3 Value.none))).get? T=some oT:=by
  have hz:ts.setIfInBounds 3 Value.none=ts:=by
    obtain ⟨hlt,hv⟩:=Array.getElem?_eq_some_iff.mp h3
    apply Array.ext
    · simp
    · intro i h1 h2
      by_cases q:3=i
      · subst q;simp [hv]
      · rw [Array.getElem_setIfInBounds,if_neg q]
  rw [Heap.get?_update_self _ hT (Obj.isFreed_of_fields (Obj.data_mapFields hd _))]
  obtain ⟨c,d,dt,sl⟩:=oT
  cases hd
  show some ({cls:=c,dict:=d,data:=.fields (ts.setIfInBounds 3 Value.none),slots:=sl}:Obj)=_
  rw [hz]
theorem fly(hfr:A.frames=some (env::outer))(ff:s.heap.FunFrames base (env::outer))(hf:env.frame=some L)(he:s.heap.get? ea=some oe)(hd:oe.data= .fields vs)(hh:FH s.heap ea vs)
    (k:∀ h',Flown (frs (env::outer)) ea oe s.heap h'→Q () {s with heap:=h'}):
    wpAny M A (noteFrame (.ref ea) env) (fun _ s'=>wpAny M A (setFlight (.ref ea) none) Q E s') E s:=by
  unfold noteFrame
  simp only [hf]
  rcases hh with h1 | ⟨T,oT,ts,h1,neT,hT,hdT,h3⟩
  · refine wpAny_bind (wpAny_field he hd h1 ?_)
    rw [if_neg (by decide)]
    exact Ck hfr ff hf he hd (Array.getElem?_eq_some_iff.mp h1).1 k
  · refine wpAny_bind (wpAny_field he hd h1 ?_)
    rw [if_pos (by simp)]
    refine wpAny_bind (wpAny_field hT hdT h3 ?_)
    rw [if_neg (by simp [rawInt])]
    refine wpAny_bind (wpAny_setField hT hdT (Array.getElem?_eq_some_iff.mp h3).1 ?_)
    have same:∀ b o,s.heap.get? b=some o→(s.heap.update T (Obj.mapFields (·.setIfInBounds 3 Value.none))).get? b=some o:=fun b o q=>by
      by_cases z:b=T
      · subst z
        rw [hT] at q
        cases q
        exact Dw hT hdT h3
      · rw [Heap.get?_update_other _ _ (Ne.symm z)];exact q
    have back:∀ b,(s.heap.update T (Obj.mapFields (·.setIfInBounds 3 Value.none))).get? b=none→s.heap.get? b=none:=fun b q=>by
      cases z:s.heap.get? b with
      | none=>rfl
      | some o=>rw [same b o z] at q;cases q
    refine Ck hfr (ff.of_keeps fun b o q _=>⟨o,same b o q,rfl⟩) hf (same _ _ he) hd (Array.getElem?_eq_some_iff.mp h1).1 fun h' fl=>k h' ⟨fun b o q=>fl.keep b o (same b o q),fun b o q=>fl.frm b o (same b o q),?_⟩
    obtain ⟨oe',ws,T',oT',us,x1,x2,x3,x4,x5,x6,x7⟩:=fl.ex
    exact ⟨oe',ws,T',oT',us,x1,x2,x3,x4,x5,back _ x6,x7⟩
end
def XT(h0:Heap)(H':Hp)(ea:Addr)(cls:Value)(h:Heap):Prop:=h0.get? ea=none∧H' ea=none∧
  ∃ oe vs T oT ts,h.get? ea=some oe∧oe.cls=cls∧oe.dict=none∧oe.data= .fields vs∧vs[1]? =some (.ref T)∧h0.get? T=none∧H' T=none∧T≠ea∧h.get? T=some oT∧oT.data= .fields ts∧ts[3]? =some .none
def CX1(P:Program)(w:World):CXT:=fun outer H s E e s'=>∃ ea cls H',e= .ref ea∧s'.os=s.os∧AllBare s'.gens∧Un (frs outer) [] H H' s.heap s'.heap∧HOk P w H' s'.heap∧XT s.heap H' ea cls s'.heap∧E cls none H'
theorem Un.narrow{fs fs' ex:List Addr}{H H':Hp}{h h':Heap}(u:Un fs ex H H' h h')(hx:∀ b o,h.get? b=some o→b∉ex)(hf:∀ b o,h.get? b=some o→b∈fs→b∈fs'):Un fs' [] H H' h h' where
  keep:=fun b o q n hb _=>u.keep b o q n (fun z=>hb (hf b o q z)) (hx b o q)
  slot:=fun b o q n _ _=>u.any q n (hx b o q)
  free:=fun b o q n _=>u.free b o q n (hx b o q)
  there:=fun b o q _=>u.there b o q (hx b o q)
  tups:=u.tups
  frzs:=u.frzs
  tbls:=u.tbls
theorem ab{h h' base base':Heap}:∀ {l:List Env},h.FunFrames base l→(∀ b∈frs l,∀ o,h.get? b=some o→∃ sl,h'.get? b=some {o with slots:=sl})→(∀ b∈frs l,base'.get? b=none)→h'.FunFrames base' l
  | [],_,_,_=>trivial
  | env::rest,⟨hk,⟨L,o,hf,hn,ho,hd⟩,hr⟩,ks,kb=>by
    have hm:L∈frs (env::rest):=by unfold frs;rw [List.filterMap_cons,hf];exact List.mem_cons_self ..
    have hs:∀ b,b∈frs rest→b∈frs (env::rest):=fun b hb=>by unfold frs at hb ⊢;rw [List.filterMap_cons,hf];exact List.mem_cons_of_mem _ hb
    obtain ⟨sl,e⟩:=ks L hm o ho
    exact ⟨hk,⟨L,_,hf,kb L hm,e,hd⟩,ab hr (fun b hb=>ks b (hs b hb)) fun b hb=>kb b (hs b hb)⟩
theorem MW{P:Program}{w:World}{H:Hp}{h h':Heap}(x:HOk P w H h)(k:∀ b o u,H b=some u→h.get? b=some o→h'.get? b=some o):HOk P w H h':=fun a o e=>
  (x a o e).stay (fun b u hb q=>by
    rcases hb with rfl | hb
    · exact k b u _ e q
    · exact k b u _ hb q) (fun _ q=>q) fun _ _ q=>q
theorem IJ{P:Program}{w:World}{H:Hp}{h:Heap}{a:Addr}:∀ {o:HO},ObjOk P w H h a o→∃ ob,h.get? a=some ob
  | .lst _,⟨_,_,_,_,e⟩=>⟨_,e⟩
  | .tup _,⟨_,_,_,o,e,_⟩=>⟨o,e⟩
  | .dK _,⟨_,_,_,_,o,_,_,e,_⟩=>⟨o,e⟩
  | .dT _ _,⟨_,_,_,_,o,_,e,_⟩=>⟨o,e⟩
  | .set _ _,⟨o,_,_,_,e,_⟩=>⟨o,e⟩
  | .ins _ _ _,⟨_,_,_,e,_⟩=>⟨_,e⟩
  | .own _,⟨o,e⟩=>⟨o,e⟩
  | .xd _,⟨_,⟨_,_,_,e,_⟩,_⟩=>⟨_,e⟩
  | .rng _ _,⟨_,_,_,e⟩=>⟨_,e⟩
  | .frz _ _,⟨e,_⟩=>⟨_,e⟩
  | .tbl _,e=>⟨_,e⟩
  | .met _ _,e=>⟨_,e⟩
  | .ext _,⟨_,⟨o,e⟩,_⟩=>⟨o,e⟩
theorem E5{P:Program}{w:World}{fs:List Addr}{ea:Addr}{oe:Obj}{H₀ H':Hp}{h₀ h h2:Heap}(U:Un fs [] H₀ H' h₀ h)(hok:HOk P w H' h)(hfree:∀ b∈fs,H' b=none)(e0:h₀.get? ea=none)(e1:H' ea=none)
    (fl:Flown fs ea oe h h2) (hd:oe.dict=none):Un fs [] H₀ H' h₀ h2∧HOk P w H' h2∧XT h₀ H' ea oe.cls h2:=by
  have U1:Un fs [ea] H' H' h h2:=by
    refine ⟨fun b o q _ hb hx=>fl.keep b o q (fun z=>hx (by simp [z])) hb,fun b o q _ hb _=>fl.frm b o q hb,fun _ _ _ z _=>z,fun b o q hx=>?_,fun _ _ z=>z,fun _ _ _ z=>z,fun _ ps z=>⟨#[],by rw [z];simp⟩⟩
    by_cases hb:b∈fs
    · obtain ⟨sl,z⟩:=fl.frm b o q hb
      exact ⟨_,z⟩
    · exact ⟨o,fl.keep b o q (fun z=>hx (by simp [z])) hb⟩
  refine ⟨KT.Un.narrow ((U.mono (fun _ z=>z) fun _ z=>(nomatch z)).trans U1) (fun b o q hm=>?_) fun _ _ _ z=>z,MW hok fun b o u hu q=>fl.keep b o q (fun z=>?_) fun hm=>?_,e0,e1,?_⟩
  · have z:b=ea:=by simpa using hm
    rw [z,e0] at q
    cases q
  · rw [z,e1] at hu;cases hu
  · rw [hfree b hm] at hu;cases hu
  · obtain ⟨oe',vs,T,oT,ts,x1,x2,x3,x4,x5,x6,x7,x8,x9,x10⟩:=fl.ex
    refine ⟨oe',vs,T,oT,ts,x1,x2,x3.trans hd,x4,x5,?_,?_,x7,x8,x9,x10⟩
    · cases q:h₀.get? T with
      | none=>rfl
      | some o=>obtain ⟨o',z⟩:=U.there T o q (by simp);rw [x6] at z;cases z
    · cases q:H' T with
      | none=>rfl
      | some u=>obtain ⟨o,z⟩:=IJ (hok T u q);rw [x6] at z;cases z
theorem XT.head{h0:Heap}{H':Hp}{ea:Addr}{cls:Value}{h:Heap}(x:XT h0 H' ea cls h):∃ oe vs,h.get? ea=some oe∧oe.cls=cls∧oe.dict=none∧oe.data= .fields vs∧FH h ea vs:=by
  obtain ⟨_,_,oe,vs,T,oT,ts,he,hc,hdd,hd,h1,_,_,ne,hT,hdT,h3⟩:=x
  exact ⟨oe,vs,he,hc,hdd,hd,.inr ⟨T,oT,ts,h1,ne,hT,hdT,h3⟩⟩
theorem PK{P:Program}{w:World}{A:Around}{env:Env}{outer:List Env}{L ea:Addr}{cls:Value}{base:Heap}{H₀ H H':Hp}{s₀ s s':Shared}{Q:Unit→Shared→Prop}{Ee:Value→Shared→Prop}
    (hfr:A.frames=some (env::outer)) (hf:env.frame=some L) (ff:s.heap.FunFrames base (env::outer)) (hfree:∀ b∈frs (env::outer),H b=none)
    (U:Un (frs (env::outer)) [] H₀ H s₀.heap s.heap) (un:Un (frs (env::outer)) [] H H' s.heap s'.heap) (hok:HOk P w H' s'.heap) (xt:XT s.heap H' ea cls s'.heap)
    (k:∀ h2,Un (frs (env::outer)) [] H₀ H' s₀.heap h2→HOk P w H' h2→XT s₀.heap H' ea cls h2→Q () {s' with heap:=h2}):
    wpAny (model P w) A (noteFrame (.ref ea) env) (fun _ s2=>wpAny (model P w) A (setFlight (.ref ea) none) Q Ee s2) Ee s':=by
  obtain ⟨oe,vs,he,hc,hdd,hd,hh⟩:=xt.head
  have slots:∀ b∈frs (env::outer),∀ o,s.heap.get? b=some o→∃ sl,s'.heap.get? b=some {o with slots:=sl}:=fun b hb o e=>un.slot b o e (hfree b hb) hb (by simp)
  have free':∀ b∈frs (env::outer),H' b=none:=fun b hb=>by
    obtain ⟨_,o,e,_⟩:=ff.mem hb
    exact un.free b o e (hfree b hb) (by simp)
  refine fly (base:=PySem.W.hideAll s'.heap (frs (env::outer))) hfr (ab ff slots fun b hb=>PySem.W.hideAll_none _ hb) hf he hd hh fun h2 fl=>?_
  have e0:s₀.heap.get? ea=none:=by
    cases q:s₀.heap.get? ea with
    | none=>rfl
    | some o=>obtain ⟨o',z⟩:=U.there ea o q (by simp);rw [xt.1] at z;cases z
  obtain ⟨y1,y2,y3⟩:=E5 (U.trans un) hok free' e0 xt.2.1 fl hdd
  exact k h2 y1 y2 (hc ▸ y3)
theorem Ex{env:Env}{outer:List Env}{L:Addr}{H H':Hp}{h h':Heap}(hf:env.frame=some L)(hL:h.objs.size≤L)(U:Un (frs (env::outer)) [] H H' h h'):Un (frs outer) [] H H' h h':=
  KT.Un.narrow U (fun _ _ _ z=>nomatch z) fun b o q hm=>by
    unfold frs at hm
    rw [List.filterMap_cons,hf] at hm
    rcases List.mem_cons.mp hm with z | z
    · subst z;exact absurd (Heap.lt_size q) (Nat.not_lt.mpr hL)
    · exact z
theorem DJ{env:Env}{outer:List Env}{L:Addr}{H H':Hp}{h h':Heap}(hf:env.frame=some L)(U:Un (frs outer) [] H H' h h'):Un (frs (env::outer)) [] H H' h h':=
  U.mono (fun b hb=>by unfold frs;rw [List.filterMap_cons,hf];exact List.mem_cons_of_mem _ hb) fun _ z=>z
theorem re{P:Program}{w:World}{A:Around}{env:Env}{e:Value}{Q:Unit→Shared→Prop}{Ee:Value→Shared→Prop}{s:Shared}(h:wpAny (model P w) A (noteFrame e env) (fun _ s2=>wpAny (model P w) A (setFlight e none) Q Ee s2) Ee s):
    wpAny (model P w) A (leaving env e) Q Ee s:=by
  unfold leaving
  exact wpAny_bind h
theorem Nb{P:Program}{w:World}{H:Hp}{h h':Heap}{ea:Addr}{cls:Value}{args:List Value}(hok:HOk P w H h)(hx:Heap.MadeExcOf h h' ea cls args):h.get? ea=none∧H ea=none∧∃ oe vs,h'.get? ea=some oe∧oe.cls=cls∧oe.dict=none∧oe.data= .fields vs∧FH h' ea vs:=by
  obtain ⟨t,he,_,_⟩:=hx.there
  refine ⟨hx.new,?_,_,_,he,rfl,rfl,rfl,.inl rfl⟩
  cases q:H ea with
  | none=>rfl
  | some u=>obtain ⟨o,e⟩:=IJ (hok ea u q);rw [hx.new] at e;cases e
section
variable{CX:CXT}{P:Program}{w:World}{K:PySem.W.Frag}{mg:Str→Option Value}{base:Heap}{N:List Str}{qual:Str}{scope:Scope}{f:Addr}{cd:Value}{A:Around}{outer:List Env}{s:Shared}{H:Hp}{E:XK}{cv:Nat→Value}
theorem Co{X:Cx}{pins:List (Addr×Obj)}{σ:L2.St}{H1:Hp}{s1:Shared}(I:Inv X pins σ H1 s1)(hs:X.stack=X.env::X.outer):X.env.frame=some X.env.locals:=by
  rcases I.ok.stk with z | z
  · rw [hs] at z
    have:=congrArg List.length z
    simp at this
  · exact z.2
theorem Ef:DX (CX1 P w) (i3 (CX1 P w) P w K mg base N qual scope f cd A outer s H E) ⟨cv,fun c _ H'=>E (cv c) none H'⟩:=by
  intro pins σ H1 s1 e s' I hcx
  obtain ⟨ea,cls,H',rfl,os,bare,un,hok,xt,c,rfl,hE⟩:=hcx
  have hf:=Co I rfl
  exact re (PK (H₀:=H) (s₀:=s) I.ok.frames hf I.stack I.stkFree (DJ hf I.base) un hok xt fun h2 y1 y2 y3=>⟨ea,cv c,H',rfl,os.trans I.os,bare,Ex hf I.ok.above y1,y2,y3,hE⟩)
def MA(cv:Nat→Value)(X:Cx)(XO:XOF):Prop:=∀ pins σ H s ea c h' args,Inv X pins σ H s→Heap.MadeExcOf s.heap h' ea (cv c) args→XO c σ H→X.xe (.ref ea) {s with heap:=h'}
theorem Fa:MA cv (i3 (CX1 P w) P w K mg base N qual scope f cd A outer s H E) (fun c _ H'=>E (cv c) none H'):=by
  intro pins σ H1 s1 ea c h' args I hx hE
  have hf:=Co I rfl
  obtain ⟨x1,x2,oe,vs,he,hc,hdd,hd,hh⟩:=Nb I.hok hx
  have U:Un _ [] H H1 s.heap s1.heap:=DJ hf I.base
  have e0:s.heap.get? ea=none:=by
    cases q:s.heap.get? ea with
    | none=>rfl
    | some o=>obtain ⟨o',z⟩:=U.there ea o q (by simp);rw [x1] at z;cases z
  refine re (fly (base:=PySem.W.hideAll h' (frs _)) I.ok.frames (ab I.stack (fun b hb o e=>⟨o.slots,hx.keeps b o e⟩) fun b hb=>PySem.W.hideAll_none _ hb) hf he hd hh fun h2 fl=>?_)
  obtain ⟨y1,y2,y3⟩:=E5 (U.trans (Un.kept hx.keeps)) (I.hok.kept hx.keeps) I.stkFree e0 x2 fl hdd
  exact ⟨ea,cv c,H1,rfl,I.os,I.bare,Ex hf I.ok.above y1,y2,hc ▸ y3,hE⟩
end
structure MF(mg:Str→Option Value):Prop where
  mlen:mg "len" =none
  mint:mg "int" =none
  mbool:mg "bool" =none
  mstr:mg "str" =none
  mtuple:mg "tuple" =none
  mlist:mg "list" =none
  misi:mg "isinstance" =none
  mrange:mg "range" =none
  menum:mg "enumerate" =none
  mzip:mg "zip" =none
  mrev:mg "reversed" =none
structure Body(P:Program)(w:World)(cv:Nat→Value)(k:Nat)(X:Cx)(XO:XOF):Prop where
  C:BC X
  hr:Room k X.A
  L:DX (CX1 P w) X ⟨cv,XO⟩
  R:MA cv X XO
  pw:PassesOwn (model X.prog X.w) X.A X.env X.xe
  hc:X.calm=true
  nd:X.N.Nodup
theorem JF{cv:Nat→Value}{N ps:List Str}{vs:List V}{ds:List PyData}{H:Hp}(hp:N.take ps.length=ps)(hl:vs.length=ps.length)(r:Reps (fun _ _=>True) H ds vs):
    SR ⟨cv,N.length,0⟩ H H (ds.map (fun d=>some (.par d))++List.replicate (N.length - ds.length) none) (L2.fz N vs) H:=by
  have hle:ps.length≤N.length:=by
    have:=congrArg List.length hp
    rw [List.length_take] at this
    omega
  have hd:=r.length
  refine ⟨Same.refl H,Same.refl H,?_,?_,fun _=>none,fun a i e=>(nomatch e),fun a i e=>(nomatch e),fun i t e=>?_⟩
  · simp;omega
  · unfold L2.fz;simp;omega
  · by_cases hi:i < ds.length
    · rw [List.getElem?_append_left (by simpa using hi)] at e
      rw [List.getElem?_map] at e
      cases hx:ds[i]? with
      | none=>rw [hx] at e;cases e
      | some d=>
        rw [hx] at e
        cases e
        obtain ⟨v,hv,rv⟩:=r.get hx
        refine ⟨v,?_,rv.imp fun _ _ _=>rfl⟩
        unfold L2.fz
        rw [List.getElem?_append_left (by simp;omega),List.getElem?_map,hv]
        rfl
    · rw [List.getElem?_append_right (by simp;omega)] at e
      rw [List.getElem?_replicate] at e
      split at e<;>cases e
theorem j7{P:Program}{w:World}{K:PySem.W.Frag}{mg:Str→Option Value}{base:Heap}{cv:Nat→Value}{x qual:Str}{st:Stmt}{f:Addr}{fd:FuncData}{N ps:List Str}{k:Nat}{b:FS}(M:MF mg)(F:Fun K x qual st f fd)(S:FnScope N ps (zq st))
    (hbody:∀ (cdv:Value) (A:Around) (outer:List Env) (s:Shared) (H:Hp) (E:XK),Body P w cv k (i3 (CX1 P w) P w K mg base N qual (zq st) f cdv A outer s H E) (fun c _ H'=>E (cv c) none H')→
      PSs (i3 (CX1 P w) P w K mg base N qual (zq st) f cdv A outer s H E) (vb st) (tS ⟨cv,N.length,0⟩ (fun c _ H'=>E (cv c) none H') b)):
    FnOk P w K mg base (CX1 P w) (k+1) f fd ps (spD cv ps.length (qt N.length b)):=by
  obtain ⟨oc,od,kV,doc,pm,an,cdv,ct,osl,rfl,lk,hcd⟩:=F.ex
  refine M8 lk hcd S (fun vs H Q E h=>?_) fun A outer s H vs Q E hr hsp=>?_
  · obtain ⟨ds,r,hl,_⟩:=h
    exact hl
  obtain ⟨ds,r,hl,rp,hg,hok,hex⟩:=hsp
  refine ⟨tS ⟨cv,N.length,0⟩ (fun c _ H'=>E (cv c) none H') b,hbody cdv A outer s H E ⟨⟨hr.units,M.mlen,M.mint,M.mbool,M.mstr,M.mtuple,M.mlist,M.misi,M.mrange,M.menum,M.mzip,M.mrev⟩,hr,Ef,Fa,PassesOwn.leaving,rfl,S.nd⟩,?_⟩
  have g:=JF (cv:=cv) S.pre hl rp
  unfold qt at hg
  cases hb:b (ds.map (fun d=>some (.par d))++List.replicate (N.length - ds.length) none) with
  | none=>rw [hb] at hg;cases hg
  | some y=>
    rw [hb] at hg
    refine ⟨H,H,_,y,g,hb,?_⟩
    cases y with
    | ret d=>cases hg;exact fun v H' s rp=>hok d v H' rfl s rp
    | next ρ'=>cases hg;exact fun σ' H' g'=>hok .none .non H' rfl g'.s1 rfl
    | exc c ρ'=>cases hg;exact fun σ' H' g'=>hex c H' rfl g'.s1
    | brk ρ'=>cases hg
    | cont ρ'=>cases hg
    | retL d ds=>cases hg
def Cx.tr(X:Cx)(xe:Value→Shared→Prop)(pn:List (Addr×Obj)):Cx:={X with xe:=xe,pn:=pn}
def Cx.hn(X:Cx)(e:Value):Cx:={X with A:=X.A.mark (some e),calm:=false,xe:=fun _ _=>False}
def ae(cells:List (Str×Addr)):List (Str×NameKind)→List (Str×Addr)→List (Str×Addr)
  | [],acc=>acc
  | (n,k)::r,acc=>ae cells r (if k == .free then (n,(cells.lookup n).getD 0)::acc else acc)
theorem GA{env:Env}:∀ (ns:List (Str×NameKind)) (acc:List (Str×Addr)),(∀ z∈ns,z.2= .free→∃ c,env.cells.lookup z.1=some c)→
    (forIn ns acc fun (x:Str×NameKind) (cs:List (Str×Addr))=>if x.2 == .free then (do let a ← cellOf env x.1;pure (ForInStep.yield ((x.1,a)::cs)):Sem _) else pure (ForInStep.yield cs))=(pure (ae env.cells ns acc):Sem _)
  | [],acc,_=>by simp [ae]
  | (n,k)::r,acc,h=>by
    rw [List.forIn_cons]
    have ih:=fun acc'=>GA (env:=env) r acc' fun z hz=>h z (List.mem_cons_of_mem _ hz)
    by_cases hk:k= .free
    · obtain ⟨c,hc⟩:=h (n,k) List.mem_cons_self hk
      have hc:env.cells.lookup n=some c:=hc
      have e:cellOf env n=pure c:=by unfold cellOf;rw [hc]
      simp only [hk,beq_self_eq_true,if_true,e]
      exact (ih ((n,c)::acc)).trans (by simp [ae,hc])
    · have hb:(k == NameKind.free)=false:=by simpa using hk
      simp only [hb,Bool.false_eq_true,if_false]
      exact (ih acc).trans (by simp [ae,hb])
theorem Fx{scope:Scope}{env:Env}(h:∀ z∈scope.names,z.2= .free→∃ c,env.cells.lookup z.1=some c):closureFor scope env=pure (ae env.cells scope.names []):=by
  have:=GA (env:=env) scope.names [] h
  unfold closureFor
  show (forIn scope.names [] _ >>= _)=_
  have e:(forIn scope.names ([]:List (Str×Addr)) fun (x:Str×NameKind) (cs:List (Str×Addr))=>(match x with
      | (name,kind)=>if (kind == NameKind.free)=true then (do let a ← cellOf env name;pure (ForInStep.yield ((name,a)::cs)):Sem _) else pure (ForInStep.yield cs)))=pure (ae env.cells scope.names []):=this
  first
    | (rw [e];rfl)
    | exact congrArg (fun m:Sem (List (Str×Addr))=>m >>= fun cs=>pure cs) e
theorem mm{cells:List (Str×Addr)}:∀ (ns:List (Str×NameKind)) (acc:List (Str×Addr)),(∀ z∈ns,z.2= .free→∃ c,cells.lookup z.1=some c)→∀ x c,(x,c)∈ae cells ns acc→(x,c)∈acc∨cells.lookup x=some c
  | [],acc,_,x,c,h=>.inl h
  | (n,k)::r,acc,hf,x,c,h=>by
    unfold ae at h
    rcases mm r _ (fun z hz=>hf z (List.mem_cons_of_mem _ hz)) x c h with z | z
    · by_cases hk:k= .free
      · obtain ⟨c',hc⟩:=hf (n,k) List.mem_cons_self hk
        have hc:cells.lookup n=some c':=hc
        rw [if_pos (by simp [hk]),hc] at z
        rcases List.mem_cons.mp z with e | e
        · cases e;exact .inr hc
        · exact .inl e
      · rw [if_neg (by simp [hk])] at z;exact .inl z
    · exact .inr z
theorem EE{cells:List (Str×Addr)}:∀ (ns:List (Str×NameKind)) (acc:List (Str×Addr)) x,(∃ c,acc.lookup x=some c)→∃ c,(ae cells ns acc).lookup x=some c
  | [],acc,x,h=>h
  | (n,k)::r,acc,x,h=>by
    unfold ae
    refine EE r _ x ?_
    by_cases hk:k= .free
    · rw [if_pos (by simp [hk])]
      obtain ⟨c,hc⟩:=h
      by_cases e:(x == n)=true
      · exact ⟨_,by rw [List.lookup_cons,e]⟩
      · have e:(x == n)=false:=by simpa using e
        exact ⟨c,by rw [List.lookup_cons,e];exact hc⟩
    · rw [if_neg (by simp [hk])];exact h
theorem nu{cells:List (Str×Addr)}:∀ (ns:List (Str×NameKind)) (acc:List (Str×Addr)) x,(x,NameKind.free)∈ns→∃ c,(ae cells ns acc).lookup x=some c
  | [],acc,x,h=>by cases h
  | (n,k)::r,acc,x,h=>by
    unfold ae
    rcases List.mem_cons.mp h with e | e
    · cases e
      refine EE r _ _ ?_
      rw [if_pos (by simp)]
      exact ⟨_,by rw [List.lookup_cons,beq_self_eq_true]⟩
    · exact nu r _ x e
theorem ad{β:Type}:∀ {l:List (Str×β)} {x:Str} {c:β},l.lookup x=some c→(x,c)∈l:=fun h=>PySem.mem_of_lookup h
def cxC(X:Cx)(scope:Scope)(N:List Str)(cl:List (Str×Addr))(Ca:Addr)(s2:Shared)(H2:Hp)(fp:List Addr):Cx:=
  {X with N:=N,s₀:=s2,H₀:=H2,env:=compEnvC scope cl Ca X.env,outer:=X.stack,ex:=fp,fn:=fun _=>false,pn:=[],xe:=fun _ _=>False}
structure BodyC(cv:Nat→Value)(k:Nat)(X:Cx):Prop where
  C:BC X
  hr:Room k X.A
  L:DX (CX1 X.prog X.w) X ⟨cv,fun _ _ _=>False⟩
theorem mt{env:Env}:∀ {names:List (Str×NameKind)} {x:Str} {k:NameKind},(names.map fun (n,k)=>if (k == NameKind.free && env.scope.kind == .function && env.kindOf n == some .cell) then (n,NameKind.cell) else (n,k)).lookup x=some k→
    (k= .cell∨k= .free)→(∀ z∈names,z.2≠.cell)→(x,NameKind.free)∈names
  | [],_,_,h,_,_=>by simp at h
  | (n,k0)::r,x,k,h,hk,hc=>by
    rw [List.map_cons,List.lookup_cons] at h
    have hc':∀ z∈r,z.2≠.cell:=fun z hz=>hc z (List.mem_cons_of_mem _ hz)
    by_cases hb:(k0 == NameKind.free && env.scope.kind == .function && env.kindOf n == some .cell)=true
    · have k0f:k0= .free:=by
        simp only [Bool.and_eq_true,beq_iff_eq] at hb
        exact hb.1.1
      simp only [if_pos hb] at h
      by_cases e:(x == n)=true
      · have:x=n:=by simpa using e
        subst this;subst k0f
        exact List.mem_cons_self
      · have e:(x == n)=false:=by simpa using e
        rw [e] at h
        exact List.mem_cons_of_mem _ (mt h hk hc')
    · simp only [if_neg hb] at h
      by_cases e:(x == n)=true
      · have:x=n:=by simpa using e
        subst this
        rw [e] at h
        cases h
        rcases hk with z | z
        · exact absurd z (hc _ List.mem_cons_self)
        · rw [z];exact List.mem_cons_self
      · have e:(x == n)=false:=by simpa using e
        rw [e] at h
        exact List.mem_cons_of_mem _ (mt h hk hc')
section
variable{X:Cx}{XO:XOT}{y:Str}{yp pos:Pos}{iter elt:Expr}{scope:Scope}{fi:FI}{f:FE}{ids:List Nat}{fr:List Str}{k:Nat}
theorem Lr{pins:List (Addr×Obj)}{σ:L2.St}{H2:Hp}{s2:Shared}{fp:List Addr}{Ca:Addr}{N:List Str}(I:Inv X pins σ H2 s2)(hf:∀ b∈fp,C6 X pins H2 b)(hfo:∀ b∈fp,∃ o,s2.heap.get? b=some o)(hC:s2.heap.objs.size≤Ca)
    (hkind:scope.kind= .function) (hcell:∀ z∈scope.names,z.2≠.cell) (hfree:∀ z∈scope.names,z.2= .free→∃ c,X.env.cells.lookup z.1=some c):
    (cxC X scope N (ae X.env.cells scope.names []) Ca s2 H2 fp).Ok:=by
  have sub:∀ x c,(ae X.env.cells scope.names []).lookup x=some c→X.env.cells.lookup x=some c:=fun x c e=>by
    rcases mm _ _ hfree x c (ad e) with z | z
    · cases z
    · exact z
  refine ⟨I.ok.mod,hkind,I.ok.glob,I.ok.blt,hC,fun x z c h1 h2=>I.ok.inj x z c (sub x c h1) (sub z c h2),fun x hx=>?_,fun x c h=>(nomatch h),I.ok.hd,I.ok.frames,.inl rfl,fun b hb=>?_,I.bs,Nat.le_trans I.ok.bsz I.sz,fun b o e hb=>?_,fun b hb hs=>?_,I.stack,I.stkFree⟩
  · rcases hx with h | h
    · exact nu _ _ x (mt (show (relabel scope X.env).names.lookup x=some _ from h) (.inl rfl) hcell)
    · exact nu _ _ x (mt (show (relabel scope X.env).names.lookup x=some _ from h) (.inr rfl) hcell)
  · obtain ⟨o,e⟩:=hfo b hb
    exact ⟨Nat.ne_of_lt (Nat.lt_of_lt_of_le (Heap.lt_size e) hC),fun x c h=>(hf b hb).2.2.2.2.1 x c (sub x c h)⟩
  · rcases (hf b hb).2.2.2.1 with z | z
    · exact I.ok.noex b o e z
    · exact absurd (Heap.lt_size (I.ok.bs b o e).1) (Nat.not_lt.mpr z)
  · rcases List.mem_cons.mp (I.stkSub b hs) with z | z
    · exact (hf b hb).2.1 z
    · exact (hf b hb).2.2.1 z
theorem P5{N:List Str}{cl:List (Str×Addr)}{Ca:Addr}{s2:Shared}{H2:Hp}{fp:List Addr}(C:BC X):BC (cxC X scope N cl Ca s2 H2 fp):=⟨C.hu,C.mlen,C.mint,C.mbool,C.mstr,C.mtuple,C.mlist,C.misi,C.mrange,C.menum,C.mzip,C.mrev⟩
end
end KT
namespace KT
open PySem
def Fq{α:Type}(lt:α→α→Bool)(x:α):List α→List α
  | []=>[x]
  | y::ys=>if lt y x=true then y::Fq lt x ys else x::y::ys
def ql{α:Type}(lt:α→α→Bool):List α→List α
  | []=>[]
  | x::xs=>Fq lt x (ql lt xs)
def ltI(a b:Int):Bool:=decide (a < b)
def zl(r:List Int):PyData:=.tuple (r.map .int)
def iy:List PyData→Option (List (List Int))
  | []=>some []
  | .tuple xs::r=>(match w4 xs,iy r with
    | some a,some b=>some (a::b)
    | _,_=>none)
  | _::_=>none
def rq(xs:List PyData):Option PyData:=if xs.length < 64 then (match w4 xs with
  | some ns=>some (.list ((ql ltI ns).map .int))
  | none=>(match iy xs with
    | some rs=>some (.list ((ql xa rs).map zl))
    | none=>none)) else none
def dSorted:PyData→Option PyData
  | .list xs=>rq xs
  | .tuple xs=>rq xs
  | _=>none
def yz:FE→FE:=e1 dSorted true
theorem AN:∀ ns:List Int,lfs (ns.map .int)=true
  | []=>rfl
  | n::ns=>by simp [lfs,lf,AN ns]
theorem lfR(r:List Int):lf (zl r)=true:=by simp [zl,lf,AN]
theorem on:∀ rs:List (List Int),lfs (rs.map zl)=true
  | []=>rfl
  | r::rs=>by simp [lfs,lfR,on rs]
theorem y9:∀ ns:List Int,w4 (ns.map .int)=some ns
  | []=>rfl
  | n::ns=>by simp [w4,y9 ns]
theorem Ab:∀ rs:List (List Int),iy (rs.map zl)=some rs
  | []=>rfl
  | r::rs=>by
    show (match w4 (r.map .int),iy (rs.map zl) with
      | some a,some b=>some (a::b)
      | _,_=>none)=_
    rw [y9,Ab rs]
theorem Gb{ns:List Int}(h:ns.length < 64):rq (ns.map .int)=some (.list ((ql ltI ns).map .int)):=by
  unfold rq
  rw [if_pos (by simpa using h),y9]
theorem FK{rs:List (List Int)}(h:rs.length < 64):rq (rs.map zl)=some (.list ((ql xa rs).map zl)):=by
  unfold rq
  rw [if_pos (by simpa using h)]
  cases rs with
  | nil=>rfl
  | cons r rs=>rw [show w4 ((r::rs).map zl)=none from rfl,Ab]
abbrev FL:=List PyData→Option (Option Nat×List PyData)
def qx(i:Nat)(f:FE):FS:=fun ρ=>match ρ[i]? with
  | some (some (.lent xs))=>zi (f ρ) ρ fun _ d=>if (lf d && decide (xs.length < big))=true then some (.next (ρ.set i (some (.lent (xs++[d]))))) else none
  | _=>none
mutual
def ltD:PyData→PyData→Option Bool
  | .int i,.int j=>some (decide (i < j))
  | .str x,.str y=>some (decide (x.cps.toList < y.cps.toList))
  | .tuple xs,.tuple ys=>ig xs ys
  | _,_=>none
def ig:List PyData→List PyData→Option Bool
  | [],[]=>some false
  | [],_::_=>some true
  | _::_,[]=>some false
  | x::xs,y::ys=>if PyData.eqv x y=true then ig xs ys else ltD x y
end
def Fb(x y:PyData):Option PyData:=if (x.canLay0 && y.canLay0 && decide (x.depth≤60))=true then (ltD x y).map .bool else none
def Ks:FE→FE→FE:=e2 Fb true
inductive Arg where
  | f (e:FE)
  | n (j:Nat)
  | x (j k:Nat)
def vn:Option (Option Slot)→Option PyData
  | some (some (.par d))=>some d
  | some (some (.loc d))=>some d
  | some (some (.own ds))=>some (.list ds)
  | _=>none
def bg(i:Nat)(ρ:Rho):Arg→Option PyData
  | .f e=>(match e ρ with
    | some (.ok _ d)=>if lf d=true then some d else none
    | _=>none)
  | .n j=>if j=i then none else vn ρ[j]?
  | .x j k=>if j=i then none else (match vn ρ[j]? with
    | some (.list ds)=>ds[k]?
    | _=>none)
def v8(i:Nat)(ρ:Rho):List Arg→Option (List PyData)
  | []=>some []
  | a::as=>match bg i ρ a,v8 i ρ as with
    | some d,some ds=>some (d::ds)
    | _,_=>none
def pd:Option Slot→Option Slot
  | some (.own ds)=>some (.loc (.list ds))
  | some (.own2 ds)=>some (.loc (.list ds))
  | some (.par d)=>some (.par d)
  | some (.loc d)=>some (.loc d)
  | some (.ex c)=>some (.ex c)
  | _=>none
def uu(ρ:Rho)(i:Nat):Option (List PyData):=match (ρ[i]?:Option (Option Slot)) with
  | some (some (.own ds))=>some ds
  | some (some (.lent ds))=>some ds
  | _=>none
def mk(ρ:Rho)(i:Nat)(ds:List PyData):Option Slot:=match (ρ[i]?:Option (Option Slot)) with
  | some (some (.own _))=>some (.own ds)
  | some (some (.lent _))=>some (.lent ds)
  | _=>none
def bj(ρ:Rho)(i:Nat)(ds:List PyData):Rho:=(ρ.map pd).set i (mk ρ i ds)
abbrev FR:=List PyData→List PyData→Option (PyData×List PyData)
def vv(g:FR)(as:List Arg)(i:Nat)(ρ:Rho):Option (PyData×List PyData):=match v8 i ρ as,uu ρ i with
  | some ds,some rs=>g ds rs
  | _,_=>none
def wq(j:Nat)(g:FR)(as:List Arg)(i:Nat):FS:=fun ρ=>match vv g as i ρ with
  | some (d,rs)=>if j=i then none else some (.next ((bj ρ i rs).set j (some (.par d))))
  | none=>none
def cw(g:FR)(as:List Arg)(i:Nat):FS:=fun ρ=>match vv g as i ρ with
  | some (_,rs)=>some (.next (bj ρ i rs))
  | none=>none
def ui(ρ:Rho)(i:Nat):Bool:=match (ρ[i]?:Option (Option Slot)) with
  | some (some (.lent _))=>true
  | _=>false
def fq(g:FR)(as:List Arg)(i:Nat):FS:=fun ρ=>match vv g as i ρ with
  | some (d,rs)=>if ui ρ i=true then some (.retL d rs) else none
  | none=>none
def Do(g:FR)(as:List Arg)(i:Nat):FS:=fun ρ=>match vv g as i ρ with
  | some (.list xs,rs)=>if (ui ρ i && lfs xs)=true then some (.retL (.tuple xs) rs) else none
  | _=>none
def vp(i:Nat)(f:FE):FS:=fun ρ=>match (ρ[i]?:Option (Option Slot)) with
  | some (some (.lent rs))=>zi (f ρ) ρ fun l d=>if (lf d || decide (2≤l))=true then some (.retL d rs) else none
  | _=>none
def ay(i j:Nat):FS:=fun ρ=>match (ρ[i]?:Option (Option Slot)) with
  | some (some (.lent rs))=>(match (if j=i then none else vn ρ[j]?) with
    | some d=>some (.retL d rs)
    | none=>none)
  | _=>none
def B3(i j k:Nat):FS:=fun ρ=>match (ρ[i]?:Option (Option Slot)) with
  | some (some (.lent rs))=>(match (if j=i then none else vn ρ[j]?),(if k=i then none else vn ρ[k]?) with
    | some d,some e=>some (.retL (.list [d,e]) rs)
    | _,_=>none)
  | _=>none
def qj(n:Nat)(b:FS):FR:=fun args ds=>match b (args.map (fun d=>some (.par d))++some (.lent ds)::List.replicate (n - args.length - 1) none) with
  | some (.retL d ds')=>some (d,ds')
  | _=>none
def nk(j i:Nat):FS:=fun ρ=>match ρ[i]? with
  | some (some (.own ds))=>if i=j then none else some (.next ((ρ.set i none).set j (some (.own ds))))
  | _=>none
def lw(i j:Nat):FS:=fun ρ=>match ρ[i]? with
  | some (some (.own xs))=>(match ρ[j]? with
    | some (some (.own (y::ys)))=>if i≠j∧xs.length < big∧lf y=true then some (.next ((ρ.set j (some (.own ys))).set i (some (.own (xs++[y]))))) else none
    | _=>none)
  | _=>none
def EB:PyData→PyData→Option PyData
  | .tuple xs,.int k=>if (lfs xs && decide (xs.length * k.toNat≤big) && decide (k.natAbs≤big) && decide (0 < xs.length))=true then some (.tuple (List.replicate k.toNat xs).flatten) else none
  | _,_=>none
def nr:FE→FE→FE:=e2 EB true
abbrev Ent:=List Int×Int
def ve(x:Ent):PyData:=.tuple [.tuple (x.1.map .int),.int x.2]
def jn(ts:List Ent):PyData:=.dict (ts.map fun x=>(.tuple (x.1.map .int),.int x.2))
def M9:PyData×PyData→Option Ent
  | (.tuple xs,.int n)=>(w4 xs).map fun k=>(k,n)
  | _=>none
def A6:List (PyData×PyData)→Option (List Ent)
  | []=>some []
  | x::r=>match M9 x,A6 r with
    | some a,some b=>some (a::b)
    | _,_=>none
def p9:PyData→Option (List Ent)
  | .dict kvs=>A6 kvs
  | _=>none
def LL:PyData→Option Ent
  | .tuple [.tuple xs,.int n]=>(w4 xs).map fun k=>(k,n)
  | _=>none
def B6:List PyData→Option (List Ent)
  | []=>some []
  | x::r=>match LL x,B6 r with
    | some a,some b=>some (a::b)
    | _,_=>none
def f7(ts:List Ent)(k:List Int)(n:Int):List Ent:=if (ts.any fun x=>decide (x.1=k))=true then ts.map (fun x=>if x.1=k then (x.1,n) else x) else ts++[(k,n)]
def kj(ts:List Ent)(k:List Int):Option Int:=(ts.find? fun x=>decide (x.1=k)).map (·.2)
theorem i8:∀ ts:List Ent,A6 (ts.map fun x=>(.tuple (x.1.map .int),.int x.2))=some ts
  | []=>rfl
  | (k,n)::ts=>by
    have h:M9 (.tuple (k.map .int),.int n)=some (k,n):=by
      show (w4 (k.map .int)).map _=_
      rw [y9];rfl
    simp only [List.map_cons,A6,h,i8 ts]
theorem i7(ts:List Ent):p9 (jn ts)=some ts:=i8 ts
theorem BV:∀ ts:List Ent,B6 (ts.map ve)=some ts
  | []=>rfl
  | (k,n)::ts=>by
    have h:LL (ve (k,n))=some (k,n):=by
      show (w4 (k.map .int)).map _=_
      rw [y9];rfl
    simp only [List.map_cons,B6,h,BV ts]
theorem u5:∀ {xs:List PyData} {k:List Int},w4 xs=some k→xs=k.map .int
  | [],_,e=>by cases e;rfl
  | .int i::r,k,e=>by
    simp only [w4,Option.map_eq_some_iff] at e
    obtain ⟨a,h,rfl⟩:=e
    simp [u5 h]
  | .none::_,_,e=>by cases e
  | .bool _::_,_,e=>by cases e
  | .str _::_,_,e=>by cases e
  | .tuple _::_,_,e=>by cases e
  | .list _::_,_,e=>by cases e
  | .dict _::_,_,e=>by cases e
theorem HB{d:PyData}{x:Ent}(e:LL d=some x):d=ve x:=by
  unfold LL at e
  split at e
  · rename_i xs n
    rw [Option.map_eq_some_iff] at e
    obtain ⟨k,h,rfl⟩:=e
    rw [u5 h];rfl
  · cases e
theorem AU:∀ {ds:List PyData} {ts:List Ent},B6 ds=some ts→ds=ts.map ve
  | [],_,e=>by cases e;rfl
  | d::ds,ts,e=>by
    unfold B6 at e
    split at e
    · rename_i a b h1 h2
      cases e
      rw [HB h1,AU h2];rfl
    · cases e
def i5(f:FE):FI:=fun ρ=>match f ρ with
  | some (.ok l d)=>(p9 d).map fun ts=>.ok l (ts.map ve)
  | some (.exc c)=>some (.exc c)
  | none=>none
def Dy(i:Nat)(tg:FT)(body:FS):FS:=fun ρ=>match ρ[i]? with
  | some (some (.par d))=>(p9 d).bind fun ts=>q8 tg body (ts.map ve) ρ
  | some (some (.loc d))=>(p9 d).bind fun ts=>q8 tg body (ts.map ve) ρ
  | _=>none
def iC(ds:List PyData):FI:=fun _=>some (.ok 2 ds)
def Aa(i:Nat):FS:=fun ρ=>some (.next (ρ.set i (some (.dct []))))
def fm(neg:Bool)(i j:Nat)(f:FE):FS:=fun ρ=>match ρ[i]? with
  | some (some (.dct ts))=>(match za j ρ with
    | some (.ok _ (.tuple xs))=>(match w4 xs with
      | some k=>zi (f ρ) ρ fun _ d=>(match d with
        | .int n=>if ts.length < big then some (.next (ρ.set i (some (.dct (f7 ts k ((kj ts k).getD 0+(if neg then -n else n))))))) else none
        | _=>none)
      | none=>none)
    | _=>none)
  | _=>none
def dictOf(ts:List Ent):List Ent:=ts.foldl (fun acc x=>f7 acc x.1 x.2) []
def G7:PyData→Option PyData
  | .list ds=>if ds.length≤big then (B6 ds).map fun ts=>jn (dictOf ts) else none
  | _=>none
def GG:FE→FE:=e1 G7 true
def GU(d:PyData):Option PyData:=(p9 d).map fun ts=>.int ts.length
def G8:FE→FE:=e1 GU true
def EX(j i:Nat):FS:=fun ρ=>match ρ[i]? with
  | some (some (.loc d))=>some (.next (ρ.set j (some (.loc d))))
  | _=>none
def lu(fa fb:FE):FE:=fun ρ=>zk (fa ρ) fun _ x=>match x with
  | .tuple xs=>(match w4 xs with
    | some ns=>zk (fb ρ) fun _ y=>(match y with
      | .int i=>some (.ok 2 (.int (ns.countP fun n=>decide (n=i):Nat)))
      | _=>none)
    | none=>none)
  | _=>none
def tc1(d:PyData):Option Rho:=some [some (.par d)]
def tc2:PyData→Option Rho
  | .tuple [x,y]=>some [some (.par x),some (.par y)]
  | _=>none
def yd(tf:PyData→Option Rho)(tst elt:FE)(env:Rho):List PyData→Option (List PyData)
  | []=>some []
  | d::ds=>match tf d with
    | none=>none
    | some ρ1=>match tst (ρ1++env) with
      | some (.ok _ (.bool true))=>(match elt (ρ1++env) with
        | some (.ok _ x)=>if lf x=true then (yd tf tst elt env ds).map (x::·) else none
        | _=>none)
      | some (.ok _ (.bool false))=>yd tf tst elt env ds
      | _=>none
def ge(it:FI)(ids:List Nat)(tf:PyData→Option Rho)(tst elt:FE):FE:=fun ρ=>match it ρ with
  | none=>none
  | some (.exc c)=>some (.exc c)
  | some (.ok _ ds)=>if ds.length≤big then (yd tf tst elt (ids.map fun i=>bo ρ[i]?) ds).map fun xs=>.ok 2 (.list xs) else none
end KT
namespace KT
open PySem PySem.Spec PyProof.Rows L2
theorem Bf{env:Env}:∀ {names:List (Str×NameKind)} {x:Str},names.lookup x=some .free→
    (names.map fun (n,k)=>if (k == NameKind.free && env.scope.kind == .function && env.kindOf n == some .cell) then (n,NameKind.cell) else (n,k)).lookup x=some .cell∨
    (names.map fun (n,k)=>if (k == NameKind.free && env.scope.kind == .function && env.kindOf n == some .cell) then (n,NameKind.cell) else (n,k)).lookup x=some .free
  | [],_,h=>by simp at h
  | (n,k)::r,x,h=>by
    rw [List.map_cons,List.lookup_cons]
    rw [List.lookup_cons] at h
    by_cases hb:(k == NameKind.free && env.scope.kind == .function && env.kindOf n == some .cell)=true
    · simp only [if_pos hb]
      by_cases e:(x == n)=true
      · rw [e];exact .inl rfl
      · have e:(x == n)=false:=by simpa using e
        rw [e] at h ⊢
        exact Bf h
    · simp only [if_neg hb]
      by_cases e:(x == n)=true
      · rw [e] at h ⊢;exact .inr h
      · have e:(x == n)=false:=by simpa using e
        rw [e] at h ⊢
        exact Bf h
def frv(σ:L2.St)(ids:List Nat):L2.St:=ids.map fun i=>(σ[i]?).join
theorem Dg{prog:Program}{w:World}{A:Around}{elt target iter:Expr}{ifs:List Expr}{scope:Scope}{pos:Pos}{it acc:Value}{env:Env}{R:Result→Shared→Prop}{s:Shared}(I:Nat→Shared→Prop)
    (turn:∀ n s,I n s→wpAny (model prog w) A (pyNext it) (fun r s₁=>match r with
      | none=>R (.ok .next) s₁
      | some v=>wpAny (model prog w) A (letOwnedTupleGo target it v) (fun _ s₁'=>wpAny (model prog w) A (assign target env v) (fun _ s₂=>
          wpAny (model prog w) A (forIn ifs true fun c r=>if r=true then do let ok ← isTrue c env (eval c env);pure (ForInStep.yield ok) else pure (ForInStep.yield r)) (fun ok s₃=>
            if ok=true then wpAny (model prog w) A (eval elt env) (fun x s₄=>
              wpAny (model prog w) A (call (.builtin "list.append") [acc,x]) (fun _ s₅=>∃ m,m < n∧I m s₅) (notedBy (model prog w) A env fun e s'=>R (.error e) s') s₄) (notedBy (model prog w) A env fun e s'=>R (.error e) s') s₃
            else ∃ m,m < n∧I m s₃) (notedBy (model prog w) A env fun e s'=>R (.error e) s') s₂) (notedBy (model prog w) A env fun e s'=>R (.error e) s') s₁') (notedBy (model prog w) A env fun e s'=>R (.error e) s') s₁) (notedBy (model prog w) A env fun e s'=>R (.error e) s') s)
    (n:Nat) (h:I n s):codeAny (model prog w) A (.compLoop (.ListComp elt [⟨target,iter,ifs,0⟩] scope pos) 0 it acc env) R s:=by
  refine codeAny_loop rfl I (fun n s hI=>?_) n h
  show wpAny _ A ((compTurn (.ListComp elt [⟨target,iter,ifs,0⟩] scope pos) 0 it acc env).onRaise (fun x=>do noteFrame x env;theTreesLotGoes x)) _ _ s
  refine wpAny_noted ?_
  rw [compTurn_list]
  refine wpAny_bind (wpAny_standAt (wpAny_bind (wpAny_mono (turn n s hI) (fun r s₁ h₁=>?_) fun _ _ h'=>h')))
  cases r with
  | none=>exact wpAny_pure h₁
  | some v=>
    refine wpAny_bind (wpAny_mono h₁ (fun _ s₁' h₁'=>?_) fun _ _ h'=>h')
    refine wpAny_bind (wpAny_mono h₁' (fun _ s₂ h₂=>wpAny_bind (wpAny_mono h₂ (fun ok s₃ h₃=>?_) fun _ _ h'=>h')) fun _ _ h'=>h')
    cases ok with
    | false=>exact wpAny_pure ⟨rfl,h₃⟩
    | true=>exact wpAny_bind (wpAny_bind (wpAny_mono h₃ (fun x s₄ h₄=>wpAny_bind (wpAny_mono h₄ (fun _ s₅ h₅=>wpAny_pure (wpAny_pure ⟨rfl,h₅⟩)) fun _ _ h'=>h')) fun _ _ h'=>h'))
def PTs(X:Cx)(ifs:List Expr)(t:TT):Prop:=
  ∀ (pins:List (Addr×Obj)) (s:Shared) (σ:L2.St) (H:Hp) (Q:Bool→Hp→Prop),Inv X pins σ H s→t σ H Q→wpAny (model X.prog X.w) X.A (forIn ifs true fun c r=>if r=true then do let ok ← isTrue c X.env (eval c X.env);pure (ForInStep.yield ok) else pure (ForInStep.yield r)) (TP X pins σ Q) X.xe s
theorem Gk{X:Cx}{c:Expr}{t:TT}(h:PT X c t):PTs X [c] t:=fun pins s σ H Q I q=>wpAny_tests_one (h pins s σ H Q I q)
theorem Lv{X:Cx}{XO:XOT}:PTs X [] (yo (tF XO (eC (.bool true)))):=fun pins s σ H Q I ⟨H₀,Hs,ρ,r,g,e,kk⟩=>by
  obtain ⟨k,e1,q⟩:=kk.give (v:=.bl true) e (Same.refl _) rfl
  cases e1
  exact wpAny_tests_nil ⟨H,I,q⟩
structure TgC(X:Cx)(scope:Scope)(N:List Str)(tg:Expr)(n:Nat)(tf:PyData→Option Rho):Prop where
  ex:∃ g:TG,(∀ cl Ca s2 H2 fp,PG (cxC X scope N cl Ca s2 H2 fp) tg g)∧∀ (ws σf:L2.St) (H:Hp) (d:PyData) (x:V) (Q:L2.St→Hp→Prop) (ρ1:Rho),ws.length=n→Rep (fun _ _=>False) H d x→tf d=some ρ1→
    (∀ ws':L2.St,ws'.length=n→ρ1.length=n→(∀ (i:Nat) (t:Slot),ρ1[i]? =some (some t)→∃ v d',t= .par d'∧ws'[i]? =some (some v)∧Rep (fun _ _=>False) H d' v)→Q (ws'++σf) H)→g x (ws++σf) H Q
section
variable{X:Cx}{scope:Scope}{y z:Str}{yp zp tp:Pos}{fr:List Str}{k1:Nat}
theorem G3(nd:(y::fr).Nodup:=by decide +kernel)(hy:scope.names.lookup y=some .local:=by rfl):TgC X scope ([y]++fr) (.Name y yp) 1 tc1:=
  ⟨rh 0,fun cl Ca s2 H2 fp=>ef (X:=cxC X scope ([y]++fr) cl Ca s2 H2 fp) nd rfl (.inl (lookup_relabel_local hy)) (.inr (lookup_relabel_local hy)),fun ws σf H d x Q ρ1 hl r e q=>by
    cases e
    match ws,hl with
    | [w],_=>
      refine q [some x] rfl rfl fun i t e=>?_
      match i,e with
      | 0,e=>cases e;exact ⟨x,d,rfl,rfl,r⟩
      | i+1,e=>cases e⟩
theorem KL(hc:X.calm=true)(nd:(y::z::fr).Nodup:=by decide +kernel)(hy:scope.names.lookup y=some .local:=by rfl)(hz:scope.names.lookup z=some .local:=by rfl):TgC X scope ([y,z]++fr) (.Tuple [.Name y yp,.Name z zp] k1 tp) 2 tc2:=
  ⟨Ny X.K 2 (Dx (rh 0) (Dx (rh 1) gNil)),fun cl Ca s2 H2 fp=>Km (X:=cxC X scope ([y,z]++fr) cl Ca s2 H2 fp) hc (mo (ef nd rfl (.inl (lookup_relabel_local hy)) (.inr (lookup_relabel_local hy))) (mo (ef nd rfl (.inl (lookup_relabel_local hz)) (.inr (lookup_relabel_local hz))) Gs)),fun ws σf H d x Q ρ1 hl r e q=>by
    unfold tc2 at e
    split at e
    · rename_i d1 d2
      cases e
      obtain ⟨p,vs,rfl,hp,rs⟩:=r
      obtain ⟨v1,vr,rfl,r1,rs⟩:=rs
      obtain ⟨v2,vr,rfl,r2,rs⟩:=rs
      have rs:vr=[]:=rs
      subst rs
      match ws,hl with
      | [w1,w2],_=>
        refine ⟨p,_,rfl,.inl hp,rfl,v1,_,rfl,v2,_,rfl,rfl,q [some v1,some v2] rfl rfl fun i t e=>?_⟩
        match i,e with
        | 0,e=>cases e;exact ⟨v1,d1,rfl,rfl,r1⟩
        | 1,e=>cases e;exact ⟨v2,d2,rfl,rfl,r2⟩
        | i+2,e=>cases e
    · cases e⟩
end
section
variable{X:Cx}{XO:XOT}{pos:Pos}{iter elt tgt:Expr}{ifs:List Expr}{scope:Scope}{fi:FI}{f ft:FE}{ids:List Nat}{ys fr:List Str}{k:Nat}{tf:PyData→Option Rho}
theorem H9{pins:List (Addr×Obj)}{σ:L2.St}{H2:Hp}{s2:Shared}{fp:List Addr}{Ca:Addr}{h1:Heap}{t1:Nat}{m:Str→Option Value}(I:Inv X pins σ H2 s2)(ok:(cxC X scope (ys++fr) (ae X.env.cells scope.names []) Ca s2 H2 fp).Ok)
    (hfree:∀ z∈scope.names,z.2= .free→∃ c,X.env.cells.lookup z.1=some c) (hC:s2.heap.objs.size≤Ca) (old:∀ b o,s2.heap.get? b=some o→h1.get? b=some o) (hns:h1.Ns Ca m)
    (hids:ids.map (fun i=>X.N[i]?)=fr.map some) (hfr:∀ n∈fr,scope.names.lookup n=some .free∧X.env.scope.names.lookup n=some .cell):
    Inv (cxC X scope (ys++fr) (ae X.env.cells scope.names []) Ca s2 H2 fp) [] (List.replicate ys.length none++frv σ ids) H2 {s2 with heap:=h1,toks:=t1}:=by
  have sub:∀ x c,(ae X.env.cells scope.names []).lookup x=some c→X.env.cells.lookup x=some c:=fun x c e=>by
    rcases mm _ _ hfree x c (ad e) with z | z
    · cases z
    · exact z
  have hlen:ids.length=fr.length:=by simpa using congrArg List.length hids
  refine ⟨ok,rfl,I.bare,Un.kept old,⟨m,hns,fun i x v e1 e2 e3=>?_⟩,fun x c e=>?_,I.hok.fresh hC,fun x c e=>I.freeC x c (sub x c e),fun p hp=>(nomatch hp),I.hok.kept old,by simp [cxC,frv,hlen]⟩
  · by_cases hlt:i < ys.length
    · have e2:(List.replicate ys.length none++frv σ ids)[i]? =some (some v):=e2
      rw [List.getElem?_append_left (by simpa using hlt),List.getElem?_replicate,if_pos hlt] at e2
      cases e2
    · have e1:(ys++fr)[i]? =some x:=e1
      have e2:(List.replicate ys.length none++frv σ ids)[i]? =some (some v):=e2
      rw [List.getElem?_append_right (by omega)] at e1
      rw [List.getElem?_append_right (by simpa using hlt),List.length_replicate] at e2
      generalize i - ys.length=j at e1 e2
      have e2:(ids.map fun i=>(σ[i]?).join)[j]? =some (some v):=e2
      rw [List.getElem?_map] at e2
      cases hj:ids[j]? with
      | none=>rw [hj] at e2;cases e2
      | some i'=>
        rw [hj] at e2
        have e2:(σ[i']?).join=some v:=Option.some.inj e2
        have hσ:σ[i']? =some (some v):=by
          cases q:σ[i']? with
          | none=>rw [q] at e2;cases e2
          | some w=>rw [q] at e2;cases w with
            | none=>cases e2
            | some w=>cases e2;rfl
        have hN:X.N[i']? =some x:=by
          have:=congrArg (fun l=>l[j]?) hids
          simp only [List.getElem?_map,hj,e1,Option.map_some] at this
          exact Option.some.inj this
        obtain ⟨hf1,hf2⟩:=hfr x (List.mem_of_getElem? e1)
        obtain ⟨m0,_,hl⟩:=I.loc
        obtain ⟨u,ru,lk⟩:=hl i' x v hN hσ (.inr (.inl hf2))
        refine ⟨u,ru,.inr ⟨Bf (env:=X.env) hf1,?_⟩⟩
        rcases lk with ⟨z,_⟩ | ⟨_,c,hc,hcell⟩
        · rw [show X.env.kindOf x=some NameKind.cell from hf2] at z;cases z
        · obtain ⟨c',hc'⟩:=nu (cells:=X.env.cells) scope.names [] x (ad hf1)
          have:=sub x c' hc'
          rw [hc] at this
          cases this
          obtain ⟨o,ho,hd⟩:=hcell
          exact ⟨c,hc',o,old c o ho,hd⟩
  · obtain ⟨v,o,ho,hd⟩:=I.cell x c (sub x c e)
    exact ⟨v,o,old c o ho,hd⟩
theorem LP{H₀ Hs H H1:Hp}{ρ ρ1:Rho}{σ ws:L2.St}(g:G XO.cv H₀ Hs ρ σ H)(s:Same H H1)(hw:ws.length=ρ1.length)(rx:∀ (i:Nat) (t:Slot),ρ1[i]? =some (some t)→∃ v d',t= .par d'∧ws[i]? =some (some v)∧Rep (fun _ _=>False) H1 d' v):
    G XO.cv H1 H1 (ρ1++ids.map fun i=>bo ρ[i]?) (ws++frv σ ids) H1:=by
  refine ⟨Same.refl _,Same.refl _,fun i t e=>?_⟩
  by_cases hlt:i < ρ1.length
  · rw [List.getElem?_append_left hlt] at e
    rw [List.getElem?_append_left (by omega)]
    obtain ⟨v,d',rfl,e1,r⟩:=rx i t e
    exact ⟨v,e1,r.imp fun _ _ z=>z.elim⟩
  · rw [List.getElem?_append_right (by omega)] at e
    rw [List.getElem?_append_right (by omega),hw]
    generalize i - ρ1.length=j at e ⊢
    rw [List.getElem?_map] at e
    show VS XO.cv H1 (frv σ ids)[j]? H1 t
    unfold frv
    rw [List.getElem?_map]
    cases hj:ids[j]? with
    | none=>rw [hj] at e;cases e
    | some i'=>
      rw [hj] at e
      have e:bo ρ[i']? =some t:=Option.some.inj e
      unfold bo at e
      split at e
      · rename_i d' hρ
        cases e
        obtain ⟨v,h1,h2⟩:=g.vr i' _ hρ
        exact ⟨v,by simp [h1],h2.same s⟩
      · rename_i d' hρ
        cases e
        obtain ⟨v,h1,h2⟩:=g.vr i' _ hρ
        exact ⟨v,by simp [h1],(h2.imp fun _ _ _=>trivial).same s⟩
      · rename_i d' hρ
        cases e
        obtain ⟨v,h1,h2⟩:=g.vr i' _ hρ
        exact ⟨v,by simp [h1],(h2.imp fun _ _ _=>trivial).same s⟩
      · cases e
theorem Dv(C:BC X)(hr:Room k X.A)(hc:X.calm=true)(hi:PI X tgt iter (tI XO fi))(hT:TgC X scope (ys++fr) tgt ys.length tf)
    (ht:∀ cl Ca s2 H2 fp,BodyC XO.cv k (cxC X scope (ys++fr) cl Ca s2 H2 fp)→PTs (cxC X scope (ys++fr) cl Ca s2 H2 fp) ifs (yo (tF ⟨XO.cv,fun _ _ _=>False⟩ ft)))
    (he:∀ cl Ca s2 H2 fp,BodyC XO.cv k (cxC X scope (ys++fr) cl Ca s2 H2 fp)→PE (cxC X scope (ys++fr) cl Ca s2 H2 fp) elt (tF ⟨XO.cv,fun _ _ _=>False⟩ f))
    (hkind:scope.kind= .function:=by rfl) (hcell:∀ z∈scope.names,z.2≠.cell:=by decide +kernel) (hnames:∀ z∈scope.names,z.2= .local→scope.names.lookup z.1=some .local:=by decide +kernel)
    (hids:ids.map (fun i=>X.N[i]?)=fr.map some:=by rfl)
    (hfr:∀ n∈fr,scope.names.lookup n=some .free∧X.env.scope.names.lookup n=some .cell:=by first | (dsimp only [i3,envOfC,Cx.tr,Cx.hn,cxC,compEnvC];decide +kernel) | decide +kernel) (hall:∀ z∈scope.names,z.2= .free→X.env.scope.names.lookup z.1=some .cell:=by first | (dsimp only [i3,envOfC,Cx.tr,Cx.hn,cxC,compEnvC];decide +kernel) | decide +kernel)
    (hs:∀ x,foldedSetIterable iter X.env x=pure x:=by intro _;rfl):PE X (.ListComp elt [⟨tgt,iter,ifs,0⟩] scope pos) (tF XO (ge fi ids tf ft f)):=by
  intro pins s σ H Q I ⟨H₀,Hs,ρ,r,g,e,kk⟩
  have hfree:∀ z∈scope.names,z.2= .free→∃ c,X.env.cells.lookup z.1=some c:=fun z hz hk=>I.ok.has z.1 (.inl (hall z hz hk))
  rw [eval_ListComp]
  refine wpAny_comprehension_free (use:=none) rfl hs (Fx hfree) hkind hnames ?_
  unfold ge at e
  cases hfi:fi ρ with
  | none=>rw [hfi] at e;cases e
  | some ri=>
  rw [hfi] at e
  cases ri with
  | exc c=>
    refine thn (hi pins s σ H (fun _ _=>False) I ⟨H₀,Hs,ρ,.exc c,g,hfi,fun l ds J H1 z=>(nomatch z),fun c' H' z sm=>?_⟩) fun v s1 h1=>thn h1 fun itv s2 h2=>?_
    · cases z
      exact kk.2 c H' (Option.some.inj e).symm sm
    · obtain ⟨_,_,_,_,_,_,_,_,_,_,z⟩:=h2
      exact z.elim
  | ok l ds=>
  dsimp only at e
  split at e
  rotate_left
  · cases e
  rename_i hbig
  cases hgo:yd tf ft f (ids.map fun i=>bo ρ[i]?) ds with
  | none=>rw [hgo] at e;cases e
  | some xs=>
  rw [hgo] at e
  have er:r= .ok 2 (.list xs):=(Option.some.inj e).symm
  subst er
  refine thn (hi pins s σ H (fun J H1=>Same H H1∧IF H₀ Hs l ds J H1) I ⟨H₀,Hs,ρ,.ok l ds,g,hfi,fun l' ds' J H1 z sm it=>?_,fun c H' z=>(nomatch z)⟩) fun v s1 h1=>thn h1 fun itv s2 h2=>?_
  · cases z
    exact ⟨sm,it⟩
  obtain ⟨it,fp,tn,J,H2,rfl,I2,T,st2,f2,sm2,hfrom⟩:=h2
  have hy2:cz H2 J ds:=hfrom H2 (fun _ _ z=>z) fun _ _ z=>z.rd
  obtain ⟨gt,hPG,hG⟩:=hT.ex
  have fobj:∀ b∈fp,∃ o,s2.heap.get? b=some o:=fun b hb=>let ⟨o,e,_⟩:=T.obj 0 _ st2 b hb;⟨o,e⟩
  refine wpAny_newObj_type (wpAny_newFunctionEnv hcell (by intro z hz;simp at hz) (fun h1 hns hsb=>?_) hkind)
  dsimp only at hns hsb ⊢
  generalize hHp:s2.heap.push {cls:=.type "list",dict:=none,data:=.seq ([]:List Value).toArray} =Hp1 at hns hsb ⊢
  have hCz:Hp1.objs.size=s2.heap.objs.size+1:=by rw [← hHp,Heap.size_push]
  have hDC:s2.heap.objs.size≠Hp1.objs.size:=by omega
  have hC:s2.heap.objs.size≤Hp1.objs.size:=by omega
  have old:∀ b o,s2.heap.get? b=some o→h1.get? b=some o:=fun b o q=>by
    have:=Heap.lt_size q
    exact hsb.extBut b o (Nat.ne_of_lt (Nat.lt_of_lt_of_le this hC)) (Heap.get?_push_of_some _ (hHp ▸ Heap.get?_push_of_some _ q))
  have hD1:h1.get? s2.heap.objs.size=some {cls:=.type "list",data:=.seq ([]:List Value).toArray 0}:=hsb.extBut _ _ hDC (Heap.get?_push_of_some _ (hHp ▸ Heap.get?_push_size _ rfl))
  have ok:=Lr (N:=ys++fr) (scope:=scope) I2 f2 fobj hC hkind hcell hfree
  generalize hcl:ae X.env.cells scope.names []=cl at ok ⊢
  have sub:∀ x c,cl.lookup x=some c→X.env.cells.lookup x=some c:=fun x c q=>by
    subst hcl
    rcases mm _ _ hfree x c (ad q) with z | z
    · cases z
    · exact z
  generalize hCa:Hp1.objs.size=Ca at hns hsb hDC hC ok ⊢
  generalize hDa:s2.heap.objs.size=Da at hDC hC hD1 hCz hCa
  have ltD:∀ b o,s2.heap.get? b=some o→b < Da:=fun b o q=>by
    have:=Heap.lt_size q
    rw [hDa] at this
    exact this
  have hDf:Da∉fp:=fun hm=>by
    obtain ⟨o,q⟩:=fobj Da hm
    exact absurd (ltD _ _ q) (Nat.lt_irrefl Da)
  have hDs:Da∉frs X.stack:=fun hm=>by
    obtain ⟨_,o,q,_⟩:=I2.stack.mem hm
    exact absurd (ltD _ _ q) (Nat.lt_irrefl Da)
  have hDcell:∀ x c,cl.lookup x=some c→c≠Da:=fun x c q z=>by
    obtain ⟨v,w⟩:=I2.cell x c (sub x c q)
    obtain ⟨o,q',_⟩:=w
    exact absurd (z ▸ ltD _ _ q') (Nat.lt_irrefl Da)
  have fpok:∀ {H':Hp} {ps:List (Addr×Obj)},(∀ b∈fp,H' b=none)→(∀ p∈ps,p.1∉fp)→∀ b∈fp,C6 (cxC X scope (ys++fr) cl Ca s2 H2 fp) ps H' b:=fun {H' ps} hn hp b hb=>by
    obtain ⟨o,q⟩:=fobj b hb
    refine ⟨hn b hb,Nat.ne_of_lt (Nat.lt_of_lt_of_le (ltD _ _ q) hC),fun z=>?_,.inl hb,fun x c z=>(f2 b hb).2.2.2.2.1 x c (sub x c z),fun p hp' z=>?_⟩
    · rcases List.mem_cons.mp (I2.stkSub b z) with z | z
      · exact (f2 b hb).2.1 z
      · exact (f2 b hb).2.2.1 z
    · exact hp p hp' (z ▸ hb)
  have hB:BodyC XO.cv k (cxC X scope (ys++fr) cl Ca s2 H2 fp):=⟨P5 C,hr,fun ps σ' H' s' ev s'' J' z=>by
    obtain ⟨_,_,_,_,_,_,_,_,_,_,_,w⟩:=z
    exact w.elim⟩
  have I0:Inv (cxC X scope (ys++fr) cl Ca s2 H2 fp) [] (List.replicate ys.length none++frv σ ids) H2 {s2 with heap:=h1,toks:=s2.toks+([]:List (Str×Value)).length}:=by
    subst hcl
    exact H9 I2 ok hfree (by rw [hDa];exact hC) old hns hids hfr
  have loop:codeAny (model X.prog X.w) X.A (.compLoop (.ListComp elt [⟨tgt,iter,ifs,0⟩] scope pos) 0 (.ref it) (.ref Da) (compEnvC scope cl Ca X.env)) (compPost (model X.prog X.w) X.A X.xe none (EP X pins σ Q) (.ref Da) Ca) {s2 with heap:=h1,toks:=s2.toks+([]:List (Str×Value)).length}:=by
    refine Dg (fun n s'=>∃ i H' w0 its nn dv done rest,Inv (cxC X scope (ys++fr) cl Ca s2 H2 fp) [] (w0++frv σ ids) H' s'∧w0.length=ys.length∧tn i s'.heap∧(∀ b∈fp,H' b=none)∧s'.heap.get? Da=some {cls:=.type "list",data:=.seq its.toArray nn}∧H' Da=none∧Same H2 H'∧
      Vals dv its∧Reps (fun _ _=>False) H' done dv∧yd tf ft f (ids.map fun i=>bo ρ[i]?) (ds.drop i)=some rest∧xs=done++rest∧done.length≤i∧i≤ds.length∧n=ds.length - i) ?_ ds.length
      ⟨0,H2,List.replicate ys.length none,[],0,[],[],xs,I0,List.length_replicate,T.keep _ _ _ st2 fun b hb o q=>old b o q,fun b hb=>(f2 b hb).1,hD1,I2.hok.fresh (Nat.le_of_eq hDa),Same.refl _,.nil,rfl,hgo,rfl,Nat.le_refl _,Nat.zero_le _,rfl⟩
    rintro n s3 ⟨i,H3,w0,its,nn,dv,done,rest,I3,hwl,st3,fr3,hD3,nD3,sm3,rv,rd,hgo3,hxs,hdl,hil,rfl⟩
    have pinD:Inv (cxC X scope (ys++fr) cl Ca s2 H2 fp) [(Da,{cls:=.type "list",data:=.seq its.toArray nn})] (w0++frv σ ids) H3 s3:=I3.pins_of fun p hp=>by
      have z:p=(Da,{cls:=.type "list",data:=.seq its.toArray nn}):=by simpa using hp
      subst z
      exact ⟨hD3,nD3,hDC,hDs,fun v z=>(nomatch z)⟩
    have fok3:=fpok (ps:=[(Da,({cls:=.type "list",data:=.seq its.toArray nn}:Obj))]) fr3 fun p hp=>by
      have z:p=(Da,{cls:=.type "list",data:=.seq its.toArray nn}):=by simpa using hp
      subst z
      exact hDf
    obtain ⟨y1,y2⟩:=hy2 H3 sm3 i
    cases hd:ds[i]? with
    | none=>
      have hle:ds.length≤i:=List.getElem?_eq_none_iff.mp hd
      have hieq:i=ds.length:=by omega
      refine thn (T.done (cxC X scope (ys++fr) cl Ca s2 H2 fp) rfl rfl rfl hc i _ s3 _ H3 _ pinD fok3 st3 (y2 hieq)) fun rr s4 ⟨hrr,I4⟩=>?_
      subst hrr
      obtain ⟨mC,hnC,_⟩:=I4.loc
      refine ⟨mC,hnC,fun h5 sb5=>?_⟩
      obtain ⟨hD4,nD4,_⟩:=I4.pin _ (List.mem_append_right _ (List.mem_singleton.mpr rfl))
      rw [hieq,List.drop_length] at hgo3
      cases hgo3
      rw [List.append_nil] at hxs
      subst hxs
      have far:∀ b o,s2.heap.get? b=some o→b≠Ca∧b≠Da:=fun b o q=>⟨Nat.ne_of_lt (Nat.lt_of_lt_of_le (ltD _ _ q) hC),Nat.ne_of_lt (ltD _ _ q)⟩
      have U5:Un (frs X.stack) fp H2 (upd H3 Da (.lst dv)) s2.heap h5:=by
        have U4:Un (frs X.stack) fp H2 H3 s2.heap s4.heap:=I4.base
        refine ⟨fun b o q n hb hx=>(sb5.2 b (far b o q).1).trans (U4.keep b o q n hb hx),fun b o q n hb hx=>?_,fun b o q n hx=>?_,fun b o q hx=>?_,fun b ys q=>?_,fun b o u q=>?_,fun b ps q=>?_⟩
        · obtain ⟨sl,z⟩:=U4.slot b o q n hb hx
          exact ⟨sl,(sb5.2 b (far b o q).1).trans z⟩
        · rw [zt (far b o q).2];exact U4.free b o q n hx
        · obtain ⟨o',z⟩:=U4.there b o q hx
          exact ⟨o',(sb5.2 b (far b o q).1).trans z⟩
        · rw [zt (jk (U4.tups b ys q) nD4)];exact U4.tups b ys q
        · rw [zt (jk (U4.frzs b o u q) nD4)];exact U4.frzs b o u q
        · obtain ⟨more,z⟩:=U4.tbls b ps q
          exact ⟨more,by rw [zt (jk z nD4)];exact z⟩
      have hok5:HOk X.prog X.w (upd H3 Da (.lst dv)) h5:=fun b u q=>by
        have fC:H3 Ca=none:=I4.free
        by_cases z:b=Da
        · subst z
          rw [z9] at q
          cases q
          have hlen:=rv.length
          have hl2:=rd.length
          exact ⟨by rw [hl2];exact Nat.le_trans hdl (by rw [hieq];exact ut hbig),its,nn,rv,(sb5.2 _ hDC).trans hD4⟩
        · rw [zt z] at q
          refine (I4.hok b u q).stay (fun c v hcc w=>(sb5.2 c fun zz=>?_).trans w) (fun c w=>by rw [zt (jk w nD4)];exact w) fun c ys w=>by rw [zt (jk w nD4)];exact w
          subst zz
          rcases hcc with zz | zz
          · rw [← zz,fC] at q;cases q
          · rw [fC] at zz;cases zz
      have I5:Inv X pins σ (upd H3 Da (.lst dv)) {s4 with heap:=h5}:=I2.call' (s':={s4 with heap:=h5}) I4.os U5 hok5 I4.bare fun b hb=>⟨(f2 b hb).2.2.2.1,(f2 b hb).2.1,(f2 b hb).2.2.2.2.1,(f2 b hb).2.2.2.2.2⟩
      refine ⟨.ref Da,_,I5,rfl,kk.give rfl ((sm2.trans sm3).trans (qb nD3 _)) ⟨Da,dv,rfl,.inl ⟨⟨rfl,g.s1.free (sm2.free (I2.hok.fresh (Nat.le_of_eq hDa)))⟩,z9⟩,(rd.imp fun _ _ z=>z.elim).same (qb nD3 _)⟩⟩
    | some d=>
      obtain ⟨hlt,hde⟩:=List.getElem?_eq_some_iff.mp hd
      rw [List.drop_eq_getElem_cons hlt,hde] at hgo3
      unfold yd at hgo3
      split at hgo3
      · cases hgo3
      rename_i ρ1 htf
      obtain ⟨hgo,hyl⟩:=y1 d hd
      refine thn (T.item (cxC X scope (ys++fr) cl Ca s2 H2 fp) rfl rfl rfl hc i _ s3 _ H3 _ pinD fok3 st3 hgo) fun rr s4 ⟨u,hrr,h4⟩=>?_
      subst hrr
      refine thn h4 fun _ s5 ⟨x,H5,I5,rx,hyd,st5,fr5⟩=>?_
      obtain ⟨sm5,rp5⟩:=hyl x H5 hyd
      have ho5:=T.obj _ _ st5
      have I5':=I5.pinned (fpok fr5 fun p hp=>by
        have z:p=(Da,{cls:=.type "list",data:=.seq its.toArray nn}):=by simpa using hp
        subst z
        exact hDf) ho5
      refine wpAny_mono (hPG cl Ca s2 H2 fp _ s5 _ H5 x u (fun σ' H'=>H'=H5∧∃ ws':L2.St,ws'.length=ys.length∧ρ1.length=ys.length∧σ'=ws'++frv σ ids∧∀ (i:Nat) (t:Slot),ρ1[i]? =some (some t)→∃ v d',t= .par d'∧ws'[i]? =some (some v)∧Rep (fun _ _=>False) H5 d' v) I5' rx
        (hG w0 _ H5 d x _ ρ1 hwl rp5 htf fun ws' e1 e2 e3=>⟨rfl,ws',e1,e2,rfl,e3⟩)) (fun _ s6 h6=>?_) fun _ _ z=>z.elim
      obtain ⟨σ6,H6,I6,e6,ws',hw1,hw2,eσ,hvs⟩:=h6
      subst e6 eσ
      have g6:=LP (XO:=XO) (ids:=ids) g ((sm2.trans sm3).trans sm5) (hw1.trans hw2.symm) hvs
      have hitl:its.length≤i:=by rw [← rv.length,rd.length];exact hdl
      split at hgo3
      case h_1 lt hft=>
        split at hgo3
        case h_2=>cases hgo3
        rename_i l' x' hfx
        split at hgo3
        case isFalse=>cases hgo3
        rename_i hlf
        cases hgo4:yd tf ft f (ids.map fun i=>bo ρ[i]?) (ds.drop (i+1)) with
        | none=>rw [hgo4] at hgo3;cases hgo3
        | some rest4=>
        rw [hgo4] at hgo3
        cases hgo3
        refine wpAny_mono (ht cl Ca s2 H2 fp hB _ s6 _ H6 (fun b H'=>b=true∧Same H6 H') I6 ⟨H6,H6,_,.ok lt (.bool true),g6,hft,⟨fun l'' d'' v H' z sm rp=>?_,fun c H' z=>(nomatch z)⟩⟩) (fun ok sT hTs=>?_) fun _ _ z=>z.elim
        · cases z
          exact ⟨true,rp,rfl,sm⟩
        obtain ⟨HT,IT,rfl,smT⟩:=hTs
        rw [if_pos rfl]
        have gT:=g6.same smT
        refine wpAny_mono (he cl Ca s2 H2 fp hB _ sT _ HT (fun v H'=>Same HT H'∧Rep (fun _ _=>False) H' x' v) IT ⟨H6,H6,_,.ok l' x',gT,hfx,⟨fun l'' d'' v H' z sm rp=>?_,fun c H' z=>(nomatch z)⟩⟩) (fun xv s7 h7=>?_) fun _ _ z=>z.elim
        · cases z
          exact ⟨sm,rp.nl hlf⟩
        obtain ⟨v7,H7,I7,r7,sm7,rp7⟩:=h7
        obtain ⟨hD7,nD7,_⟩:=I7.pin (Da,({cls:=.type "list",data:=.seq its.toArray nn}:Obj)) (List.mem_append_right _ (List.mem_append_left _ (List.mem_singleton.mpr rfl)))
        refine wpAny_list_append_plain (items:=its.toArray) ⟨nn,hD7⟩ (fun h8 hp8 sb8=>?_) (by rw [List.size_toArray];exact Nat.le_trans hitl (Nat.le_trans (Nat.le_of_lt hlt) (ut hbig)))
        obtain ⟨n8,hD8⟩:=hp8
        have I8:Inv (cxC X scope (ys++fr) cl Ca s2 H2 fp) [] _ H7 {s7 with heap:=h8}:=(I7.pins_of (pins':=[]) fun p hp=>(nomatch hp)).turned (t':=s7.toks) (it:=Da) (fun b o hb q=>(sb8.2 b hb).trans q) nD7 hDC (.inr (Nat.le_of_eq hDa)) hDcell fun p hp=>(nomatch hp)
        refine ⟨ds.length - (i+1),by omega,i+1,H7,ws',its++[xv],n8,dv++[v7],done++[x'],rest4,I8,hw1,T.keep _ _ _ st5 fun b hb o q=>?_,fun b hb=>?_,?_,nD7,((sm3.trans sm5).trans smT).trans sm7,rv.append (.cons r7 .nil),?_,hgo4,by rw [hxs];simp,by simp;omega,hlt,rfl⟩
        · have:=(I7.pin (b,o) (List.mem_append_right _ (List.mem_append_right _ (gu hb q)))).1
          exact (sb8.2 b fun z=>hDf (z ▸ hb)).trans this
        · obtain ⟨o,q,_⟩:=ho5 b hb
          exact (I7.pin (b,o) (List.mem_append_right _ (List.mem_append_right _ (gu hb q)))).2.1
        · rw [hD8];simp
        · exact Reps.append (((rd.same sm5).same smT).same sm7) (Reps.one rp7)
      case h_2 lt hft=>
        refine wpAny_mono (ht cl Ca s2 H2 fp hB _ s6 _ H6 (fun b H'=>b=false∧Same H6 H') I6 ⟨H6,H6,_,.ok lt (.bool false),g6,hft,⟨fun l'' d'' v H' z sm rp=>?_,fun c H' z=>(nomatch z)⟩⟩) (fun ok sT hTs=>?_) fun _ _ z=>z.elim
        · cases z
          exact ⟨false,rp,rfl,sm⟩
        obtain ⟨HT,IT,rfl,smT⟩:=hTs
        rw [if_neg (by decide)]
        obtain ⟨hD7,nD7,_⟩:=IT.pin (Da,({cls:=.type "list",data:=.seq its.toArray nn}:Obj)) (List.mem_append_right _ (List.mem_append_left _ (List.mem_singleton.mpr rfl)))
        refine ⟨ds.length - (i+1),by omega,i+1,HT,ws',its,nn,dv,done,rest,IT.pins_of (pins':=[]) fun p hp=>(nomatch hp),hw1,T.keep _ _ _ st5 fun b hb o q=>?_,fun b hb=>?_,hD7,nD7,(sm3.trans sm5).trans smT,rv,(rd.same sm5).same smT,hgo3,hxs,by omega,hlt,rfl⟩
        · exact (IT.pin (b,o) (List.mem_append_right _ (List.mem_append_right _ (gu hb q)))).1
        · obtain ⟨o,q,_⟩:=ho5 b hb
          exact (IT.pin (b,o) (List.mem_append_right _ (List.mem_append_right _ (gu hb q)))).2.1
      case h_3=>cases hgo3
  exact codeAny_compStart_list loop (T.self X.A 0 _ _ _ (T.keep _ _ _ st2 fun b hb o q=>old b o q) loop)
theorem Ce(f:FE)(env:Rho):∀ ds:List PyData,ny f env ds=yd tc1 (eC (.bool true)) f env ds
  | []=>rfl
  | d::ds=>by
    rw [ny,yd,Ce f env ds]
    rfl
theorem FV(fi:FI)(ids:List Nat)(f:FE):BQ fi ids f=ge fi ids tc1 (eC (.bool true)) f:=by
  funext ρ
  unfold BQ ge
  simp only [Ce]
  try rfl
theorem NY{y:Str}{yp:Pos}(C:BC X)(hr:Room k X.A)(hc:X.calm=true)(hi:PI X (.Name y yp) iter (tI XO fi))
    (he:∀ cl Ca s2 H2 fp,BodyC XO.cv k (cxC X scope ([y]++fr) cl Ca s2 H2 fp)→PE (cxC X scope ([y]++fr) cl Ca s2 H2 fp) elt (tF ⟨XO.cv,fun _ _ _=>False⟩ f))
    (nd:(y::fr).Nodup:=by decide +kernel) (hkind:scope.kind= .function:=by rfl) (hcell:∀ z∈scope.names,z.2≠.cell:=by decide +kernel) (hnames:∀ z∈scope.names,z.2= .local→scope.names.lookup z.1=some .local:=by decide +kernel)
    (hy:scope.names.lookup y=some .local:=by rfl) (hids:ids.map (fun i=>X.N[i]?)=fr.map some:=by rfl)
    (hfr:∀ n∈fr,scope.names.lookup n=some .free∧X.env.scope.names.lookup n=some .cell:=by first | (dsimp only [i3,envOfC,Cx.tr,Cx.hn,cxC,compEnvC];decide +kernel) | decide +kernel) (hall:∀ z∈scope.names,z.2= .free→X.env.scope.names.lookup z.1=some .cell:=by first | (dsimp only [i3,envOfC,Cx.tr,Cx.hn,cxC,compEnvC];decide +kernel) | decide +kernel)
    (hs:∀ x,foldedSetIterable iter X.env x=pure x:=by intro _;rfl):PE X (.ListComp elt [⟨.Name y yp,iter,[],0⟩] scope pos) (tF XO (BQ fi ids f)):=by
  rw [FV]
  exact Dv (ys:=[y]) C hr hc hi (G3 nd hy) (fun _ _ _ _ _ _=>Lv) he hkind hcell hnames hids hfr hall hs
end
section
variable{X:Cx}{XO:XOF}{cv:Cfg}{e:Expr}{f fa fb fc:FE}{st:Stmt}{rest sa sb body:List Stmt}{a b:FS}{pos p tpos:Pos}{tg iter:Expr}{fi:FI}{tf:FT}{elts:List Expr}{k1:Nat}
theorem Je(i j:Nat){x y:Str}{xp yp:Pos}(hc:X.calm=true)(hN:X.N.Nodup)(hi:X.N[i]? =some x:=by rfl)(hx:Loc X.env.scope x:=by first | exact Or.inl rfl | exact Or.inr rfl)
    (hf:X.fn x=true∨X.env.scope.names.lookup x=some .local:=by first | exact .inl rfl | exact .inr rfl | assumption) (hin:Nat.blt i cv.n=true:=by rfl)
    (hj:X.N[j]? =some y:=by rfl) (hy:Loc X.env.scope y:=by first | exact Or.inl rfl | exact Or.inr rfl)
    (hfy:X.fn y=true∨X.env.scope.names.lookup y=some .local:=by first | exact .inl rfl | exact .inr rfl | assumption) (hjn:Nat.blt j cv.n=true:=by rfl):Tg X cv (.Tuple [.Name x xp,.Name y yp] k1 pos) (xw i j):=
  ⟨Ny X.K 2 (Dx (rh i) (Dx (rh j) gNil)),Km hc (mo (ef hN hi hx hf) (mo (ef hN hj hy hfy) Gs)),fun H₀ F ρ ρ1 σ H d x Q s r e q=>by
    unfold xw at e
    split at e
    · cases e
      obtain ⟨p,vs,rfl,hp,rs⟩:=r
      obtain ⟨v1,vr,rfl,r1,rs⟩:=rs
      obtain ⟨v2,vr,rfl,r2,rs⟩:=rs
      have rs:vr=[]:=rs
      subst rs
      exact ⟨p,_,rfl,.inl hp,rfl,v1,_,rfl,v2,_,rfl,rfl,q _ ((s.putLoc hin r1).putLoc hjn r2)⟩
    · cases e⟩
end
end KT
namespace KT
open PySem PyProof.Rows
section
open PySem.SeqAt
open PySem.AutoSeq1 (wpAny_loadPart')
open PySem.MeetsSeq PySem.MeetsSeq2 PySem.MeetsSeq3
end
open PySem.Spec L2
end KT
namespace KT
open PySem PySem.Spec PyProof.Rows L2
theorem am:∀ xs ys:List Int,xa xs ys=HT.lexLt xs ys
  | [],[]=>rfl
  | [],_::_=>rfl
  | _::_,[]=>rfl
  | x::xs,y::ys=>by rw [HT.lexLt_cons,← am xs ys];rfl
theorem dy{P:PP}{H:Hp}:∀ {ds:List PyData} {ns:List Int} {vs:List V},w4 ds=some ns→Reps P H ds vs→vs=ns.map V.int
  | [],ns,vs,e,r=>by cases e;exact r
  | d::ds,ns,vs,e,r=>by
    unfold w4 at e
    split at e
    · rename_i h;cases h
    · rename_i i ds' hh
      cases hh
      cases hx:w4 ds with
      | none=>rw [hx] at e;cases e
      | some ms=>
        rw [hx] at e
        cases e
        obtain ⟨v,ws,rfl,rv,rs⟩:=r
        rw [dy hx rs,show v=V.int i from rv]
        rfl
    · cases e
section
variable{X:Cx}{XO:XOF}{cv:Cfg}{e:Expr}{f:FE}{tg:Expr}{tf:FT}{pos:Pos}
theorem Js(ht:Tg X cv tg tf)(h:PE X e (tF ⟨cv.cv,XO⟩ f))(hs:swapsWithSole [tg] e pos.line X.env=pure false:=by rfl)(hw:swappedStores [tg] e X.env=pure none:=by rfl)(h1:(assignEach [tg] X.env).map (·.2)=[assign tg X.env]:=by rfl):PS X (.Assign [tg] e pos) (tS cv XO (nh tf f)):=by
  obtain ⟨gt,hg,hd⟩:=ht.ex
  refine PS.imp (Oc h hg hs hw h1) fun D σ H ⟨H₀,F,ρ,r,g,e',k⟩=>?_
  refine xh g e' k fun l d v H1 s1 r1 e1=>?_
  split at e1
  · rename_i hlf
    cases htf:tf d ρ with
    | none=>rw [htf] at e1;cases e1
    | some ρ1=>
      rw [htf] at e1
      cases e1
      exact hd H₀ F ρ ρ1 σ H1 d v _ (g.same s1) (r1.nl hlf) htf fun σ1 s2=>k σ1 H1 s2
  · cases e1
end
def Itd(lo:Int)(n:Nat):It:=⟨fun i _=>i < n,fun i H x H'=>H'=H∧x= .int (lo - i),fun i _=>n≤i⟩
theorem HJ{P:Program}{w:World}{K:PySem.W.Frag}{tg:Expr}(it:Addr)(lo:Int)(n:Nat):Turn P w K tg (Itd lo n) [it] it (fun i h=>IsRangeIter h it (lo+(i:Nat) * (-1)) ((n:Int) - (i:Nat)) (-1)) where
  mem:=by simp
  obj:=fun i h st b hb=>by
    have e:b=it:=by simpa using hb
    subst e
    exact ⟨_,st,fun v z=>by
      have z':Data.fields _=Data.cell v:=z
      cases z'⟩
  keep:=fun i h h' st k=>k it (by simp) _ st
  item:=by
    intro X hP hw hK hc i pins s σ H E I hf st hg
    subst hP hw hK
    obtain ⟨f0,f1,f2,f3,f4,f5⟩:=hf it (by simp)
    have W:=Walks.range (prog:=X.prog) (w:=X.w) (I.ok.hd hc) it lo (-1) n
    refine W.item i s _ _ hg st fun v h' tk hv st' kk=>?_
    obtain ⟨t,rfl⟩:=hv
    have I1:Inv X pins σ H {s with heap:=h',toks:=tk}:=I.turned (fun b o hb e=>kk b o (by simpa using hb) e) f0 f1 f3 f4 f5
    refine ⟨_,rfl,Hg (s:={s with heap:=h',toks:=tk}) (n:="range_iterator") st' rfl rfl (by decide) ⟨.int (lo - i),H,I1,⟨t,?_⟩,⟨rfl,rfl⟩,st',fun b hb=>(hf b hb).1⟩⟩
    congr 1
    omega
  done:=by
    intro X hP hw hK hc i pins s σ H E I hf st hg
    subst hP hw hK
    obtain ⟨f0,f1,f2,f3,f4,f5⟩:=hf it (by simp)
    exact wpAny_pyNext_range_end (I.ok.hd hc) st (by have:n≤i:=hg;omega) fun h' eb=>⟨rfl,I.turned (t':=s.toks) (fun b o hb e=>eb b o hb e) f0 f1 f3 f4 f5⟩
  self:=fun _ _ _ _ _ st h=>wpAny_pyIter_rangeiter st h
section
variable{X:Cx}{tg:Expr}
theorem LR{pins:List (Addr×Obj)}{σ:L2.St}{H:Hp}{s:Shared}{R:It→Hp→Prop}{E:Value→Shared→Prop}{lo hi:Int}{t u v:Tok}{tk:Nat}(I:Inv X pins σ H s)(h1:-(2 ^ 62)≤lo)(h2:lo < 2 ^ 62)(h3:-(2 ^ 62)≤hi)(h4:hi < 2 ^ 62)
    (q:R (Itd lo (lo - hi).toNat) H):wpAny (model X.prog X.w) X.A (pyIter (.ref s.heap.objs.size)) (PIE X pins σ tg R) E {s with heap:=s.heap.push {cls:=.type "range",data:=.fields #[.int lo t,.int hi u,.int (-1) v]},toks:=tk}:=by
  refine wpAny_pyIter_range (IsRange.new ..) (PySem.W.small_down h1 h2 h3 h4) ?_
  have I1:Inv X pins σ H {s with heap:=s.heap.push {cls:=.type "range",data:=.fields #[.int lo t,.int hi u,.int (-1) v]},toks:=tk}:=I.kept fun b o e=>Heap.get?_push_of_some _ e
  refine ⟨(s.heap.push {cls:=.type "range",data:=.fields #[.int lo t,.int hi u,.int (-1) v]}).objs.size,[(s.heap.push {cls:=.type "range",data:=.fields #[.int lo t,.int hi u,.int (-1) v]}).objs.size],_,_,H,rfl,
    I1.kept (t':=tk) fun b o e=>Heap.get?_push_of_some _ e,HJ _ lo (lo - hi).toNat,?_,fun b hb=>?_,q⟩
  · have e1:lo+((0:Nat):Int) * (-1)=lo:=by simp
    have e2:(((lo - hi).toNat:Nat):Int) - ((0:Nat):Int)=Builtin.Range.rangeSize lo hi (-1):=by rw [PySem.W.rangeSize_downNat];omega
    show IsRangeIter _ _ (lo+((0:Nat):Int) * (-1)) ((((lo - hi).toNat:Nat):Int) - ((0:Nat):Int)) (-1)
    rw [e1,e2]
    exact Heap.get?_push_size _ rfl
  · have e:b=(s.heap.push {cls:=.type "range",data:=.fields #[.int lo t,.int hi u,.int (-1) v]}).objs.size:=by simpa using hb
    subst e
    exact I1.fpOk (Nat.le_refl _) (I1.hok.fresh (Nat.le_refl _))
def OX(ta:TA):TI:=fun σ H R=>ta σ H fun vs H1=>∃ i j:Int,vs=[.int i,.int j,.int (-1)]∧(-(2 ^ 60)≤i∧i < 2 ^ 60∧-(2 ^ 60)≤j∧j < 2 ^ 60)∧R (Itd i (i - j).toNat) H1
theorem LO{a b c:Expr}{ta:TA}{p pos:Pos}(hg:Gl X "range")(hm:X.mg "range" =none)(ha:PA X [a,b,c] ta)(hs:starEach [a,b,c] X.env=(false,eval a X.env)::starEach [b,c] X.env)(hpl:(backTo pos (starEach [b,c] X.env)).any (·.1)=false):
    PI X tg (.Call (.Name "range" p) [a,b,c] [] pos) (OX ta):=by
  intro pins s σ H R I h
  refine Call_ (Bb I hg hm boot_range (PyProof.Rows.callWith_type1 (thn (ha pos pins s σ H _ I h) fun us s1 ⟨vs,H1,I1,r1,q1⟩=>?_) hs hpl))
  obtain ⟨i,j,e,⟨q1,q2,q3,q4⟩,q⟩:=q1
  subst e
  cases r1 with
  | cons r rr=>
    cases rr with
    | cons r' rr=>
      cases rr with
      | cons r'' rr=>
        cases rr
        obtain ⟨t,rfl⟩:=r
        obtain ⟨t',rfl⟩:=r'
        obtain ⟨t'',rfl⟩:=r''
        exact call_range_3 (by decide) (LR I1 (by omega) (by omega) (by omega) (by omega) q) (.inl (PyProof.noPylong_small (by omega)))
end
section
variable{X:Cx}{XO:XOT}{tg e e2 e3:Expr}{f f2 f3:FE}{pos p p1 p2 p3 p4:Pos}
theorem EC{Z:Hp}{n:Nat}:cz Z (Itd ((n:Int) - 1) n) (vy n):=fun H2 s i=>by
  refine ⟨fun d hd=>?_,fun hi=>?_⟩
  · unfold vy at hd
    rw [List.getElem?_map] at hd
    cases hr:(List.range n)[i]? with
    | none=>rw [hr] at hd;cases hd
    | some k=>
      rw [hr] at hd
      cases hd
      obtain ⟨hlt,hk⟩:=List.getElem?_eq_some_iff.mp hr
      rw [List.length_range] at hlt
      rw [List.getElem_range] at hk
      subst hk
      refine ⟨hlt,fun x H3 y=>?_⟩
      obtain ⟨e,y⟩:=y
      subst e y
      exact ⟨Same.refl _,rfl⟩
  · show n≤i
    rw [hi]
    simp [vy]
theorem Nx(C:BC X){j1 j2:Nat}(h:PE X e (tF XO f))(hg:Gl X "range":=by rfl)
    (hs:starEach [e,.UnaryOp .USub (.Constant (.int 1) j1 p1) p2,.UnaryOp .USub (.Constant (.int 1) j2 p3) p4] X.env=(false,eval e X.env)::starEach [.UnaryOp .USub (.Constant (.int 1) j1 p1) p2,.UnaryOp .USub (.Constant (.int 1) j2 p3) p4] X.env:=by exact q0 rfl)
    (hpl:(backTo pos (starEach [.UnaryOp .USub (.Constant (.int 1) j1 p1) p2,.UnaryOp .USub (.Constant (.int 1) j2 p3) p4] X.env)).any (·.1)=false:=by exact w6 rfl):
    PI X tg (.Call (.Name "range" p) [e,.UnaryOp .USub (.Constant (.int 1) j1 p1) p2,.UnaryOp .USub (.Constant (.int 1) j2 p3) p4] [] pos) (tI XO (Ay f)):=
  PI.imp (LO hg C.mrange (zb h (zb (Mz zg) (zb (Mz zg) (zh (XO:=XO)) (q0 rfl)) (q0 rfl)) hs) hs hpl) fun σ H R ⟨H₀,Hs,ρ,r,g,e,k,kx⟩=>by
    unfold Ay at e
    split at e
    · rename_i l a hf
      split at e
      · rename_i hn
        cases e
        have hb:big < 2 ^ 40:=by decide
        refine ⟨H₀,Hs,ρ,.ok (min l (min 2 (min 2 2))) [.int a,.int (-1),.int (-1)],g,by simp [zo,hf,Pi,e1,eC,zk,Lu],fun l' ds vs H1 e' s1 r1=>?_,fun c H' e=>(nomatch e)⟩
        cases e'
        obtain ⟨v1,vr,rfl,q1,r1⟩:=r1
        obtain ⟨v2,vr,rfl,q2,r1⟩:=r1
        obtain ⟨v3,vr,rfl,q3,r1⟩:=r1
        have r1:vr=[]:=r1
        subst r1
        refine ⟨a,-1,by rw [show v1=V.int a from q1,show v2=V.int (-1) from q2,show v3=V.int (-1) from q3],by omega,?_⟩
        refine k 2 _ _ H1 rfl s1 fun Z _ _=>?_
        rw [show (a - -1).toNat=(a+1).toNat by omega]
        by_cases ha:0≤a+1
        · have e1:a=(((a+1).toNat:Nat):Int) - 1:=by omega
          have:=EC (Z:=Z) (n:=(a+1).toNat)
          rw [← e1] at this
          exact this
        · have e0:(a+1).toNat=0:=by omega
          rw [e0]
          exact fun H2 s i=>⟨fun d hd=>by simp [vy] at hd,fun _=>Nat.zero_le _⟩
      · cases e
    · rename_i c hf
      cases e
      exact ⟨H₀,Hs,ρ,.exc c,g,by simp [zo,hf],fun l' ds vs H1 e'=>(nomatch e'),fun c' H' e' s=>kx c' H' (by cases e';rfl) s⟩
    · cases e
structure KTup(K:PySem.W.Frag)(mg:Str→Option Value)(x:Str)(d:PyData):Prop where
  ex:∃ (a:Addr) (ds:List PyData) (vs:List V),d= .tuple ds∧mg x=some (.ref a)∧(∀ H:Hp,SqT K H a vs)∧∀ (P:PP) (H:Hp),Reps P H ds vs
end
structure FunT(K:PySem.W.Frag)(mg:Str→Option Value)(x:Str)(st:Stmt)(ps:List Str):Prop where
  ex:∃ f fd,Fun K x x st f fd∧mg x=some (.ref f)∧Binds K fd ps []∧∀ (s:Shared) (us:List Value),us.length=ps.length→BindsTo s fd ⟨us,[]⟩ (ps.zip us)
section
variable{P:Program}{w:World}{K:PySem.W.Frag}{mg:Str→Option Value}{base:Heap}{cv:Nat→Value}{CX:CXT}{n ar:Nat}{x:Str}{st:Stmt}{ps:List Str}{g:FC}
theorem ul(F:FunT K mg x st ps):FnF CX P w K mg base cv 0 x ar (fun _=>none):=by
  obtain ⟨f,fd,F,hm,hb,_⟩:=F.ex
  have no:∀ vs H Q E,¬ spD cv ar (fun _=>none) vs H Q E:=fun vs H Q E h=>by
    obtain ⟨ds,r,_,_,z,_⟩:=h
    cases z
  exact ⟨f,fd,ps,⟨fun vs H Q E h=>absurd h (no vs H Q E),fun A outer s H args us vs Q E _ _ _ _ h=>absurd h (no vs H Q E)⟩,hm,F.kp,hb⟩
theorem um(F:FunT K mg x st ps)(ok:∀ f fd,Fun K x x st f fd→FnOk P w K mg base CX n f fd ps (spD cv ar g)):FnF CX P w K mg base cv n x ar g:=by
  obtain ⟨f,fd,F,hm,hb,_⟩:=F.ex
  exact ⟨f,fd,ps,ok f fd F,hm,F.kp,hb⟩
theorem KF{h:Heap}{f:Addr}{oc:Value}{od an:Option Addr}{osl:Array (Option Value)}{kV doc pm cdv ct:Value}(X:K.In h)(G:h.Ns mainGlobals mg)(a:PySem.W.nsIn K mainGlobals x=some (some (.ref f)))
    (l:K.lookup f=some ⟨oc,od,.func (PySem.W.fnOf x x (kh st) (vb st) (zq st) .none kV doc pm an cdv ct),osl⟩) (c:PySem.W.codeIn K cdv x=true) (k:PySem.W.keepIn K (.ref f)=true)
    (hb:∀ (kV doc pm:Value) (an:Option Addr) (cdv ct:Value) (us:List Value),us.length=ps.length→bindArgs (PySem.W.fnOf x x (kh st) (vb st) (zq st) .none kV doc pm an cdv ct) ⟨us,[]⟩=pure (ps.zip us)):FunT K mg x st ps:=
  have F:=NQ (st:=st) l c k
  ⟨f,_,F,PySem.W.mg_of X G a,F.binds hb,fun s us hl=>.of_eq (hb kV doc pm an cdv ct us hl)⟩
end
theorem OB{us:List Value}(h:us.length=1):∃ a,us=[a]:=List.length_eq_one_iff.mp h
theorem OW{us:List Value}(h:us.length=2):∃ a b,us=[a,b]:=by
  cases us with
  | nil=>cases h
  | cons a r=>obtain ⟨b,rfl⟩:=OB (by simpa using h);exact ⟨a,b,rfl⟩
theorem O4{us:List Value}(h:us.length=3):∃ a b c,us=[a,b,c]:=by
  cases us with
  | nil=>cases h
  | cons a r=>obtain ⟨b,c,rfl⟩:=OW (by simpa using h);exact ⟨a,b,c,rfl⟩
theorem PB{us:List Value}(h:us.length=4):∃ a b c d,us=[a,b,c,d]:=by
  cases us with
  | nil=>cases h
  | cons a r=>obtain ⟨b,c,d,rfl⟩:=O4 (by simpa using h);exact ⟨a,b,c,d,rfl⟩
def np(K:PySem.W.Frag):Bool:=K.all fun p=>p.2.cls != .type "list"
theorem E4:∀ {K:PySem.W.Frag} {a:Addr} {o:Obj},K.lookup a=some o→(a,o)∈K
  | [],_,_,e=>by cases e
  | (b,u)::r,a,o,e=>by
    rw [List.lookup_cons] at e
    by_cases z:(a == b)=true
    · rw [z] at e
      cases e
      have:a=b:=by simpa using z
      subst this
      exact List.mem_cons_self
    · have z:(a == b)=false:=by simpa using z
      rw [z] at e
      exact List.mem_cons_of_mem _ (E4 e)
theorem Fe{K:PySem.W.Frag}(h:np K=true){a:Addr}{o:Obj}(e:K.lookup a=some o):o.cls≠.type "list":=by
  unfold np at h
  rw [List.all_eq_true] at h
  have:=h (a,o) (E4 e)
  simpa using this
theorem BK{P:PP}{H:Hp}:∀ ns:List Int,Reps P H (ns.map .int) (ns.map V.int)
  | []=>rfl
  | n::r=>⟨.int n,_,rfl,rfl,BK r⟩
theorem Gf{K:PySem.W.Frag}{H:Hp}{a:Addr}{ns:List Int}(hk:np K=true)(h:SqL K H a (ns.map V.int)):Rep (fun _ _=>True) H (.list (ns.map .int)) (.ref a):=by
  rcases h with h | ⟨o,its,n,hl,hc,_⟩
  · exact ⟨a,_,rfl,h.elim (fun z=>.inl ⟨trivial,z⟩) fun z=>.inr ⟨trivial,z⟩,BK ns⟩
  · exact absurd hc (Fe hk hl)
def NO:Nat→Str
  | 1=>"NotRead"
  | 2=>"NoTurning"
  | 3=>"NoNumber"
  | 4=>"NoThing"
  | 5=>"Unlike"
  | _=>"KindError"
def gv(K:PySem.W.Frag)(x:Str):Option Value:=match PySem.W.nsIn K mainGlobals x with
  | some (some v)=>some v
  | _=>none
def L3(K:PySem.W.Frag)(c:Nat):Value:=match gv K (NO c) with
  | some v=>v
  | none=>(gv K "KindError").getD .none
section
variable{K:PySem.W.Frag}{h:Heap}{mg:Str→Option Value}{x:Str}{sub:Nat→Bool}
theorem OU(X:K.In h)(G:h.Ns mainGlobals mg)(hb:(["len","int","bool","str","tuple","list","isinstance","range","enumerate","zip","reversed"]:List Str).all (fun x=>PySem.W.nsIn K mainGlobals x == some none)=true):MF mg:=by
  simp only [List.all_cons,List.all_nil,Bool.and_true,Bool.and_eq_true,beq_iff_eq] at hb
  obtain ⟨a,b,c,d,e,f,g,i,j,k,l⟩:=hb
  exact ⟨PySem.W.mg_none_of X G a,PySem.W.mg_none_of X G b,PySem.W.mg_none_of X G c,PySem.W.mg_none_of X G d,PySem.W.mg_none_of X G e,PySem.W.mg_none_of X G f,PySem.W.mg_none_of X G g,PySem.W.mg_none_of X G i,PySem.W.mg_none_of X G j,PySem.W.mg_none_of X G k,PySem.W.mg_none_of X G l⟩
end
theorem IR{P:Program}{w:World}{H:Hp}{s:Shared}{e:Value}{s':Shared}(h:CX1 P w [] H s (fun _ _ _=>False) e s'):False:=by
  obtain ⟨_,_,_,_,_,_,_,_,_,z⟩:=h
  exact z
theorem MV{K:PySem.W.Frag}{cv:Nat→Value}{g:FC}{H:Hp}{a:Addr}{ns:List Int}(hk:np K=true)(hg:g [.list (ns.map .int)]=some (.ok (.bool true)))(h:SqL K H a (ns.map V.int)):spD cv 1 g [.ref a] H (fun v _=>v= .bl true) fun _ _ _=>False:=
  ⟨[.list (ns.map .int)],_,rfl,⟨.ref a,[],rfl,Gf hk h,rfl⟩,hg,fun d v H' e _ r=>by cases e;exact r,fun c H' e=>(nomatch e)⟩
theorem Pp{l:PySem.W.OpenLaw}{q:Program}{loose:List Str}{XP:(Str→Option Value)→Heap→Prop}{YP:World→Heap→Prop}{d:DefRec}{K:Params→PySem.W.Frag}{g:FC}{N:Nat}{st:Stmt}(hn:l.most=some 63)(hdf:d.params.defaults=[])(hr:Room N callerA)
    (hY:∀ (w:World) (h:Heap),YP w h→(K w.params).In h) (hd:d.name= "law")
    (F:∀ (w:World) (mg:Str→Option Value) (h:Heap),(K w.params).In h→h.Ns mainGlobals mg→FunT (K w.params) mg "law" st ["script"]∧
      ∀ f fd,Fun (K w.params) "law" "law" st f fd→∀ base:Heap,FnOk l.prog w (K w.params) mg base (CX1 l.prog w) N f fd ["script"] (spD (L3 (K w.params)) 1 g))
    (hL:∀ w:World,np (K w.params)=true) (hg:∀ ns:List Int,ns.length≤63→g [.list (ns.map .int)]=some (.ok (.bool true))):
    PySem.W.WalkO q loose XP YP l.row.toRowW d [] (fun f vs=>PySem.call f vs):=
  L2.KN (n:=63) (k:=N) (x:="script") (CX:=fun w=>CX1 l.prog w) (sp:=fun w=>spD (L3 (K w.params)) 1 g) hn (by decide) hdf hr hY (fun w mg fa h KX G hm=>by
    obtain ⟨T,ok⟩:=F w mg h KX G
    obtain ⟨f,fd,FF,hmf,_,hb⟩:=T.ex
    rw [hd,hmf] at hm
    cases hm
    exact ⟨fd,fun s u=>hb s [u] rfl,fun base _ _=>ok _ fd FF base⟩) (fun w H a ns hl _ hS=>MV (hL w) (hg ns hl) hS) fun w H s e s' z=>IR z
def scB:PyData→Value→Bool
  | .int i,.int j _=>i == j
  | .str x,.str y _=>x == y
  | _,_=>false
def GV:List PyData→List Value→Bool
  | [],[]=>true
  | d::ds,u::us=>scB d u && GV ds us
  | _,_=>false
def scV:PyData→V
  | .int i=>.int i
  | .str x=>.str x
  | _=>.non
theorem Nh{d:PyData}{u:Value}(h:scB d u=true):RelV (scV d) u∧∀ (P:PP) (H:Hp),Rep P H d (scV d):=by
  unfold scB at h
  split at h
  · rename_i i j t
    have e:i=j:=by simpa using h
    subst e
    exact ⟨⟨t,rfl⟩,fun _ _=>rfl⟩
  · rename_i x y t
    have e:x=y:=by simpa using h
    subst e
    exact ⟨⟨t,rfl⟩,fun _ _=>rfl⟩
  · cases h
theorem Ki:∀ {ds:List PyData} {us:List Value},GV ds us=true→Vals (ds.map scV) us∧∀ (P:PP) (H:Hp),Reps P H ds (ds.map scV)
  | [],[],_=>⟨.nil,fun _ _=>rfl⟩
  | d::ds,u::us,h=>by
    simp only [GV,Bool.and_eq_true] at h
    obtain ⟨r1,p1⟩:=Nh h.1
    obtain ⟨r2,p2⟩:=Ki h.2
    exact ⟨.cons r1 r2,fun P H=>⟨_,_,rfl,p1 P H,p2 P H⟩⟩
  | [],_::_,h=>by cases h
  | _::_,[],h=>by cases h
def J1(K:PySem.W.Frag)(x:Str)(d:PyData):Bool:=match d,PySem.W.nsIn K mainGlobals x with
  | .tuple ds,some (some (.ref a))=>(match K.lookup a with
    | some ⟨.type c,_,.seq its _,_⟩=>(c == "tuple") && decide (its.size≤1000) && GV ds its.toList
    | _=>false)
  | _,_=>false
theorem Lw{K:PySem.W.Frag}{mg:Str→Option Value}{h:Heap}{x:Str}{d:PyData}(X:K.In h)(G:h.Ns mainGlobals mg)(z:J1 K x d=true):KTup K mg x d:=by
  unfold J1 at z
  split at z
  · rename_i ds a hn
    split at z
    · rename_i c od its n sl hl
      simp only [Bool.and_eq_true,beq_iff_eq,decide_eq_true_eq] at z
      obtain ⟨⟨rfl,hz⟩,hs⟩:=z
      obtain ⟨r,p⟩:=Ki hs
      exact ⟨a,ds,_,rfl,PySem.W.mg_of X G hn,fun H=>.inr ⟨_,its,n,hl,rfl,rfl,Nat.le_trans hz (by decide),r⟩,p⟩
    · cases z
  · cases z
end KT
namespace KT
open PySem PySem.W PyProof.Rows
noncomputable def ev{α:Type}(lt:Nat→Nat→Bool):KasT α→α
  | .ret a=>a
  | .ask i j k=>ev lt (k (lt i j))
theorem dz{α β:Type}(lt:Nat→Nat→Bool)(f:α→KasT β):∀ t:KasT α,ev lt (t.bind f)=ev lt (f (ev lt t))
  | .ret _=>rfl
  | .ask i j k=>dz lt f (k (lt i j))
section
variable{O:KeyOrd}(κ:Nat→O.α)
noncomputable def Ky(p:Array Nat)(i:Nat):O.α:=κ (p.getD i 0)
noncomputable def lto(i j:Nat):Bool:=O.blt (κ i) (κ j)
def cc(p:Array Nat)(k:Nat):Prop:=∀ i j,i≤j→j < k→O.kle (Ky κ p i) (Ky κ p j)
def F2(p:Array Nat)(k:Nat):Prop:=∀ i j,i≤j→j < k→O.kle (Ky κ p j) (Ky κ p i)
variable{κ}
theorem di{p q:Array Nat}{i j:Nat}(h:p[i]? =q[j]?):Ky κ p i=Ky κ q j:=by
  have:p.getD i 0=q.getD j 0:=by
    rw [Array.getD_eq_getD_getElem?,Array.getD_eq_getD_getElem?,h]
  unfold Ky;rw [this]
theorem Cc{p:Array Nat}{src d:Nat}(hs:src < p.size)(hd:d≤src)(k:Nat):Ky κ (bubble p src d) k=if k=src - d then Ky κ p src else if src - d < k∧k≤src then Ky κ p (k - 1) else Ky κ p k:=by
  have e:=getElem?_bubble hs d hd k
  split
  · rename_i h;rw [if_pos h] at e;exact di e
  · rename_i h
    rw [if_neg h] at e
    split
    · rename_i h2;rw [if_pos h2] at e;exact di e
    · rename_i h2;rw [if_neg h2] at e;exact di e
theorem C4{p:Array Nat}{i j:Nat}(hj:j≤p.size)(k:Nat):Ky κ (kas_rev p i j) k=if i≤k∧k < j then Ky κ p (i+j - 1 - k) else Ky κ p k:=by
  have e:=getElem?_mirror_all (i:=i) hj k
  unfold kas_rev
  split
  · rename_i h;rw [if_pos h] at e;exact di e
  · rename_i h;rw [if_neg h] at e;exact di e
theorem Aj{p:Array Nat}{i j:Nat}(hj:j≤p.size)(he:∀ k,i≤k→k < j→Ky κ p k=Ky κ p (j - 1))(k:Nat):Ky κ (kas_rev p i j) k=Ky κ p k:=by
  rw [C4 hj]
  split
  · rename_i h;rw [he k h.1 h.2,he (i+j - 1 - k) (by omega) (by omega)]
  · rfl
theorem ur(p:Array Nat)(i j:Nat):(kas_rev p i j).size=p.size:=mirror_size _ _ _ _
theorem mq(p:Array Nat)(i j:Nat):(kas_rev p i j).Perm p:=mirror_perm _ _ _ _
theorem e9{a b:O.α}(h:O.blt a b=false):O.kle b a:=h
theorem uq{a b:O.α}(h:O.blt a b=true):O.kle a b:=KeyOrd.kle_of_klt h
theorem Kp(p:Array Nat):cc κ p 1:=fun i j h1 h2=>by
  have:i=j:=by omega
  subst this;exact KeyOrd.kle_refl _
theorem Id{p:Array Nat}{n:Nat}(h1:1≤n)(h:cc κ p n)(e:O.kle (Ky κ p (n - 1)) (Ky κ p n)):cc κ p (n+1):=fun i j hij hj=>by
  by_cases hjn:j=n
  · subst hjn
    by_cases hi:i=j
    · subst hi;exact KeyOrd.kle_refl _
    · exact KeyOrd.kle_trans (h i (j - 1) (by omega) (by omega)) e
  · exact h i j hij (by omega)
theorem ez{p:Array Nat}{n:Nat}(h1:1≤n)(h:F2 κ p n)(e:O.kle (Ky κ p n) (Ky κ p (n - 1))):F2 κ p (n+1):=fun i j hij hj=>by
  by_cases hjn:j=n
  · subst hjn
    by_cases hi:i=j
    · subst hi;exact KeyOrd.kle_refl _
    · exact KeyOrd.kle_trans e (h i (j - 1) (by omega) (by omega))
  · exact h i j hij (by omega)
theorem F1(p:Array Nat):∀ (f n:Nat),1≤n→cc κ p n→cc κ p (ev (lto κ) (kas_asc p f n))∧n≤ev (lto κ) (kas_asc p f n)∧ev (lto κ) (kas_asc p f n)≤n+f∧(ev (lto κ) (kas_asc p f n) < n+f→O.blt (Ky κ p (ev (lto κ) (kas_asc p f n))) (Ky κ p (ev (lto κ) (kas_asc p f n) - 1))=true)
  | 0,n,_,h=>⟨h,Nat.le_refl _,Nat.le_refl _,fun z=>absurd z (Nat.lt_irrefl _)⟩
  | f+1,n,h1,h=>by
    have e:ev (lto κ) (kas_asc p (f+1) n)=ev (lto κ) (if lto κ (p.getD n 0) (p.getD (n - 1) 0)=true then .ret n else kas_asc p f (n+1)):=rfl
    rw [e]
    cases q:lto κ (p.getD n 0) (p.getD (n - 1) 0) with
    | true=>exact ⟨h,Nat.le_refl _,by show n≤_;omega,fun _=>q⟩
    | false=>
      rw [if_neg (by simp)]
      obtain ⟨a,b,c,d⟩:=F1 p f (n+1) (by omega) (Id h1 h (e9 q))
      exact ⟨a,by omega,by omega,fun z=>d (by omega)⟩
theorem ti:∀ (f:Nat) (p:Array Nat) (n q:Nat),q+1≤n→n+f≤p.size→F2 κ p n→(∀ i,n - (q+1)≤i→i < n→Ky κ p i=Ky κ p (n - 1))→
    ∃ p' n' q',ev (lto κ) (kas_desc f p n q)=(p',n',q')∧p'.Perm p∧q'+1≤n'∧n'≤n+f∧F2 κ p' n'∧∀ i,n' - (q'+1)≤i→i < n'→Ky κ p' i=Ky κ p' (n' - 1)
  | 0,p,n,q,h1,h2,h3,h4=>⟨p,n,q,rfl,Array.Perm.refl _,h1,Nat.le_refl _,h3,h4⟩
  | f+1,p,n,q,h1,h2,h3,h4=>by
    have e:ev (lto κ) (kas_desc (f+1) p n q)=ev (lto κ) (if lto κ (p.getD n 0) (p.getD (n - 1) 0)=true then (if q > 0 then kas_desc f (kas_rev p (n - (q+1)) n) (n+1) 0 else kas_desc f p (n+1) 0)
      else .ask (p.getD (n - 1) 0) (p.getD n 0) fun d=>if d=true then .ret (p,n,q) else kas_desc f p (n+1) (q+1)):=rfl
    rw [e]
    cases c:lto κ (p.getD n 0) (p.getD (n - 1) 0) with
    | true=>
      rw [if_pos rfl]
      by_cases hq:q > 0
      · rw [if_pos hq]
        have same:=Aj (κ:=κ) (p:=p) (i:=n - (q+1)) (j:=n) (by omega) h4
        have hf:F2 κ (kas_rev p (n - (q+1)) n) (n+1):=ez (by omega) (fun i j hij hj=>by rw [same,same];exact h3 i j hij hj) (by rw [same,same];exact uq c)
        obtain ⟨p',n',q',a1,a2,a3,a4,a5,a6⟩:=ti f (kas_rev p (n - (q+1)) n) (n+1) 0 (by omega) (by rw [ur];omega) hf (fun i h1 h2=>by congr 1;omega)
        exact ⟨p',n',q',a1,a2.trans (mq _ _ _),a3,by omega,a5,a6⟩
      · rw [if_neg hq]
        obtain ⟨p',n',q',a1,a2,a3,a4,a5,a6⟩:=ti f p (n+1) 0 (by omega) (by omega) (ez (by omega) h3 (uq c)) (fun i h1 h2=>by congr 1;omega)
        exact ⟨p',n',q',a1,a2,a3,by omega,a5,a6⟩
    | false=>
      rw [if_neg (by simp)]
      have e2:ev (lto κ) (.ask (p.getD (n - 1) 0) (p.getD n 0) fun d=>if d=true then .ret (p,n,q) else kas_desc f p (n+1) (q+1))=ev (lto κ) (if lto κ (p.getD (n - 1) 0) (p.getD n 0)=true then .ret (p,n,q) else kas_desc f p (n+1) (q+1)):=rfl
      rw [e2]
      cases d:lto κ (p.getD (n - 1) 0) (p.getD n 0) with
      | true=>rw [if_pos rfl];exact ⟨p,n,q,rfl,Array.Perm.refl _,h1,by omega,h3,h4⟩
      | false=>
        rw [if_neg (by simp)]
        have eq:Ky κ p n=Ky κ p (n - 1):=O.total _ _ c d
        obtain ⟨p',n',q',a1,a2,a3,a4,a5,a6⟩:=ti f p (n+1) (q+1) (by omega) (by omega) (ez (by omega) h3 (e9 d)) (fun i h1 h2=>by
          show _=Ky κ p n
          by_cases hi:i=n
          · subst hi;rfl
          · rw [eq];exact h4 i (by omega) (by omega))
        exact ⟨p',n',q',a1,a2,a3,by omega,a5,a6⟩
theorem Ed{n nrem:Nat}{p:Array Nat}(h1:1≤n)(hn:n≤nrem)(hz:nrem≤p.size)(h:F2 κ p n):
    ∃ m p',ev (lto κ) (kas_tail3 n nrem p)=(m,p')∧p'.Perm p∧m≤nrem∧1≤m∧cc κ p' m:=by
  have hr:cc κ (kas_rev p 0 n) n:=fun i j hij hj=>by
    rw [C4 (by omega),C4 (by omega),if_pos (by omega),if_pos (by omega)]
    exact h _ _ (by omega) (by omega)
  obtain ⟨a,b,c,_⟩:=F1 (κ:=κ) (kas_rev p 0 n) (nrem - n) n h1 hr
  refine ⟨ev (lto κ) (kas_asc (kas_rev p 0 n) (nrem - n) n),kas_rev p 0 n,?_,mq _ _ _,by omega,by omega,a⟩
  unfold kas_tail3
  rw [dz];rfl
theorem p7{n nrem:Nat}{p:Array Nat}(h1:1≤n)(hn:n+1≤nrem)(hz:nrem≤p.size)(h:∀ i,i < n→Ky κ p i=Ky κ p (n - 1))(hd:O.blt (Ky κ p n) (Ky κ p (n - 1))=true):
    ∃ m p',ev (lto κ) (kas_descPart n nrem p)=(m,p')∧p'.Perm p∧m≤nrem∧1≤m∧cc κ p' m:=by
  have hf:F2 κ p (n+1):=ez h1 (fun i j hij hj=>by rw [h i (by omega),h j hj];exact KeyOrd.kle_refl _) (uq hd)
  obtain ⟨p',n',q',a1,a2,a3,a4,a5,a6⟩:=ti (nrem - (n+1)) p (n+1) 0 (by omega) (by omega) hf (fun i h1 h2=>by congr 1;omega)
  have hsz:p'.size=p.size:=a2.size_eq
  unfold kas_descPart
  rw [dz,a1]
  dsimp only
  split
  · have same:=Aj (κ:=κ) (p:=p') (i:=n' - (q'+1)) (j:=n') (by omega) a6
    obtain ⟨m,p2,b1,b2,b3,b4,b5⟩:=Ed (κ:=κ) (n:=n') (nrem:=nrem) (p:=kas_rev p' (n' - (q'+1)) n') (by omega) (by omega) (by rw [ur];omega) (fun i j hij hj=>by rw [same,same];exact a5 i j hij hj)
    exact ⟨m,p2,b1,(b2.trans (mq _ _ _)).trans a2,b3,b4,b5⟩
  · obtain ⟨m,p2,b1,b2,b3,b4,b5⟩:=Ed (κ:=κ) (n:=n') (nrem:=nrem) (p:=p') (by omega) (by omega) (by omega) a5
    exact ⟨m,p2,b1,b2.trans a2,b3,b4,b5⟩
theorem Kx{nrem:Nat}{p:Array Nat}(h1:1≤nrem)(hz:nrem≤p.size):∃ m p',ev (lto κ) (kas_count nrem p)=(m,p')∧p'.Perm p∧m≤nrem∧1≤m∧cc κ p' m:=by
  obtain ⟨a,b,c,d⟩:=F1 (κ:=κ) p (nrem - 1) 1 (Nat.le_refl _) (Kp p)
  unfold kas_count
  rw [dz]
  generalize ev (lto κ) (kas_asc p (nrem - 1) 1)=n at a b c d
  split
  · exact ⟨n,p,rfl,Array.Perm.refl _,by omega,b,a⟩
  · rename_i hne
    have hlt:n < nrem:=by
      have:n≠nrem:=fun z=>hne (by simp [z])
      omega
    have hd:=d (by omega)
    split
    · rename_i h2
      have e:ev (lto κ) (.ask (p.getD 0 0) (p.getD (n - 1) 0) fun c=>if c=true then .ret (n,p) else kas_descPart n nrem (kas_rev p 0 n))=ev (lto κ) (if lto κ (p.getD 0 0) (p.getD (n - 1) 0)=true then .ret (n,p) else kas_descPart n nrem (kas_rev p 0 n)):=rfl
      rw [e]
      cases q:lto κ (p.getD 0 0) (p.getD (n - 1) 0) with
      | true=>exact ⟨n,p,rfl,Array.Perm.refl _,by omega,b,a⟩
      | false=>
        rw [if_neg (by simp)]
        have he:∀ i,i < n→Ky κ p i=Ky κ p (n - 1):=fun i hi=>by
          have e1:O.kle (Ky κ p (n - 1)) (Ky κ p 0):=e9 q
          exact KeyOrd.kle_antisymm (a i (n - 1) (by omega) (by omega)) (KeyOrd.kle_trans e1 (a 0 i (by omega) hi))
        have same:=Aj (κ:=κ) (p:=p) (i:=0) (j:=n) (by omega) (fun k _ hk=>he k hk)
        obtain ⟨m,p2,b1,b2,b3,b4,b5⟩:=p7 (κ:=κ) (n:=n) (nrem:=nrem) (p:=kas_rev p 0 n) b (by omega) (by rw [ur];omega) (fun i hi=>by rw [same,same];exact he i hi) (by rw [same,same];exact hd)
        exact ⟨m,p2,b1,b2.trans (mq _ _ _),b3,b4,b5⟩
    · rename_i h2
      have:n=1:=by omega
      subst this
      exact p7 (κ:=κ) (Nat.le_refl _) (by omega) hz (fun i hi=>by congr 1;omega) hd
theorem Aw{p:Array Nat}{k:Nat}(h:cc κ p k):∀ (f l r:Nat),r - l≤f→l≤r→r≤k→(∀ i,i < l→O.kle (Ky κ p i) (Ky κ p k))→(∀ i,r≤i→i < k→O.kle (Ky κ p k) (Ky κ p i))→
    ∃ m,ev (lto κ) (kas_place p k f l r)=m∧m≤k∧(∀ i,i < m→O.kle (Ky κ p i) (Ky κ p k))∧∀ i,m≤i→i < k→O.kle (Ky κ p k) (Ky κ p i)
  | 0,l,r,hf,hlr,hr,h1,h2=>⟨l,rfl,by omega,h1,fun i a b=>h2 i (by omega) b⟩
  | f+1,l,r,hf,hlr,hr,h1,h2=>by
    unfold kas_place
    by_cases hge:l≥r
    · rw [if_pos hge];exact ⟨l,rfl,by omega,h1,fun i a b=>h2 i (by omega) b⟩
    · rw [if_neg hge]
      have e:ev (lto κ) (.ask (p.getD k 0) (p.getD ((l+r) / 2) 0) fun c=>if c=true then kas_place p k f l ((l+r) / 2) else kas_place p k f ((l+r) / 2+1) r)=ev (lto κ) (if lto κ (p.getD k 0) (p.getD ((l+r) / 2) 0)=true then kas_place p k f l ((l+r) / 2) else kas_place p k f ((l+r) / 2+1) r):=rfl
      rw [e]
      cases q:lto κ (p.getD k 0) (p.getD ((l+r) / 2) 0) with
      | true=>
        rw [if_pos rfl]
        exact Aw h f l ((l+r) / 2) (by omega) (by omega) (by omega) h1 fun i a b=>KeyOrd.kle_trans (uq q) (h _ _ a b)
      | false=>
        rw [if_neg (by simp)]
        exact Aw h f ((l+r) / 2+1) r (by omega) (by omega) hr (fun i a=>KeyOrd.kle_trans (h i ((l+r) / 2) (by omega) (by omega)) (e9 q)) h2
theorem IM:∀ (f:Nat) (p:Array Nat) (k:Nat),k+f=p.size→cc κ p k→∃ p',ev (lto κ) (kas_bin f p k)=p'∧p'.Perm p∧cc κ p' p.size
  | 0,p,k,hk,h=>by
    have:k=p.size:=by omega
    subst this
    exact ⟨p,rfl,Array.Perm.refl _,h⟩
  | f+1,p,k,hk,h=>by
    obtain ⟨l,e,hl,a1,a2⟩:=Aw (κ:=κ) h k 0 k (by omega) (by omega) (Nat.le_refl _) (fun i hi=>absurd hi (Nat.not_lt_zero _)) (fun i x y=>absurd y (by omega))
    unfold kas_bin
    rw [dz,e]
    have hb:=fun j=>Cc (κ:=κ) (p:=p) (src:=k) (d:=k - l) (by omega) (by omega) j
    have hr:cc κ (bubble p k (k - l)) (k+1):=fun i j hij hj=>by
      rw [hb i,hb j]
      have e1:k - (k - l)=l:=by omega
      rw [e1]
      by_cases hi:i=l
      · rw [if_pos hi]
        by_cases hj':j=l
        · rw [if_pos hj'];exact KeyOrd.kle_refl _
        · rw [if_neg hj',if_pos (by omega)]
          exact a2 (j - 1) (by omega) (by omega)
      · rw [if_neg hi]
        by_cases hj':j=l
        · rw [if_pos hj',if_neg (by omega)]
          exact a1 i (by omega)
        · rw [if_neg hj']
          by_cases hi2:l < i∧i≤k
          · rw [if_pos hi2,if_pos (by omega)]
            exact h _ _ (by omega) (by omega)
          · rw [if_neg hi2]
            by_cases hj2:l < j∧j≤k
            · rw [if_pos hj2];exact h _ _ (by omega) (by omega)
            · rw [if_neg hj2];exact h _ _ hij (by omega)
    obtain ⟨p',b1,b2,b3⟩:=IM f (bubble p k (k - l)) (k+1) (by rw [bubble_size];omega) hr
    rw [bubble_size] at b3
    exact ⟨p',b1,b2.trans (bubble_perm _ _ _),b3⟩
theorem Ln{n:Nat}(hn:1≤n):∃ p,ev (lto κ) (kas_sort n)=p∧p.Perm (List.toArray (List.range n))∧cc κ p n:=by
  have hz:(List.toArray (List.range n)).size=n:=by simp
  obtain ⟨m,p,e,h1,h2,h3,h4⟩:=Kx (κ:=κ) (nrem:=n) (p:=List.toArray (List.range n)) hn (by omega)
  have hp:p.size=n:=h1.size_eq.trans hz
  unfold kas_sort
  rw [dz,e]
  dsimp only
  by_cases hm:m < n
  · rw [if_pos hm]
    have e1:max m 1=m:=by omega
    rw [e1]
    obtain ⟨p',b1,b2,b3⟩:=IM (κ:=κ) (n - m) p m (by omega) h4
    exact ⟨p',b1,b2.trans h1,by rw [← hp];exact b3⟩
  · rw [if_neg hm]
    have:m=n:=by omega
    subst this
    exact ⟨p,rfl,h1,h4⟩
end
def Run{α:Type}(P:Nat→Prop)(R:α→Prop):KasT α→Prop
  | .ret a=>R a
  | .ask i j k=>P i∧P j∧∀ b,Run P R (k b)
theorem br{α β:Type}{P:Nat→Prop}{R:α→Prop}{S:β→Prop}{f:α→KasT β}(hf:∀ a,R a→Run P S (f a)):∀ t:KasT α,Run P R t→Run P S (t.bind f)
  | .ret a,h=>hf a h
  | .ask i j k,h=>⟨h.1,h.2.1,fun b=>br hf (k b) (h.2.2 b)⟩
def Iz:KeyOrd:={α:=Nat,blt:=fun a b=>decide (a < b),irrefl:=fun a=>by simp,trans:=fun a b c h1 h2=>by simp at *;omega,negTrans:=fun a b c h=>by simp at *;omega,total:=fun a b h1 h2=>by simp at *;omega}
def xq(n:Nat)(p:Array Nat):Prop:=∀ k,p.getD k 0 < n
theorem ic{n:Nat}{p:Array Nat}{i j:Nat}(hj:j≤p.size)(h:xq n p):xq n (kas_rev p i j):=fun k=>by
  have e:=C4 (O:=Iz) (κ:=fun x=>x) (p:=p) (i:=i) hj k
  have e:(kas_rev p i j).getD k 0=if i≤k∧k < j then p.getD (i+j - 1 - k) 0 else p.getD k 0:=e
  rw [e]
  split<;>exact h _
theorem C8{n:Nat}{p:Array Nat}{src d:Nat}(hs:src < p.size)(hd:d≤src)(h:xq n p):xq n (bubble p src d):=fun k=>by
  have e:=Cc (O:=Iz) (κ:=fun x=>x) (p:=p) hs hd k
  have e:(bubble p src d).getD k 0=if k=src - d then p.getD src 0 else if src - d < k∧k≤src then p.getD (k - 1) 0 else p.getD k 0:=e
  rw [e]
  by_cases c1:k=src - d
  · rw [if_pos c1];exact h src
  · rw [if_neg c1]
    by_cases c2:src - d < k∧k≤src
    · rw [if_pos c2];exact h _
    · rw [if_neg c2];exact h _
theorem Dl{N:Nat}(p:Array Nat)(h:xq N p):∀ (f n:Nat),Run (· < N) (fun m=>n≤m∧m≤n+f) (kas_asc p f n)
  | 0,n=>⟨Nat.le_refl _,Nat.le_refl _⟩
  | f+1,n=>⟨h _,h _,fun b=>by
      cases b with
      | true=>exact ⟨Nat.le_refl _,by omega⟩
      | false=>
        have:=run_mono (Dl p h f (n+1)) (fun m (hm:n+1≤m∧m≤n+1+f)=>show n≤m∧m≤n+(f+1) by omega)
        exact this⟩
where
  run_mono {α:Type} {P:Nat→Prop} {R S:α→Prop} {t:KasT α} (ht:Run P R t) (hs:∀ a,R a→S a):Run P S t:=by
    induction t with
    | ret a=>exact hs a ht
    | ask i j k ih=>exact ⟨ht.1,ht.2.1,fun b=>ih b (ht.2.2 b)⟩
theorem nw{N M:Nat}:∀ (f:Nat) (p:Array Nat) (n q:Nat),n+f≤M→p.size=M→q+1≤n→xq N p→Run (· < N) (fun r=>r.1.size=M∧xq N r.1∧r.2.2+1≤r.2.1∧r.2.1≤M) (kas_desc f p n q)
  | 0,p,n,q,h1,h2,h3,h=>⟨h2,h,h3,by show n≤M;omega⟩
  | f+1,p,n,q,h1,h2,h3,h=>⟨h _,h _,fun b=>by
      cases b with
      | true=>
        show Run _ _ (if q > 0 then kas_desc f (kas_rev p (n - (q+1)) n) (n+1) 0 else kas_desc f p (n+1) 0)
        split
        · exact nw f _ (n+1) 0 (by omega) (by rw [ur];exact h2) (by omega) (ic (by omega) h)
        · exact nw f p (n+1) 0 (by omega) h2 (by omega) h
      | false=>
        refine ⟨h _,h _,fun d=>?_⟩
        cases d with
        | true=>exact ⟨h2,h,h3,by show n≤M;omega⟩
        | false=>exact nw f p (n+1) (q+1) (by omega) h2 (by omega) h⟩
theorem BY{N M:Nat}{n nrem:Nat}{p:Array Nat}(hn:n≤nrem)(hz:nrem≤M)(hp:p.size=M)(h:xq N p):Run (· < N) (fun r=>r.2.size=M∧xq N r.2∧r.1≤nrem) (kas_tail3 n nrem p):=by
  unfold kas_tail3
  have hr:=ic (n:=N) (p:=p) (i:=0) (j:=n) (by omega) h
  refine br (R:=fun m=>n≤m∧m≤n+(nrem - n)) (fun m hm=>?_) _ (Dl _ hr _ _)
  exact ⟨(ur _ _ _).trans hp,hr,show m≤nrem by omega⟩
theorem lv{N M:Nat}{n nrem:Nat}{p:Array Nat}(h1:1≤n)(hn:n+1≤nrem)(hz:nrem≤M)(hp:p.size=M)(h:xq N p)(hM:nrem=M):Run (· < N) (fun r=>r.2.size=M∧xq N r.2∧r.1≤nrem) (kas_descPart n nrem p):=by
  unfold kas_descPart
  refine br (R:=fun r=>r.1.size=M∧xq N r.1∧r.2.2+1≤r.2.1∧r.2.1≤M) (fun r hr=>?_) _ (nw _ p (n+1) 0 (by omega) hp (by omega) h)
  split
  · exact BY (by omega) hz (by rw [ur];exact hr.1) (ic (by omega) hr.2.1)
  · exact BY (by omega) hz hr.1 hr.2.1
theorem HE{N n:Nat}{p:Array Nat}(h1:1≤n)(hp:p.size=n)(h:xq N p):Run (· < N) (fun r=>r.2.size=n∧xq N r.2∧r.1≤n) (kas_count n p):=by
  unfold kas_count
  refine br (R:=fun m=>1≤m∧m≤1+(n - 1)) (fun m hm=>?_) _ (Dl p h _ _)
  split
  · exact ⟨hp,h,by show m≤n;omega⟩
  · rename_i hne
    have hlt:m < n:=by
      have:m≠n:=fun z=>hne (by simp [z])
      omega
    split
    · refine ⟨h _,h _,fun b=>?_⟩
      cases b with
      | true=>exact ⟨hp,h,by show m≤n;omega⟩
      | false=>exact lv (by omega) (by omega) (Nat.le_refl _) (by rw [ur];exact hp) (ic (by omega) h) rfl
    · exact lv (by omega) (by omega) (Nat.le_refl _) hp h rfl
theorem pq{N:Nat}(p:Array Nat)(k:Nat)(h:xq N p):∀ (f l r:Nat),l≤k→r≤k→Run (· < N) (fun m=>m≤k) (kas_place p k f l r)
  | 0,l,r,h1,h2=>h1
  | f+1,l,r,h1,h2=>by
    unfold kas_place
    split
    · exact h1
    · refine ⟨h _,h _,fun b=>?_⟩
      cases b with
      | true=>exact pq p k h f l ((l+r) / 2) h1 (by omega)
      | false=>exact pq p k h f ((l+r) / 2+1) r (by omega) h2
theorem GW{N:Nat}:∀ (f:Nat) (p:Array Nat) (k:Nat),k+f=p.size→xq N p→Run (· < N) (fun _=>True) (kas_bin f p k)
  | 0,p,k,_,_=>trivial
  | f+1,p,k,hk,h=>by
    unfold kas_bin
    exact br (R:=fun m=>m≤k) (fun m hm=>GW f _ (k+1) (by rw [bubble_size];omega) (C8 (by omega) (by omega) h)) _ (pq p k h k 0 k (Nat.zero_le _) (Nat.le_refl _))
theorem Jn{n:Nat}(hn:1≤n):Run (· < n) (fun _=>True) (kas_sort n):=by
  have hp:(List.toArray (List.range n)).size=n:=by simp
  have hl:xq n (List.toArray (List.range n)):=fun k=>by
    rw [Array.getD_eq_getD_getElem?]
    by_cases hk:k < n
    · simp [hk]
    · simp [hk];omega
  unfold kas_sort
  refine br (R:=fun r=>r.2.size=n∧xq n r.2∧r.1≤n) (fun r hr=>?_) _ (HE hn hp hl)
  split
  · exact GW _ _ _ (by omega) hr.2.1
  · trivial
theorem Jj{α:Type}{lt:Nat→Nat→Bool}{cmp:Nat→Nat→(Bool→Shared→Prop)→Shared→Prop}{n:Nat}{s:Shared}{G:α→Shared→Prop}(hc:∀ i j,i < n→j < n→∀ C:Bool→Shared→Prop,C (lt i j) s→cmp i j C s):
    ∀ t:KasT α,Run (· < n) (fun _=>True) t→G (ev lt t) s→t.kasWp cmp G s
  | .ret a,_,h=>h
  | .ask i j k,r,h=>hc i j r.1 r.2.1 _ (Jj hc (k (lt i j)) (r.2.2 _) h)
section
variable{O:KeyOrd}
theorem n0(x:O.α):∀ l:List O.α,(Fq O.blt x l).Perm (x::l)
  | []=>.refl _
  | y::ys=>by
    unfold Fq
    split
    · exact ((n0 x ys).cons y).trans (.swap x y ys)
    · exact .refl _
theorem xx:∀ l:List O.α,(ql O.blt l).Perm l
  | []=>.refl _
  | x::xs=>(n0 x _).trans ((xx xs).cons x)
theorem Ci(x:O.α):∀ l:List O.α,l.Pairwise O.kle→(Fq O.blt x l).Pairwise O.kle
  | [],_=>by unfold Fq;exact .cons (fun _ h=>by cases h) .nil
  | y::ys,h=>by
    unfold Fq
    cases h with
    | cons h1 h2=>
      split
      · rename_i c
        refine .cons (fun z hz=>?_) (Ci x ys h2)
        rcases List.mem_cons.mp ((n0 x ys).mem_iff.mp hz) with rfl | hz
        · exact uq c
        · exact h1 z hz
      · rename_i c
        have hxy:O.kle x y:=by
          cases e:O.blt y x with
          | true=>exact absurd e c
          | false=>exact e
        refine .cons (fun z hz=>?_) (.cons h1 h2)
        rcases List.mem_cons.mp hz with rfl | hz
        · exact hxy
        · exact KeyOrd.kle_trans hxy (h1 z hz)
theorem uf:∀ l:List O.α,(ql O.blt l).Pairwise O.kle
  | []=>.nil
  | x::xs=>Ci x _ (uf xs)
theorem ug{l ks:List O.α}(hp:l.Perm ks)(hs:l.Pairwise O.kle):l=ql O.blt ks:=
  List.Perm.eq_of_pairwise (fun a b _ _ h1 h2=>O.total a b h2 h1) hs (uf ks) (hp.trans (xx ks).symm)
theorem Ch{ks:List O.α}{d:O.α}{p:Array Nat}(hp:p.Perm (List.toArray (List.range ks.length)))(hr:cc (fun i=>ks.getD i d) p ks.length):p.toList.map (fun i=>ks.getD i d)=ql O.blt ks:=by
  have hl:p.toList.Perm (List.range ks.length):=by simpa using Array.perm_iff_toList_perm.mp hp
  refine ug ?_ ?_
  · have e:(List.range ks.length).map (fun i=>ks.getD i d)=ks:=by
      apply List.ext_getElem (by simp)
      intro i h1 h2
      simp [h2]
    exact (hl.map _).trans (by rw [e])
  · rw [List.pairwise_iff_getElem]
    intro i j hi hj hij
    have hz:p.size=ks.length:=by simpa using hl.length_eq
    have hi':i < p.size:=by simpa using hi
    have hj':j < p.size:=by simpa using hj
    have:=hr i j (Nat.le_of_lt hij) (by omega)
    unfold Ky at this
    simpa [Array.getD,hi',hj'] using this
end
section
variable{prog:Program}{w:World}{A:Around}{E:Value→Shared→Prop}{s:Shared}
def But(a:Addr)(h h':Heap):Prop:=∀ b o,b≠a→h.get? b=some o→h'.get? b=some o
theorem GZ{a:Addr}{h:Heap}{f:Obj→Obj}:But a h (h.update a f):=fun b o hb e=>by rw [Heap.get?_update_ne _ _ _ _ hb];exact e
theorem Gj{a:Addr}{h h':Heap}{o:Obj}(k:But a h h'):But a h (h'.push o):=fun b x hb e=>Heap.get?_push_of_some _ (k b x hb e)
theorem But.trans{a:Addr}{h h' h2:Heap}(k:But a h h')(k2:But a h' h2):But a h h2:=fun b o hb e=>k2 b o hb (k b o hb e)
def Pq(prog:Program)(w:World)(A:Around)(s:Shared)(a:Addr)(vs:List Value)(kd:SortKind)(lt:Nat→Nat→Bool):Prop:=
  (∀ h',But a s.heap h'→∀ Q:SortKind→Shared→Prop,Q kd {s with heap:=h'}→wpAny (model prog w) A (keyKind' vs.toArray) Q (fun _ _=>False) {s with heap:=h'})∧
  ∀ h',But a s.heap h'→∀ i j,i < vs.length→j < vs.length→∀ C:Bool→Shared→Prop,C (lt i j) {s with heap:=h'}→kas_ask prog w A kd vs i j C {s with heap:=h'}
theorem HK{O:KeyOrd}{κ:Nat→O.α}{kd:SortKind}{a:Addr}{vs:List Value}{n:Nat}{P:PySem.Fin→Shared→Prop}(ho:s.heap.get? a=some (seqObj "list" vs.toArray n))(h64:vs.length < 64)
    (q:2≤vs.length→Pq prog w A s a vs kd (lto κ))
    (h:∀ (p:Array Nat) h' c,p.Perm (List.toArray (List.range vs.length))→cc κ p vs.length→But a s.heap h'→h'.get? a=some (seqObj "list" (List.toArray (p.toList.map fun i=>vs.getD i Value.none)) c)→P (.done (.ret .none)) {s with heap:=h'}):
    wpAny (model prog w) A (Builtin.«list.sort» ⟨[.ref a],[]⟩) P E s:=by
  have big:(64:Nat) < sizeLine:=by rw [sizeLine_eq];decide
  obtain ⟨e1,ho1⟩:∃ c,(s.heap.update a (Obj.mapSeq fun _=>(#[]:Array Value))).get? a=some (seqObj "list" #[] c):=⟨_,get?_update_seq ho fun _=>#[]⟩
  let h6:Heap:=((s.heap.update a (Obj.mapSeq fun _=>(#[]:Array Value))).push (seqObj "tuple" vs.toArray 0)).push (seqObj "list" #[] 0)
  have k6:But a s.heap h6:=Gj (Gj GZ)
  have ho6:h6.get? a=some (seqObj "list" #[] e1):=Heap.get?_push_of_some _ (Heap.get?_push_of_some _ ho1)
  have fin:∀ (p:Array Nat),p.Perm (List.toArray (List.range vs.length))→cc κ p vs.length→∀ (st:SortSt),(arrOf st).map (·.2)=List.toArray (p.toList.map fun i=>vs.getD i Value.none)→failedOf st=none→
      wpAny (model prog w) A (do
        let sorted:=(arrOf st).map (·.2)
        let touched:=(← seqEpoch a) != e1
        Builtin.List.listUpdate (.ref a) fun _=>sorted
        if let some e:=failedOf st then rule "list.sort.comparison-raised";throw e
        if touched then rule "list.sort.modified";raiseError "ValueError" "list modified during sort"
        ret .none) P E {s with heap:=h6}:=by
    intro p hp hr st hst hf
    dsimp only
    have hz:(List.toArray (p.toList.map fun i=>vs.getD i Value.none)).size=vs.length:=by
      have:=hp.size_eq
      simpa using this
    rw [hst,hf]
    refine wpAny_bind (seqEpoch_at ho6 rfl (wpAny_bind (listUpdate_at ho6 rfl ?_ (Nat.zero_le _) (by omega))))
    simp only [bne_self_eq_false,Bool.false_eq_true,if_false]
    exact wpAny_pure (h p _ _ hp hr (k6.trans GZ) (get?_update_seq ho6 _))
  rw [list_sort_plain]
  refine wpAny_bind (listItems_at ho rfl (wpAny_bind (listUpdate_at ho rfl ?_ (by rw [List.size_toArray];omega) (Nat.zero_le _))))
  refine wpAny_bind (seqEpoch_at ho1 rfl (wpAny_bind (wpAny_newTuple ?_ (by show vs.length≤_;omega))))
  refine wpAny_bind (wpAny_newList (wpAny_holding ?_) (Nat.zero_le _))
  show wpAny (model prog w) A _ P E {s with heap:=h6}
  dsimp only
  by_cases h2:vs.toArray.size < 2
  · rw [if_pos h2,if_pos h2]
    refine wpAny_bind (wpAny_pure ?_)
    rw [StateT.run_pure]
    refine wpAny_bind (wpAny_pure (fin (List.toArray (List.range vs.length)) (.refl _) (fun i j h1 h3=>?_) _ ?_ rfl))
    · have:i=j:=by rw [List.size_toArray] at h2;omega
      subst this
      exact KeyOrd.kle_refl _
    · match vs,h2 with
      | [],_=>show Array.map (fun x:Value×Value=>x.snd) ((#[]:Array Value).zip #[])=_;simp
      | [v],_=>show Array.map (fun x:Value×Value=>x.snd) (#[v].zip #[v])=_;simp
      | _::_::_,h2=>exact absurd h2 (by simp)
  · have h2':2≤vs.length:=by rw [List.size_toArray] at h2;omega
    rw [if_neg h2,if_neg h2]
    obtain ⟨q1,q2⟩:=q h2'
    refine wpAny_bind (wpAny_mono (q1 h6 k6 (fun k s'=>k=kd∧s'= {s with heap:=h6}) ⟨rfl,rfl⟩) ?_ fun _ _ x=>x.elim)
    rintro k s' ⟨rfl,rfl⟩
    obtain ⟨p,ep,hp,hr⟩:=Ln (κ:=κ) (n:=vs.length) (by omega)
    have run:=Jj (s:={s with heap:=h6}) (G:=fun p' s'=>p'=p∧s'= {s with heap:=h6}) (q2 h6 k6) (kas_sort vs.length) (Jn (by omega)) ⟨ep,rfl⟩
    refine wpAny_bind (wpAny_mono (kat_run (Q:=fun st s'=>s'= {s with heap:=h6}∧arrOf st=p.map (kas_item (vs.toArray.zip vs.toArray))∧failedOf st=none) rfl h2' h64 (fun p' st s' _ a2 a3 a4=>?_) run) ?_ fun _ _ e=>e)
    · obtain ⟨rfl,rfl⟩:=a4
      exact ⟨rfl,a2,a3⟩
    · rintro ⟨⟨⟩,st⟩ s' ⟨rfl,har,hf⟩
      exact fin p hp hr st (kat_snds rfl har) hf
end
section
variable{prog:Program}{w:World}{A:Around}{E:Value→Shared→Prop}{s:Shared}
def Ext(h h':Heap):Prop:=∀ b o,h.get? b=some o→h'.get? b=some o
theorem D6{l:Addr}{vs:List Value}{o:Obj}{n:Nat}{Q:List Value→Shared→Prop}(ho:s.heap.get? l=some o)(hc:o.cls= .type "list"∨o.cls= .type "tuple")(hd:o.data= .seq vs.toArray n)(hz:vs.length < 64)
    (h:∀ h',Ext s.heap h'→h'.objs.size=s.heap.objs.size+1→Q vs {s with heap:=h'}):wpAny (model prog w) A (collect (.ref l)) Q E s:=by
  have big:(64:Nat) < sizeLine:=by rw [sizeLine_eq];decide
  have hn:(s.heap.push (seqObj "list" #[] 0)).get? s.heap.objs.size=some (seqObj "list" #[] 0):=Heap.get?_push_size _ rfl
  have ho':(s.heap.push (seqObj "list" #[] 0)).get? l=some o:=Heap.get?_push_of_some _ ho
  unfold collect
  refine wpAny_bind (wpAny_runValue (codeAny_builtin entry_proto_collect' ?_))
  show wpAny _ _ (newList [] >>= fun x=>again (.builtin "list.__iadd__" ⟨[x,.ref l],[]⟩)) _ _ s
  refine wpAny_bind (wpAny_newList (wpAny_pure ⟨Code.quiet_builtin _ (by decide +kernel),codeAny_builtin entry_list_iadd' ?_⟩) (Nat.zero_le _))
  show wpAny _ _ (Builtin.List.listExtendWith (.ref s.heap.objs.size) (.ref l) (.ref s.heap.objs.size)) _ _ {s with heap:=s.heap.push (seqObj "list" #[] 0)}
  have hk:Ext s.heap ((s.heap.push (seqObj "list" #[] 0)).update s.heap.objs.size (Obj.mapSeq (· ++vs.toArray))):=fun b x e=>by
    rw [Heap.get?_update_ne _ _ _ _ (Nat.ne_of_lt (Heap.lt_size e))];exact Heap.get?_push_of_some _ e
  unfold Builtin.List.listExtendWith
  obtain ⟨T,hT,hb⟩:∃ T:String,o.cls= .type T∧((Value.type T == Value.type "list") || (Value.type T == Value.type "tuple"))=true:=by
    rcases hc with hc | hc
    · exact ⟨_,hc,by decide⟩
    · exact ⟨_,hc,by decide⟩
  refine wpAny_bind (wpAny_typeOf (T:=T) ⟨o,ho',hT⟩ ?_)
  rw [if_pos (by rw [Bool.or_assoc,hb];simp)]
  refine wpAny_bind (listItems_at ho' hd (wpAny_bind (listItems_at hn rfl ?_)))
  rw [if_neg (by simp)]
  refine wpAny_bind (listUpdate_at hn rfl ?_ (Nat.zero_le _) (by simp;omega))
  refine wpAny_pure ?_
  refine wpAny_bind (wpAny_load (get?_update_seq hn _) ?_)
  show wpAny _ _ (pure ((#[]:Array Value)++vs.toArray).toList) Q E _
  rw [show ((#[]:Array Value)++vs.toArray).toList=vs by simp]
  exact wpAny_pure (h _ hk (by rw [Heap.size_update,Heap.size_push]))
theorem AM{O:KeyOrd}{κ:Nat→O.α}{kd:SortKind}{l:Addr}{vs:List Value}{o:Obj}{n:Nat}{Q:Value→Shared→Prop}(ho:s.heap.get? l=some o)(hc:o.cls= .type "list"∨o.cls= .type "tuple")(hd:o.data= .seq vs.toArray n)(h64:vs.length < 64)
    (q:2≤vs.length→∀ h',Ext s.heap h'→(∀ Q:SortKind→Shared→Prop,Q kd {s with heap:=h'}→wpAny (model prog w) A.in1.in1 (keyKind' vs.toArray) Q (fun _ _=>False) {s with heap:=h'})∧
      ∀ i j,i < vs.length→j < vs.length→∀ C:Bool→Shared→Prop,C (lto κ i j) {s with heap:=h'}→wpAny (model prog w) A.in1.in1 (keyLt' kd (vs.getD i Value.none) (vs.getD j Value.none)) C (fun _ _=>False) {s with heap:=h'})
    (h:∀ (p:Array Nat) D h' c,p.Perm (List.toArray (List.range vs.length))→cc κ p vs.length→Ext s.heap h'→s.heap.objs.size≤D→h'.get? D=some (seqObj "list" (List.toArray (p.toList.map fun i=>vs.getD i Value.none)) c)→Q (.ref D) {s with heap:=h'}):
    wpAny (model prog w) A (call (.builtin "sorted") [.ref l]) Q E s:=by
  have big:(64:Nat) < sizeLine:=by rw [sizeLine_eq];decide
  refine Calls.call_function_entry kind_sorted plain_sorted entry_sorted (args_sorted1 _) ?_
  unfold Builtin.«sorted»
  refine wpAny_bind (m:=checkCount "sorted" 1 1 _) (wpAny_pure ?_)
  refine wpAny_bind (D6 ho hc hd h64 fun h1 k1 z1=>?_)
  refine wpAny_bind (wpAny_newList ?_ (by omega))
  have hD:(h1.push (seqObj "list" vs.toArray 0)).get? h1.objs.size=some (seqObj "list" vs.toArray 0):=Heap.get?_push_size _ rfl
  have hlt:s.heap.objs.size≤h1.objs.size:=by omega
  have up:∀ h',But h1.objs.size (h1.push (seqObj "list" vs.toArray 0)) h'→Ext s.heap h':=fun h' k b x e=>
    k b x (Nat.ne_of_lt (Nat.lt_of_lt_of_le (Heap.lt_size e) hlt)) (Heap.get?_push_of_some _ (k1 b x e))
  refine wpAny_bind (wpAny_holding (wpAny_call_entry slot_list_sort ⟨_,hD,rfl⟩ entry_list_sort ?body (args_list_sort _)))
  case body=>
    refine HK (s:={s with heap:=h1.push (seqObj "list" vs.toArray 0)}) (κ:=κ) (kd:=kd) hD h64 (fun h2=>⟨fun h' k=>(q h2 h' (up h' k)).1,fun h' k=>(q h2 h' (up h' k)).2⟩) fun p h' c a1 a2 a3 a4=>?_
    exact ⟨_,rfl,wpAny_pure ⟨_,rfl,h p _ h' c a1 a2 (up h' a3) hlt a4⟩⟩
def intOrd:KeyOrd where
  α:=Int
  blt:=fun a b=>decide (a < b)
  irrefl:=fun a=>by simp
  trans:=fun a b c h1 h2=>by simp at *;omega
  negTrans:=fun a b c h=>by simp at *;omega
  total:=fun a b h1 h2=>by simp at *;omega
theorem li:∀ a:List Int,HT.lexLt a a=false
  | []=>rfl
  | x::xs=>by rw [HT.lexLt_cons,if_pos rfl];exact li xs
theorem ph:∀ a b c:List Int,HT.lexLt a b=true→HT.lexLt b c=true→HT.lexLt a c=true
  | [],[],[],h1,_=>by cases h1
  | [],_::_,[],_,h2=>by cases h2
  | [],_,_::_,_,_=>rfl
  | x::xs,[],_,h1,_=>by cases h1
  | x::xs,y::ys,[],_,h2=>by cases h2
  | x::xs,y::ys,z::zs,h1,h2=>by
    rw [HT.lexLt_cons] at *
    by_cases e1:x=y
    · rw [if_pos e1] at h1
      by_cases e2:y=z
      · rw [if_pos e2] at h2;rw [if_pos (e1.trans e2)];exact ph xs ys zs h1 h2
      · rw [if_neg e2] at h2;rw [if_neg (by rw [e1];exact e2),e1];exact h2
    · rw [if_neg e1] at h1
      have l1:=of_decide_eq_true h1
      by_cases e2:y=z
      · rw [if_neg (by rw [← e2];exact e1),← e2];exact h1
      · rw [if_neg e2] at h2
        have l2:=of_decide_eq_true h2
        rw [if_neg (by omega)];exact decide_eq_true (by omega)
theorem Gi:∀ a b c:List Int,HT.lexLt a c=true→HT.lexLt a b=true∨HT.lexLt b c=true
  | [],[],_,h=>.inr h
  | [],_::_,_,_=>.inl rfl
  | x::xs,_,[],h=>by cases h
  | x::xs,[],z::zs,_=>.inr rfl
  | x::xs,y::ys,z::zs,h=>by
    rw [HT.lexLt_cons] at *
    by_cases e:x=z
    · rw [if_pos e] at h
      by_cases e1:x=y
      · rw [if_pos e1,HT.lexLt_cons,if_pos (e1.symm.trans e)];exact Gi xs ys zs h
      · rw [if_neg e1,HT.lexLt_cons,if_neg (by rw [← e];exact fun q=>e1 q.symm)]
        by_cases l:x < y
        · exact .inl (decide_eq_true l)
        · exact .inr (decide_eq_true (by omega))
    · rw [if_neg e] at h
      have l:=of_decide_eq_true h
      by_cases e1:x=y
      · right;rw [HT.lexLt_cons,if_neg (by rw [← e1];exact e)];exact decide_eq_true (by omega)
      · rw [if_neg e1]
        by_cases l1:x < y
        · exact .inl (decide_eq_true l1)
        · right;rw [HT.lexLt_cons,if_neg (by omega)];exact decide_eq_true (by omega)
theorem BF:∀ a b:List Int,HT.lexLt a b=false→HT.lexLt b a=false→a=b
  | [],[],_,_=>rfl
  | [],_::_,h,_=>by cases h
  | _::_,[],_,h=>by cases h
  | x::xs,y::ys,h1,h2=>by
    rw [HT.lexLt_cons] at *
    by_cases e:x=y
    · rw [if_pos e] at h1;rw [if_pos e.symm] at h2;rw [e,BF xs ys h1 h2]
    · rw [if_neg e] at h1;rw [if_neg (fun q=>e q.symm)] at h2
      have l1:=of_decide_eq_false h1
      have l2:=of_decide_eq_false h2
      omega
def rowOrd:KeyOrd:={α:=List Int,blt:=HT.lexLt,irrefl:=li,trans:=ph,negTrans:=Gi,total:=BF}
theorem G2{vs:List Value}{ns:List Int}(h:IntsAre vs ns){i:Nat}(hi:i < vs.length):∃ t,vs.getD i Value.none= .int (ns.getD i 0) t:=by
  induction h generalizing i with
  | nil=>simp at hi
  | cons n t _ ih=>
    cases i with
    | zero=>exact ⟨t,rfl⟩
    | succ i=>exact ih (by simpa using hi)
theorem Ii{vs:List Value}{ns:List Int}(hI:IntsAre vs ns)(h2:2≤vs.length):
    (∀ Q:SortKind→Shared→Prop,Q oneType' s→wpAny (model prog w) A (keyKind' vs.toArray) Q (fun _ _=>False) s)∧
      ∀ i j,i < vs.length→j < vs.length→∀ C:Bool→Shared→Prop,C (lto (O:=intOrd) (fun k=>ns.getD k 0) i j) s→wpAny (model prog w) A (keyLt' oneType' (vs.getD i Value.none) (vs.getD j Value.none)) C (fun _ _=>False) s:=by
  refine ⟨fun Q hq=>?_,fun i j hi hj C hC=>?_⟩
  · match vs,hI,h2 with
    | v₁::v₂::rest,hI,_=>rw [keyKind_ints hI];exact wpAny_pure hq
    | [_],_,h2=>exact absurd h2 (by simp)
    | [],_,h2=>exact absurd h2 (by simp)
  · obtain ⟨t,e⟩:=G2 hI hi
    obtain ⟨u,e'⟩:=G2 hI hj
    rw [e,e']
    exact kat_lt_int hC
end
def RowsAre(h:Heap):List Value→List (List Int)→Prop
  | [],[]=>True
  | v::vs,r::rs=>(∃ (a:Addr) (o:Obj) (xs:Array Value) (n:Nat),v= .ref a∧h.get? a=some o∧o.cls= .type "tuple"∧o.data= .seq xs n∧IntsAre xs.toList r)∧RowsAre h vs rs
  | _,_=>False
theorem RowsAre.length{h:Heap}:∀ {vs:List Value} {rs:List (List Int)},RowsAre h vs rs→vs.length=rs.length
  | [],[],_=>rfl
  | [],_::_,h=>h.elim
  | _::_,[],h=>h.elim
  | _::vs,_::rs,h=>by simp [h.2.length]
theorem RowsAre.ext{h h':Heap}(k:Ext h h'):∀ {vs:List Value} {rs:List (List Int)},RowsAre h vs rs→RowsAre h' vs rs
  | [],[],_=>trivial
  | [],_::_,h=>h.elim
  | _::_,[],h=>h.elim
  | _::vs,_::rs,⟨⟨a,o,xs,n,e,ho,r⟩,t⟩=>⟨⟨a,o,xs,n,e,k _ _ ho,r⟩,t.ext k⟩
theorem RowsAre.at_{h:Heap}:∀ {vs:List Value} {rs:List (List Int)} {i:Nat},RowsAre h vs rs→i < vs.length→
    ∃ (a:Addr) (o:Obj) (xs:Array Value) (n:Nat),vs.getD i Value.none= .ref a∧h.get? a=some o∧o.cls= .type "tuple"∧o.data= .seq xs n∧IntsAre xs.toList (rs.getD i [])
  | [],[],_,_,hi=>by simp at hi
  | [],_::_,_,h,_=>h.elim
  | _::_,[],_,h,_=>h.elim
  | _::vs,_::rs,0,h,_=>h.1
  | _::vs,_::rs,i+1,h,hi=>by
    have:=RowsAre.at_ (i:=i) h.2 (by simpa using hi)
    simpa using this
section
variable{M:Model}{prog:Program}{w:World}{A:Around}{E:Value→Shared→Prop}{s:Shared}
theorem sg:∀ {vs:List Value} {rs:List (List Int)},RowsAre s.heap vs rs→
    ∃ fs:List (Option Value),fs.map Option.isSome=rs.map (fun r=>!r.isEmpty)∧(rs.all (fun r=>!r.isEmpty)=true→∃ gs,fs=gs.map some∧KatTups s.heap vs gs∧∀ g∈gs,∃ n t,g= .int n t)∧∀ Q:List (Option Value)→Shared→Prop,Q fs s→wpAny M A (vs.mapM firstOfTuple') Q E s
  | [],[],_=>⟨[],rfl,fun _=>⟨[],rfl,trivial,fun _ h=>by cases h⟩,fun Q h=>by rw [List.mapM_nil];exact wpAny_pure h⟩
  | [],_::_,h=>h.elim
  | _::_,[],h=>h.elim
  | v::vs,r::rs,⟨⟨a,o,xs,n,e,ho,hc,hd,hi⟩,t⟩=>by
    subst e
    obtain ⟨fs,f1,f2,f3⟩:=sg t
    refine ⟨xs[0]?::fs,?_,fun hall=>?_,fun Q h=>?_⟩
    · have:xs[0]?.isSome= !r.isEmpty:=by
        rw [← Array.getElem?_toList]
        generalize xs.toList=xl at hi
        cases hi<;>rfl
      simp [this,f1]
    · simp only [List.all_cons,Bool.and_eq_true] at hall
      obtain ⟨gs,g1,g2,g3⟩:=f2 hall.2
      rw [← Array.getElem?_toList]
      have h0:∃ m u,xs[0]? =some (.int m u):=by
        rw [← Array.getElem?_toList]
        generalize xs.toList=xl at hi
        cases hi with
        | nil=>simp at hall
        | cons m u _=>exact ⟨m,u,rfl⟩
      obtain ⟨m,u,e0⟩:=h0
      refine ⟨.int m u::gs,?_,KatTups.cons ho hc hd e0 g2,fun g hg=>?_⟩
      · rw [Array.getElem?_toList,e0,g1];rfl
      · rcases List.mem_cons.mp hg with rfl | hg
        · exact ⟨m,u,rfl⟩
        · exact g3 g hg
    · rw [List.mapM_cons]
      refine wpAny_bind ?_
      rw [kas_first_eq]
      refine wpAny_bind (Looks.here ((Looks.ld ho).andThen .now:Looks M s.heap (typeOf (.ref a)) o.cls) ?_)
      rw [hc,if_neg (by decide)]
      refine wpAny_bind (listItems_at ho hd (wpAny_pure ?_))
      exact wpAny_bind (f3 (fun bs s'=>wpAny M A (pure (xs[0]?::bs)) Q E s') (wpAny_pure h))
theorem AK:∀ {vs:List Value} {rs:List (List Int)},RowsAre s.heap vs rs→∀ v∈vs,Looks M s.heap (typeOf v) (.type "tuple")
  | [],_,_,v,hv=>by cases hv
  | _::_,[],h,_,_=>h.elim
  | v::vs,r::rs,⟨⟨a,o,xs,n,e,ho,hc,hd,hi⟩,t⟩,u,hu=>by
    rcases List.mem_cons.mp hu with rfl | hu
    · subst e
      rw [← hc]
      exact (Looks.ld ho).andThen .now
    · exact AK t u hu
noncomputable def Ep(rs:List (List Int)):SortKind:=if rs.all (fun r=>!r.isEmpty)=true then tuples' true else if (rs.map (fun r=>!r.isEmpty)).head? =some true then general' else oneType'
theorem Hr{vs:List Value}{rs:List (List Int)}(R:RowsAre s.heap vs rs)(h2:2≤vs.length){Q:SortKind→Shared→Prop}(h:Q (Ep rs) s):wpAny M A (keyKind' vs.toArray) Q E s:=by
  unfold Ep at h
  obtain ⟨fs,f1,f2,f3⟩:=sg (E:=E) (A:=A) (M:=M) R
  by_cases hall:rs.all (fun r=>!r.isEmpty)=true
  · rw [if_pos hall] at h
    obtain ⟨gs,g1,g2,g3⟩:=f2 hall
    have hl:gs.length=vs.length:=by
      have:=congrArg List.length f1
      rw [g1] at this
      simp at this
      rw [R.length];exact this
    refine kat_kind (T:=.type "int") g2 (by omega) (fun v hv=>?_) rfl h
    obtain ⟨n,t,rfl⟩:=g3 v hv
    exact Looks.of_pure rfl
  · rw [if_neg hall] at h
    rw [kat_kind_eq,List.mapM_toArray,map_eq_pure_bind];refine wpAny_bind (wpAny_bind (f3 _ (wpAny_pure ?_)))
    have hn:¬ (fs.toArray.all (·.isSome)=true):=by
      intro q
      apply hall
      have e:fs.all Option.isSome=rs.all (fun r=>!r.isEmpty):=by
        have:=congrArg (fun l=>l.all id) f1
        simpa [List.all_map] using this
      rw [← e]
      simpa using q
    rw [if_neg hn]
    have hh:((fs.toArray)[0]?.bind id).isSome=((rs.map (fun r=>!r.isEmpty)).head? == some true):=by
      rw [← f1]
      cases fs with
      | nil=>rfl
      | cons x xs=>cases x<;>rfl
    by_cases hf:(rs.map (fun r=>!r.isEmpty)).head? =some true
    · rw [if_pos hf] at h
      rw [if_pos (by rw [hh,hf];rfl)]
      exact wpAny_pure h
    · rw [if_neg hf] at h
      rw [if_neg (by rw [hh];intro q;exact hf (by simpa using q))]
      rw [oneTypeOnly'_eq,List.mapM_toArray,map_eq_pure_bind]
      refine wpAny_bind (wpAny_bind (wpAny_bind (kas_mapM (r:=.type "tuple") _ (fun v hv Q' hq=>(AK R v hv).here hq) (wpAny_pure ?_))))
      have hall2:((List.map (fun _=>Value.type "tuple") vs).toArray.all fun x=>x == Value.type "tuple")=true:=by
        simp only [List.all_toArray,List.all_map,List.all_eq_true];exact fun _ _=>rfl
      have h0:(List.map (fun _=>Value.type "tuple") vs).toArray[0]? =some (Value.type "tuple"):=by
        cases vs with
        | nil=>simp at h2
        | cons v r=>simp
      rw [h0]
      simp only [hall2,if_true];exact wpAny_pure (wpAny_pure h)
theorem E3{b:Bool}{Q:Bool→Shared→Prop}:∀ {xs ys:List Value} {ns ms:List Int} {i:Nat} {fin:Bool},IntsAre xs ns→IntsAre ys ms→fin=decide (ns.length < ms.length)→Q (HT.lexLt ns ms) s→KatLex prog w A b fin Q (xs.zip ys) i s
  | _,_,_,_,_,_,.nil,.nil,hf,h=>by subst hf;exact kat_nil h
  | _,_,_,_,_,_,.nil,.cons _ _ _,hf,h=>by subst hf;exact kat_nil (by simpa [HT.lexLt_nil_cons] using h)
  | _,_,_,_,_,_,.cons _ _ _,.nil,hf,h=>by subst hf;exact kat_nil (by simpa [HT.lexLt_cons_nil] using h)
  | _,_,_,_,i,_,.cons n t hx,.cons m u hy,hf,h=>by
    rw [List.zip_cons_cons]
    rw [HT.lexLt_cons] at h
    refine kat_cons (wpAny_eqBool_int ?_)
    by_cases e:n=m
    · rw [if_pos e] at h
      rw [show (n == m)=true by simpa using e]
      exact kat_yes (E3 hx hy (by rw [hf];simp) h)
    · rw [if_neg e] at h
      rw [show (n == m)=false by simpa using e]
      refine kat_no ?_
      cases hb:(b && i == 0) with
      | true=>exact oneLt_int h
      | false=>exact kat_one _ _ (lt_int h)
theorem KA{vs:List Value}{rs:List (List Int)}(R:RowsAre s.heap vs rs)(kd:SortKind)(hk:kd=tuples' true∨kd=general'∨kd=oneType')(hu:A.units < cLine){i j:Nat}(hi:i < vs.length)(hj:j < vs.length){Q:Bool→Shared→Prop}
    (h:Q (HT.lexLt (rs.getD i []) (rs.getD j [])) s):wpAny (model prog w) A (keyLt' kd (vs.getD i Value.none) (vs.getD j Value.none)) Q E s:=by
  obtain ⟨a,o,xs,n,ea,ho,hc,hd,ia⟩:=R.at_ hi
  obtain ⟨b,o2,ys,n2,eb,ho2,hc2,hd2,ib⟩:=R.at_ hj
  rw [ea,eb]
  rcases hk with rfl | rfl | rfl
  · exact kat_lt ho hd ho2 hd2 (E3 ia ib (by rw [← ia.length,← ib.length];simp) h)
  · refine kat_one _ _ (HT.lt_tupInts ⟨o,ho,hc,n,hd⟩ ⟨o2,ho2,hc2,n2,hd2⟩ ia ib hu ?_)
    exact h
  · rw [keyLt'_oneType,oneLt'_eq]
    simp only [if_true]
    refine wpAny_bind (wpAny_cRoomFor hu ?_)
    obtain ⟨cls,dd,data,sl⟩:=o
    obtain ⟨cls2,dd2,data2,sl2⟩:=o2
    simp only at hc hd hc2 hd2
    subst hc hd hc2 hd2
    refine wpAny_bind (wpAny_callSpecialIfBound?_slot (T:="tuple") ⟨_,ho,rfl⟩ PySem.F.slot_tuple_lt (call_meets PySem.F.slot_tuple_lt ⟨_,ho,rfl⟩ PySem.F.entry_tuple_lt (PySem.F.args_tuple_lt_2 _ _) (HT.tuple_lt_ints a b xs ys n n2 dd dd2 sl sl2 _ _ ia ib) ⟨ho,ho2,?_⟩))
    exact wpAny_truthy_bool h
theorem Kn(rs:List (List Int)):Ep rs=tuples' true∨Ep rs=general'∨Ep rs=oneType':=by
  unfold Ep
  split
  · exact .inl rfl
  · split
    · exact .inr (.inl rfl)
    · exact .inr (.inr rfl)
theorem Il{vs:List Value}{rs:List (List Int)}(R:RowsAre s.heap vs rs)(h2:2≤vs.length)(hu:A.units < cLine):
    (∀ Q:SortKind→Shared→Prop,Q (Ep rs) s→wpAny (model prog w) A (keyKind' vs.toArray) Q (fun _ _=>False) s)∧
      ∀ i j,i < vs.length→j < vs.length→∀ C:Bool→Shared→Prop,C (lto (O:=rowOrd) (fun k=>rs.getD k []) i j) s→wpAny (model prog w) A (keyLt' (Ep rs) (vs.getD i Value.none) (vs.getD j Value.none)) C (fun _ _=>False) s:=
  ⟨fun Q hq=>Hr R h2 hq,fun i j hi hj C hC=>KA R _ (Kn rs) hu hi hj hC⟩
end
end KT
namespace KT
open PySem PySem.Spec PyProof.Rows L2
def He(K:PySem.W.Frag)(H:Hp):List V→List (List Int)→Prop
  | [],[]=>True
  | v::vs,r::rs=>(∃ a,v= .ref a∧SqT K H a (r.map V.int))∧He K H vs rs
  | _,_=>False
def Jy(K:PySem.W.Frag):List V→Hp→VK→Prop:=fun xs H Q=>∃ t vs,xs=[.ref t]∧(SqT K H t vs∨SqL K H t vs)∧vs.length < 64∧
  ((∃ ns:List Int,vs=ns.map V.int∧∀ (is:List Nat) l,(∀ i∈is,i < vs.length)→is.map (fun i=>ns.getD i 0)=ql ltI ns→H l=none→Q (.ref l) (upd H l (.lst (is.map fun i=>vs.getD i .non))))∨
   (∃ rs:List (List Int),He K H vs rs∧∀ (is:List Nat) l,(∀ i∈is,i < vs.length)→is.map (fun i=>rs.getD i [])=ql xa rs→H l=none→Q (.ref l) (upd H l (.lst (is.map fun i=>vs.getD i .non)))))
theorem Hb:∀ {vs:List V} {us:List Value},Vals vs us→∀ {i:Nat},i < vs.length→RelV (vs.getD i .non) (us.getD i Value.none)
  | _,_,.nil,i,h=>by simp at h
  | _,_,.cons r t,0,_=>r
  | _,_,.cons r t,i+1,h=>Hb t (i:=i) (by simpa using h)
theorem Cf{vs:List V}{us:List Value}(r:Vals vs us):∀ (is:List Nat),(∀ i∈is,i < vs.length)→Vals (is.map fun i=>vs.getD i .non) (is.map fun i=>us.getD i Value.none)
  | [],_=>.nil
  | i::is,h=>.cons (Hb r (h i (List.mem_cons_self ..))) (Cf r is fun j hj=>h j (List.mem_cons_of_mem _ hj))
section
variable{X:Cx}
theorem Ha{pins:List (Addr×Obj)}{s:Shared}{σ:L2.St}{H:Hp}(I:Inv X pins σ H s):∀ {vs:List V} {us:List Value} {rs:List (List Int)},Vals vs us→He X.K H vs rs→RowsAre s.heap us rs
  | _,_,[],.nil,_=>trivial
  | _,_,_::_,.nil,h=>h.elim
  | _,_,[],.cons _ _,h=>h.elim
  | _,_,r::rs,.cons q t,⟨⟨a,e,h⟩,hs⟩=>by
    subst e
    cases q
    obtain ⟨its,rv,⟨o,ho,hc,n,hd⟩,_⟩:=I.tuple h
    exact ⟨⟨a,o,its.toArray,n,rfl,ho,hc,hd,Am rv⟩,Ha I t hs⟩
theorem ER(hu:X.A.units+64 < cLine):CallR X (.builtin "sorted") (Jy X.K):=by
  intro pins s σ H xs us Q I hv h
  obtain ⟨t,vs,rfl,hq,hz,h⟩:=h
  cases hv with
  | cons r1 r2=>
  cases r2
  cases r1
  have u2:X.A.in1.in1.units < cLine:=by show X.A.units+1+1 < cLine;omega
  obtain ⟨its,rv,o,n,ho,hc,hd,hsz⟩:∃ its,Vals vs its∧∃ (o:Obj) (n:Nat),s.heap.get? t=some o∧(o.cls= .type "list"∨o.cls= .type "tuple")∧o.data= .seq its.toArray n∧vs.length≤sizeLine:=by
    rcases hq with hq | hq
    · obtain ⟨its,rv,⟨o,ho,hc,n,hd⟩,hz⟩:=I.tuple hq
      exact ⟨its,rv,o,n,ho,.inr hc,hd,hz⟩
    · obtain ⟨its,rv,pl,hz⟩:=I.list hq
      obtain ⟨o,ho,hc,n,hd⟩:=pl.isList
      exact ⟨its,rv,o,n,ho,.inl hc,hd,hz⟩
  have hl:=rv.length
  have z64:its.length < 64:=by omega
  have fin:∀ (is:List Nat) D h' c,(∀ i∈is,i < vs.length)→is.length=vs.length→Ext s.heap h'→s.heap.objs.size≤D→h'.get? D=some (seqObj "list" (List.toArray (is.map fun i=>its.getD i Value.none)) c)→
      (∀ l,H l=none→Q (.ref l) (upd H l (.lst (is.map fun i=>vs.getD i .non))))→EP X pins σ Q (.ref D) {s with heap:=h'}:=fun is D h' c h1 hlen k hp hD q=>
    ⟨.ref D,_,I.laid (t':=s.toks) k hp (show ObjOk X.prog X.w _ h' D (.lst _) from ⟨by rw [List.length_map,hlen];exact hsz,_,c,Cf rv is h1,hD⟩),rfl,q D (I.hok.fresh hp)⟩
  have inr:∀ {p:Array Nat},p.Perm (List.toArray (List.range its.length))→(∀ i∈p.toList,i < vs.length)∧p.toList.length=vs.length:=fun {p} hp=>by
    have hl':p.toList.Perm (List.range its.length):=by simpa using Array.perm_iff_toList_perm.mp hp
    refine ⟨fun i hi=>?_,?_⟩
    · have:=List.mem_range.mp (hl'.mem_iff.mp hi)
      omega
    · rw [hl'.length_eq,List.length_range];exact hl.symm
  rcases h with ⟨ns,e,q⟩ | ⟨rs,R,q⟩
  · subst e
    have iI:=Am rv
    have hn:its.length=ns.length:=iI.length
    refine AM (O:=intOrd) (κ:=fun k=>ns.getD k 0) ho hc hd z64 (fun h2 h' k=>Ii iI h2) fun p D h' c hp hr k hD hg=>?_
    obtain ⟨i1,i2⟩:=inr hp
    rw [hn] at hp hr
    exact fin p.toList D h' c i1 i2 k hD hg fun l hl'=>q _ l i1 (Ch (O:=intOrd) (d:=(0:Int)) hp hr) hl'
  · have RA:=Ha I rv R
    have hn:its.length=rs.length:=RA.length
    refine AM (O:=rowOrd) (κ:=fun k=>rs.getD k []) ho hc hd z64 (fun h2 h' k=>Il (s:={s with heap:=h'}) (RA.ext k) h2 u2) fun p D h' c hp hr k hD hg=>?_
    obtain ⟨i1,i2⟩:=inr hp
    rw [hn] at hp hr
    refine fin p.toList D h' c i1 i2 k hD hg fun l hl'=>q _ l i1 ?_ hl'
    have e:=Ch (O:=rowOrd) (d:=([]:List Int)) hp hr
    rw [show (xa:List Int→List Int→Bool)=HT.lexLt from funext fun a=>funext fun b=>am a b]
    exact e
theorem pf{P:PP}{H:Hp}{α:Type}{f:α→PyData}{as:List α}{d:α}{vs:List V}(r:Reps P H (as.map f) vs):∀ (is:List Nat),(∀ i∈is,i < vs.length)→Reps P H ((is.map fun i=>as.getD i d).map f) (is.map fun i=>vs.getD i .non)
  | [],_=>rfl
  | i::is,h=>by
    have hi:=h i (List.mem_cons_self ..)
    have hl:=r.length
    rw [List.length_map] at hl
    have ha:i < as.length:=by omega
    obtain ⟨v,e,rv⟩:=Reps.get (i:=i) (d:=f (as.getD i d)) r (by simp [ha])
    refine ⟨v,_,?_,rv,pf r is fun j hj=>h j (List.mem_cons_of_mem _ hj)⟩
    have:vs.getD i .non=v:=by rw [List.getD_eq_getElem?_getD,e];rfl
    rw [List.map_cons,this]
theorem o5:∀ {ds:List PyData} {ns:List Int},w4 ds=some ns→ds=ns.map .int
  | [],ns,e=>by cases e;rfl
  | .int i::r,ns,e=>by
    unfold w4 at e
    cases hx:w4 r with
    | none=>rw [hx] at e;cases e
    | some ms=>rw [hx] at e;cases e;rw [o5 hx];rfl
  | .none::_,_,e=>by cases e
  | .bool _::_,_,e=>by cases e
  | .str _::_,_,e=>by cases e
  | .tuple _::_,_,e=>by cases e
  | .list _::_,_,e=>by cases e
  | .dict _::_,_,e=>by cases e
theorem BI:∀ {ds:List PyData} {rs:List (List Int)},iy ds=some rs→ds=rs.map zl
  | [],rs,e=>by cases e;rfl
  | .tuple xs::r,rs,e=>by
    unfold iy at e
    cases hx:w4 xs with
    | none=>rw [hx] at e;cases e
    | some a=>
      cases hy:iy r with
      | none=>rw [hx,hy] at e;cases e
      | some b=>
        rw [hx,hy] at e
        cases e
        rw [BI hy,o5 hx];rfl
  | .int _::_,_,e=>by cases e
  | .none::_,_,e=>by cases e
  | .bool _::_,_,e=>by cases e
  | .str _::_,_,e=>by cases e
  | .list _::_,_,e=>by cases e
  | .dict _::_,_,e=>by cases e
theorem Ac{K:PySem.W.Frag}{P:PP}{H:Hp}:∀ {rs:List (List Int)} {vs:List V},Reps P H (rs.map zl) vs→He K H vs rs
  | [],_,h=>by cases (show _=_ from h);trivial
  | r::rs,_,⟨v,t,e,h,q⟩=>by
    subst e
    obtain ⟨a,us,rfl,hp,hr⟩:=h
    have:us=r.map V.int:=dy (y9 r) hr
    subst this
    exact ⟨⟨a,rfl,.inl hp⟩,Ac q⟩
theorem Du{K:PySem.W.Frag}:GX (Jy K) dSorted:=by
  intro H₀ Hs H l x d v Q s0 s1 e rx q
  have main:∀ xs t vs,rq xs=some d→v= .ref t→(SqT K H t vs∨SqL K H t vs)→Reps (PL H₀ Hs l) H xs vs→Jy K [v] H Q:=fun xs t vs e ev hq rs=>by
    subst ev
    unfold rq at e
    split at e
    rotate_left
    · cases e
    rename_i h64
    have hl:=rs.length
    refine ⟨t,vs,rfl,hq,by omega,?_⟩
    split at e
    · rename_i ns hns
      cases e
      have ex:=o5 hns
      subst ex
      left
      refine ⟨ns,dy hns rs,fun is m h1 h2 hm=>q _ _ (qb hm _) ⟨m,_,rfl,.inl ⟨⟨rfl,s1.free hm⟩,z9⟩,?_⟩⟩
      rw [← h2]
      exact ((pf (d:=(0:Int)) (rs.nl (AN ns)) is h1)).same (qb hm _)
    · split at e
      · rename_i rr hrr
        cases e
        have ex:=BI hrr
        subst ex
        right
        refine ⟨rr,Ac rs,fun is m h1 h2 hm=>q _ _ (qb hm _) ⟨m,_,rfl,.inl ⟨⟨rfl,s1.free hm⟩,z9⟩,?_⟩⟩
        rw [← h2]
        exact ((pf (d:=([]:List Int)) (rs.nl (on rr)) is h1)).same (qb hm _)
      · cases e
  unfold dSorted at e
  split at e
  · obtain ⟨t,vs,rfl,hp,rs⟩:=rx
    exact main _ t vs e rfl (.inr (.inl hp.rd)) rs
  · obtain ⟨t,vs,rfl,hp,rs⟩:=rx
    exact main _ t vs e rfl (.inl (.inl hp)) rs
  · cases e
variable{XO:XOT}{a:Expr}{fa:FE}{pos p:Pos}
theorem cy(C:BC X)(hm:X.mg "sorted" =none)(ha:PE X a (tF XO fa))(hg:Gl X "sorted":=by rfl)(he:starEach [a] X.env=(false,eval a X.env)::starEach [] X.env:=by exact q0 rfl)(hpl:(backTo pos (starEach [] X.env)).any (·.1)=false:=by exact w6 rfl):
    PE X (.Call (.Name "sorted" p) [a] [] pos) (tF XO (yz fa)):=
  C3 (ER C.hu) Du hm boot_sorted ha hg (by decide) (by decide) he hpl
end
section
variable{X:Cx}{XO:XOF}{cv:Cfg}{pos:Pos}{H₀ F H:Hp}{ρ:Rho}{σ:L2.St}
theorem SR.changeG{i:Nat}{t:Slot}{p:Addr}{o0 o1:OwV}{O:Own}(g:SR cv H₀ F ρ σ H)(o:SO cv H₀ F ρ σ H O)(hρ:i < ρ.length)(hO:O p=some i)(hp:H p=some o0.ho)(ht:SS cv H₀ O σ[i]? i (upd H p o1.ho) t):
    SR cv H₀ F (ρ.set i (some t)) σ (upd H p o1.ho):=by
  have hT:∀ a xs,Rd H a (.tup xs)→Rd (upd H p o1.ho) a (.tup xs):=fun a xs e=>o9 hp e
  have hL:∀ {P:PP},(∀ z a,P z a→O a=none)→∀ a (ws:HO),Rl P H a ws→Rl P (upd H p o1.ho) a ws:=fun {P} hP a ws rl=>by
    have hne:∀ z,P z a→a≠p:=fun z q y=>by have:=hP z a q;rw [y,hO] at this;cases this
    rcases rl with ⟨q,e⟩ | ⟨q,u,e⟩
    · exact .inl ⟨q,by rw [zt (hne _ q)];exact e⟩
    · exact .inr ⟨q,u,by rw [zt (hne _ q)];exact e⟩
  refine ⟨g.s0,fun b u e=>?_,by simp [g.len],g.ln,O,o.fr,fun a j e=>?_,fun j t' e=>?_⟩
  · rw [zt]
    · exact g.s1 b u e
    · intro z;subst z;rw [o.fr b i hO] at e;cases e
  · by_cases z:a=p
    · subst z;exact ⟨o1,z9⟩
    · rw [zt z];exact o.ls a j e
  · by_cases hij:i=j
    · subst hij
      rw [qz _ _ _ _ hρ,if_pos rfl] at e
      cases e
      exact ht
    · rw [qz _ _ _ _ hρ,if_neg hij] at e
      have q:=o.sl j t' e
      cases t' with
      | par d=>obtain ⟨w,e1,rr⟩:=q;exact ⟨w,e1,Rep.mono hT (hL fun _ _ x=>x) d w rr⟩
      | loc d=>obtain ⟨w,e1,rr⟩:=q;exact ⟨w,e1,Rep.mono hT (hL fun _ _ x=>x.2.1) d w rr⟩
      | own ds=>
        obtain ⟨q1,ws,e1,hq,hqp,rs⟩:=q
        have hne:q1≠p:=fun z=>by rw [z,hO] at hq;cases hq;exact hij rfl
        exact ⟨q1,ws,e1,hq,by rw [zt hne];exact hqp,Reps.mono hT (hL fun _ _ x=>x.elim) _ _ rs⟩
      | own2 ds=>
        obtain ⟨q1,ws,e1,hq,hqp,rs⟩:=q
        have hne:q1≠p:=fun z=>by rw [z,hO] at hq;cases hq;exact hij rfl
        exact ⟨q1,ws,e1,hq,by rw [zt hne];exact hqp,Reps.mono hT (hL fun _ _ x=>x.2.1) _ _ rs⟩
      | lent ds=>
        obtain ⟨ws,e1,hq,hqp,rs⟩:=q
        have hne:cv.lend≠p:=fun z=>by rw [z,hO] at hq;cases hq;exact hij rfl
        exact ⟨ws,e1,hq,by rw [zt hne];exact hqp,Reps.mono hT (hL fun _ _ x=>x.elim) _ _ rs⟩
      | dct ks=>
        obtain ⟨q1,e1,hq,hd⟩:=q
        have hne:q1≠p:=fun z=>by rw [z,hO] at hq;cases hq;exact hij rfl
        exact ⟨q1,e1,hq,hd.upd hne⟩
      | ex c=>
        obtain ⟨w,e1,φ,hx,hφ⟩:=q
        have hne:w≠p:=fun z=>by rw [z,hp] at hx;cases o0<;>cases hx
        exact ⟨w,e1,φ,by rw [zt hne];exact hx,hφ⟩
theorem SR.lentT{i:Nat}{ds:List PyData}(g:SR cv H₀ F ρ σ H)(hi:ρ[i]? =some (some (.lent ds))):∃ O vs,SO cv H₀ F ρ σ H O∧σ[i]? =some (some (.ref cv.lend))∧O cv.lend=some i∧H cv.lend=some (.lst vs)∧Reps (fun _ _=>False) H ds vs:=by
  obtain ⟨O,o⟩:=g.ex
  obtain ⟨vs,e,q,h,r⟩:=o.sl i _ hi
  exact ⟨O,vs,o,e,q,h,r⟩
theorem SR.changeT{i:Nat}{ds ds':List PyData}{vs vs':List V}{O:Own}(g:SR cv H₀ F ρ σ H)(o:SO cv H₀ F ρ σ H O)(hi:ρ[i]? =some (some (.lent ds)))(hσ:σ[i]? =some (some (.ref cv.lend)))(hO:O cv.lend=some i)(hp:H cv.lend=some (.lst vs))(r:Reps (fun _ _=>False) H ds' vs'):
    SR cv H₀ F (ρ.set i (some (.lent ds'))) σ (upd H cv.lend (.lst vs')):=
  g.changeG (o0:=.l vs) (o1:=.l vs') o (List.getElem?_eq_some_iff.mp hi).1 hO hp ⟨vs',hσ,hO,z9,Reps.mono (fun a xs e=>o9 (o0:=.l vs) hp e) (fun a ws rl=>by rcases rl with ⟨q,_⟩ | ⟨q,_⟩<;>exact q.elim) _ _ r⟩
theorem wn(i:Nat){e:Expr}{f:FE}{x:Str}{xp apos cpos:Pos}(h:PE X e (tF ⟨cv.cv,XO⟩ f))(hN:X.N[i]? =some x:=by rfl)(hv:Vis X.env.scope x:=by first | exact Or.inl rfl | exact Or.inr (Or.inl rfl) | exact Or.inr (Or.inr rfl))
    (hd:(x == ("__debug__":Str))=false:=by decide) (hcd:(x == ("__classdict__":Str))=false:=by decide)
    (hbase:attributeBase (.Name x xp) "append" X.env (eval (.Name x xp) X.env)=eval (.Name x xp) X.env:=by rfl)
    (hfew:((backTo cpos (starEach [e] X.env)).all (fun x=>!x.1) && (backToKw cpos (keywordEach [] X.env)).all (fun x=>x.1.isSome)
      && decide ([e].length+([]:List Keyword).length+(if ([]:List Keyword).isEmpty then 0 else 1) < 30))=true:=by rfl)
    (hline:(apos.endLine == cpos.line)=true:=by rfl) (hs1:starEach [e] X.env=(false,eval e X.env)::starEach [] X.env:=by rfl) (hplain:(backTo cpos (starEach [] X.env)).any (·.1)=false:=by rfl)
    (hs:swapsWith (.Call (.Attribute (.Name x xp) "append" apos) [e] [] cpos) none pos.line X.env=pure false:=by rfl):
    PS X (.Expr (.Call (.Attribute (.Name x xp) "append" apos) [e] [] cpos) pos) (tS cv XO (qx i f)):=by
  intro pins s σ H D I ⟨H₀,F,ρ,r,g,e',k⟩
  refine m7 (EI PySem.F.plainAttrs_list PySem.F.slot_list_append PySem.F.type_list_append pv (w5 (i:=i) hN hv hd hcd) (wx h gy hs1) hbase hfew hline hs1 hplain) hs pins s σ H D I ?_
  unfold qx at e'
  split at e'
  · rename_i xs hρ
    obtain ⟨O,vs,o,hσ,hO,hp,rs⟩:=g.lentT hρ
    refine ⟨.ref cv.lend,hσ,.inl ⟨rfl,vs,SqL.of hp⟩,?_⟩
    refine xh g e' k fun l d v H1 s1 r1 e1=>?_
    split at e1
    · rename_i hc
      cases e1
      rw [Bool.and_eq_true] at hc
      have hlen:xs.length < big:=of_decide_eq_true hc.2
      refine ⟨cv.lend,vs,v,rfl,rfl,s1 _ _ hp,by rw [rs.length];exact Nat.lt_of_lt_of_le hlen Db,?_⟩
      have o1:SO cv H₀ F ρ σ H1 O:=⟨o.fr,fun a i e=>let ⟨vs,q⟩:=o.ls a i e;⟨vs,s1 _ _ q⟩,fun i t e=>(o.sl i t e).same s1⟩
      exact k _ _ ((g.same s1).changeT o1 hρ hσ hO (s1 _ _ hp) ((rs.same s1).append (Reps.one (r1.nl hc.1))))
    · cases e1
  · cases e'
end
def drp(H:Hp)(p:Addr):Hp:=fun a=>if a=p then none else H a
theorem Kg(H:Hp)(p:Addr):Same (drp H p) H:=fun b u e=>by
  unfold drp at e
  split at e
  · cases e
  · exact e
section
open PySem.SeqAt
open PySem.AutoSeq1 (wpAny_loadPart')
open PySem.MeetsSeq PySem.MeetsSeq2 PySem.MeetsSeq3
def OG(A:Around)(s:Shared)(u v:Value)(c:Bool):Prop:=∀ (prog:Program) (w:World) (E:Value→Shared→Prop) (Q:Value→Shared→Prop),Q (.bool c) s→wpAny (model prog w) A (richCompare .Lt u v) Q E s
inductive LtRow (A:Around) (s:Shared):List Value→List Value→Bool→Prop
  | nn:LtRow A s [] [] false
  | nc {w:Value} {ws:List Value}:LtRow A s [] (w::ws) true
  | cn {v:Value} {vs:List Value}:LtRow A s (v::vs) [] false
  | eq {v w:Value} {vs ws:List Value} {c:Bool}:EqAt A s v w true→LtRow A s vs ws c→LtRow A s (v::vs) (w::ws) c
  | ne {v w:Value} {vs ws:List Value} {c:Bool}:EqAt A s v w false→OG A s v w c→LtRow A s (v::vs) (w::ws) c
theorem Cp(l b:Addr)(items items2:Array Value)(n n2:Nat)(dd dd2:Option Addr)(sl sl2:Array (Option Value))(c:Bool):
    Meets (Builtin.«tuple.__lt__» ⟨[.ref l,.ref b],[]⟩)
      (fun A R s=>s.heap.get? l=some {cls:=.type "tuple",dict:=dd,data:=.seq items n,slots:=sl}∧s.heap.get? b=some {cls:=.type "tuple",dict:=dd2,data:=.seq items2 n2,slots:=sl2}∧
        LtRow A.in1 s items.toList items2.toList c∧R (.ok (.ret (.bool c))) s):=
  .of_wp fun prog w A R s h=>by
    obtain ⟨hp,g,d,tk,os⟩:=s;obtain ⟨hl,hb,hr,h⟩:=h
    have f2:=AutoSeq1.sub_tuple_tuple
    wp_walk using wpAny_loadPart' hl,wpAny_loadPart' hb,wpAny_forIn_list _ (fun rest b s'=>b.1=none∧s'=⟨hp,g,d,tk,os⟩∧∃ (vs ws:List Value),rest=vs.zip ws∧
      LtRow A.in1 ⟨hp,g,d,tk,os⟩ vs ws c∧vs.length+items2.size=ws.length+items.size) _
    case turn=>
      rintro ⟨y,x⟩ rest b s' ⟨hb',rfl,vs,ws,hz,hr',hlen⟩
      cases hr' with
      | nn=>cases hz
      | nc=>rw [List.zip_nil_left] at hz;cases hz
      | cn=>rw [List.zip_nil_right] at hz;cases hz
      | eq he hr''=>
        rw [List.zip_cons_cons] at hz
        injection hz with hyx hrest
        injection hyx with hy hx
        subst hy hx
        simp only [List.length_cons] at hlen
        refine wpAny_bind (he prog w _ _ ?_)
        wp_walk
        exact ⟨rfl,rfl,_,_,hrest,hr'',by omega⟩
      | ne he hlt=>
        rw [List.zip_cons_cons] at hz
        injection hz with hyx hrest
        injection hyx with hy hx
        subst hy hx
        refine wpAny_bind (he prog w _ _ ?_)
        have hri:=hlt prog w
        wp_walk using hri
        exact ⟨_,rfl,by simpa using h⟩
    case fin=>
      rintro ⟨b1,b2⟩ s' ⟨hb',rfl,vs,ws,hz,hr',hlen⟩
      simp only at hb'
      subst hb'
      have hv:c=decide (items.size < items2.size):=by
        cases hr' with
        | nn=>simp only [List.length_nil] at hlen;exact (decide_eq_false (by omega)).symm
        | nc=>simp only [List.length_nil,List.length_cons] at hlen;exact (decide_eq_true (by omega)).symm
        | cn=>simp only [List.length_nil,List.length_cons] at hlen;exact (decide_eq_false (by omega)).symm
        | eq _ _=>rw [List.zip_cons_cons] at hz;cases hz
        | ne _ _=>rw [List.zip_cons_cons] at hz;cases hz
      rw [hv] at h
      wp_walk
      exact ⟨_,rfl,by simpa [Builtin.Tuple.tupleCompareSizes] using h⟩
    case h=>
      exact ⟨rfl,rfl,items.toList,items2.toList,rfl,hr,by simp;omega⟩
mutual
theorem BO:∀ (d e:PyData) (A:Around) (s:Shared) (u v:Value) (as bs:List Addr) (c:Bool),Reads s.heap u d as→Reads s.heap v e bs→d.canLay0=true→e.canLay0=true→A.units+d.depth < cLine→ltD d e=some c→OG A s u v c
  | .int i,.int j,A,s,u,v,as,bs,c,ra,rb,_,_,_,h=>by
    cases ra;cases rb
    simp only [ltD,Option.some.injEq] at h
    subst h
    exact fun prog w E Q hq=>(PyProof.Rows.lt_int hq:wpAny (model prog w) A (compareOp .Lt _ _) Q E s)
  | .str x,.str y,A,s,u,v,as,bs,c,ra,rb,_,_,_,h=>by
    cases ra;cases rb
    simp only [ltD,Option.some.injEq] at h
    subst h
    exact fun prog w E Q hq=>(PySem.P.lt_str hq:wpAny (model prog w) A (compareOp .Lt _ _) Q E s)
  | .tuple xs,.tuple ys,A,s,u,v,as,bs,c,ra,rb,ca,cb,hu,h=>by
    simp only [ltD] at h
    cases ra with
    | @tuple a o1 its1 n1 ds1 as1 ho hc hd ha=>
      cases rb with
      | @tuple b o2 its2 n2 ds2 as2 ho2 hc2 hd2 hb=>
        simp only [PyData.depth] at hu
        have row:=DC xs ys A.in1 s _ _ _ _ c ha hb (by simpa [PyData.canLay0] using ca) (by simpa [PyData.canLay0] using cb) (by show A.units+1+_ < cLine;omega) h
        intro prog w E Q hq
        obtain ⟨cls,dd,data,sl⟩:=o1
        obtain ⟨cls2,dd2,data2,sl2⟩:=o2
        simp only at hc hd hc2 hd2
        subst hc hd hc2 hd2
        exact richCompare_meets_room (op:=.Lt) ⟨_,ho,rfl⟩ ⟨_,ho2,rfl⟩ PySem.F.slot_tuple_lt PySem.F.entry_tuple_lt (PySem.F.args_tuple_lt_2 _ _) (Cp _ _ _ _ _ _ dd dd2 sl sl2 c)
          ⟨ho,ho2,row,show Value.bool c≠Value.notImplemented∧Q (.bool c) s from ⟨(fun x=>nomatch x),hq⟩⟩ (by omega)
  | .none,_,_,_,_,_,_,_,_,_,_,_,_,_,h=>by simp [ltD] at h
  | .bool _,_,_,_,_,_,_,_,_,_,_,_,_,_,h=>by simp [ltD] at h
  | .list _,_,_,_,_,_,_,_,_,_,_,_,_,_,h=>by simp [ltD] at h
  | .dict _,_,_,_,_,_,_,_,_,_,_,_,_,_,h=>by simp [ltD] at h
  | .int _,.none,_,_,_,_,_,_,_,_,_,_,_,_,h=>by simp [ltD] at h
  | .int _,.bool _,_,_,_,_,_,_,_,_,_,_,_,_,h=>by simp [ltD] at h
  | .int _,.str _,_,_,_,_,_,_,_,_,_,_,_,_,h=>by simp [ltD] at h
  | .int _,.tuple _,_,_,_,_,_,_,_,_,_,_,_,_,h=>by simp [ltD] at h
  | .int _,.list _,_,_,_,_,_,_,_,_,_,_,_,_,h=>by simp [ltD] at h
  | .int _,.dict _,_,_,_,_,_,_,_,_,_,_,_,_,h=>by simp [ltD] at h
  | .str _,.none,_,_,_,_,_,_,_,_,_,_,_,_,h=>by simp [ltD] at h
  | .str _,.bool _,_,_,_,_,_,_,_,_,_,_,_,_,h=>by simp [ltD] at h
  | .str _,.int _,_,_,_,_,_,_,_,_,_,_,_,_,h=>by simp [ltD] at h
  | .str _,.tuple _,_,_,_,_,_,_,_,_,_,_,_,_,h=>by simp [ltD] at h
  | .str _,.list _,_,_,_,_,_,_,_,_,_,_,_,_,h=>by simp [ltD] at h
  | .str _,.dict _,_,_,_,_,_,_,_,_,_,_,_,_,h=>by simp [ltD] at h
  | .tuple _,.none,_,_,_,_,_,_,_,_,_,_,_,_,h=>by simp [ltD] at h
  | .tuple _,.bool _,_,_,_,_,_,_,_,_,_,_,_,_,h=>by simp [ltD] at h
  | .tuple _,.int _,_,_,_,_,_,_,_,_,_,_,_,_,h=>by simp [ltD] at h
  | .tuple _,.str _,_,_,_,_,_,_,_,_,_,_,_,_,h=>by simp [ltD] at h
  | .tuple _,.list _,_,_,_,_,_,_,_,_,_,_,_,_,h=>by simp [ltD] at h
  | .tuple _,.dict _,_,_,_,_,_,_,_,_,_,_,_,_,h=>by simp [ltD] at h
theorem DC:∀ (ds es:List PyData) (A:Around) (s:Shared) (us vs:List Value) (as bs:List Addr) (c:Bool),ReadsAll s.heap us ds as→ReadsAll s.heap vs es bs→PyData.canLayAll0 ds=true→PyData.canLayAll0 es=true→A.units+PyData.depthAll ds < cLine→ig ds es=some c→LtRow A s us vs c
  | [],[],A,s,_,_,_,_,c,ra,rb,_,_,_,h=>by cases ra;cases rb;cases h;exact .nn
  | [],_::_,A,s,_,_,_,_,c,ra,rb,_,_,_,h=>by cases ra;cases rb;cases h;exact .nc
  | _::_,[],A,s,_,_,_,_,c,ra,rb,_,_,_,h=>by cases ra;cases rb;cases h;exact .cn
  | x::xs,y::ys,A,s,_,_,_,_,c,ra,rb,ca,cb,hu,h=>by
    have ca':x.canLay0=true∧PyData.canLayAll0 xs=true:=by simpa [PyData.canLayAll0] using ca
    have cb':y.canLay0=true∧PyData.canLayAll0 ys=true:=by simpa [PyData.canLayAll0] using cb
    have hm:PyData.depthAll (x::xs)=max x.depth (PyData.depthAll xs):=rfl
    rw [hm] at hu
    cases ra with
    | cons r1 r2=>
      cases rb with
      | cons q1 q2=>
        have he:=SeqAt.eqAt_reads x y A s _ _ _ _ r1 q1 ca'.1 cb'.1 (by omega)
        unfold ig at h
        by_cases hq:PyData.eqv x y=true
        · rw [if_pos hq] at h
          rw [hq] at he
          exact .eq he (DC xs ys A s _ _ _ _ c r2 q2 ca'.2 cb'.2 (by omega) h)
        · rw [if_neg hq] at h
          rw [Bool.eq_false_iff.mpr hq] at he
          exact .ne he (BO x y A s _ _ _ _ c r1 q1 ca'.1 cb'.1 (by omega) h)
end
end
section
variable{X:Cx}{XO:XOT}{a b:Expr}{fa fb:FE}{pos:Pos}
def rLtG:R2:=fun x y H Q=>∃ (d e:PyData) (P P':PP) (c:Bool),Rep P H d x∧Rep P' H e y∧d.canLay0=true∧e.canLay0=true∧d.depth≤60∧ltD d e=some c∧Q (.bl c) H
theorem NP(hu:X.A.units+64 < cLine):OpR X (compareOp .Lt) rLtG:=by
  intro pins s σ H x y v u Q I rx ry h
  obtain ⟨d,e,P,P',c,r1,r2,c1,c2,hd,hl,q⟩:=h
  obtain ⟨as,ra⟩:=ym I d x v c1 r1 rx
  obtain ⟨bs,rb⟩:=ym I e y u c2 r2 ry
  exact BO d e X.A s v u as bs c ra rb c1 c2 (by omega) hl X.prog X.w X.xe _ ⟨.bl c,H,I,rfl,q⟩
theorem MU:OpD rLtG Fb true:=by
  intro H₀ Hs H l m x y d v u Q s0 s1 e rx ry q
  unfold Fb at e
  split at e
  · rename_i hc
    rw [Bool.and_eq_true,Bool.and_eq_true,decide_eq_true_eq] at hc
    cases hl:ltD x y with
    | none=>rw [hl] at e;cases e
    | some c=>
      rw [hl] at e
      cases e
      exact ⟨x,y,_,_,c,rx,ry,hc.1.1,hc.1.2,hc.2,hl,q _ H (Same.refl H) rfl⟩
  · cases e
theorem Mt(C:BC X)(ha:PE X a (tF XO fa))(hb:PE X b (tF XO fb)):PT X (.Compare a [.Lt] [b] pos) (yo (tF XO (Ks fa fb))):=mv (NP C.hu) MU ha hb (cu _)
end
def spR(cv:Nat→Value)(ar:Nat)(g:FR):Sp:=fun vs H Q E=>∃ p xs avs ds args d ds',vs=avs++[.ref p]∧avs.length+1=ar∧H p=some (.lst xs)∧Reps (fun _ _=>False) H ds xs∧Reps (fun _ a=>a≠p) H args avs∧g args ds=some (d,ds')∧
  ∀ v H' xs',Same (drp H p) H'→H' p=some (.lst xs')→Reps (fun _ _=>False) H' ds' xs'→Rep (fun _ a=>a≠p) H' d v→Q v H'
theorem Oi{cv:Nat→Value}{N:List Str}{p:Addr}{xs avs:List V}{ds args:List PyData}{H:Hp}(hn:avs.length+1≤N.length)(hp:H p=some (.lst xs))(r:Reps (fun _ _=>False) H ds xs)(ra:Reps (fun _ a=>a≠p) H args avs):
    SR ⟨cv,N.length,p⟩ (drp H p) (drp H p) (args.map (fun d=>some (.par d))++some (.lent ds)::List.replicate (N.length - args.length - 1) none) (L2.fz N (avs++[.ref p])) H:=by
  have hl:=ra.length
  refine ⟨Same.refl _,Kg H p,?_,?_,fun a=>if a=p then some args.length else none,fun a i e=>?_,fun a i e=>?_,fun i t e=>?_⟩
  · simp;omega
  · unfold L2.fz;simp;omega
  · by_cases z:a=p
    · unfold drp;rw [if_pos z]
    · rw [if_neg z] at e;cases e
  · by_cases z:a=p
    · subst z;exact ⟨.l xs,hp⟩
    · rw [if_neg z] at e;cases e
  · rcases Nat.lt_trichotomy i args.length with hi | hi | hi
    · rw [List.getElem?_append_left (by simpa using hi),List.getElem?_map] at e
      cases hx:args[i]? with
      | none=>rw [hx] at e;cases e
      | some d=>
        rw [hx] at e
        cases e
        obtain ⟨v,hv,rv⟩:=ra.get hx
        refine ⟨v,?_,rv.imp fun _ a q=>if_neg q⟩
        unfold L2.fz
        rw [List.getElem?_append_left (by simp;omega),List.getElem?_map,List.getElem?_append_left (by omega),hv]
        rfl
    · subst hi
      rw [List.getElem?_append_right (by simp)] at e
      simp only [List.length_map,Nat.sub_self,List.getElem?_cons_zero,Option.some.injEq] at e
      cases e
      refine ⟨xs,?_,if_pos rfl,hp,r⟩
      unfold L2.fz
      rw [List.getElem?_append_left (by simp;omega),List.getElem?_map,← hl,List.getElem?_append_right (Nat.le_refl _)]
      simp
    · rw [List.getElem?_append_right (by simp;omega)] at e
      obtain ⟨j,hj⟩:∃ j,i - (args.map (fun d=>some (Slot.par d))).length=j+1:=⟨i - args.length - 1,by simp;omega⟩
      rw [hj,List.getElem?_cons_succ,List.getElem?_replicate] at e
      split at e<;>cases e
theorem u8{P:Program}{w:World}{K:PySem.W.Frag}{mg:Str→Option Value}{base:Heap}{cv:Nat→Value}{x qual:Str}{st:Stmt}{f:Addr}{fd:FuncData}{N ps:List Str}{k:Nat}{b:FS}(M:MF mg)(F:Fun K x qual st f fd)(S:FnScope N ps (zq st))
    (hbody:∀ (lend:Addr) (cdv:Value) (A:Around) (outer:List Env) (s:Shared) (H:Hp) (E:XK),Body P w cv k (i3 (CX1 P w) P w K mg base N qual (zq st) f cdv A outer s H E) (fun c _ H'=>E (cv c) none H')→
      PSs (i3 (CX1 P w) P w K mg base N qual (zq st) f cdv A outer s H E) (vb st) (tS ⟨cv,N.length,lend⟩ (fun c _ H'=>E (cv c) none H') b)):
    FnOk P w K mg base (CX1 P w) (k+1) f fd ps (spR cv ps.length (qj N.length b)):=by
  obtain ⟨oc,od,kV,doc,pm,an,cdv,ct,osl,rfl,lk,hcd⟩:=F.ex
  refine M8 lk hcd S (fun vs H Q E h=>?_) fun A outer s H vs Q E hr hsp=>?_
  · obtain ⟨p,xs,avs,ds,args,d,ds',rfl,hl,_⟩:=h
    simpa using hl
  obtain ⟨p,xs,avs,ds,args,d,ds',rfl,hl,hp,rp,ra,hg,hok⟩:=hsp
  refine ⟨tS ⟨cv,N.length,p⟩ (fun c _ H'=>E (cv c) none H') b,hbody p cdv A outer s H E ⟨⟨hr.units,M.mlen,M.mint,M.mbool,M.mstr,M.mtuple,M.mlist,M.misi,M.mrange,M.menum,M.mzip,M.mrev⟩,hr,Ef,Fa,PassesOwn.leaving,rfl,S.nd⟩,?_⟩
  have hn:avs.length+1≤N.length:=by
    have:=congrArg List.length S.pre
    rw [List.length_take] at this
    omega
  have g:=Oi (cv:=cv) hn hp rp ra
  unfold qj at hg
  cases hb:b (args.map (fun d=>some (.par d))++some (.lent ds)::List.replicate (N.length - args.length - 1) none) with
  | none=>rw [hb] at hg;cases hg
  | some y=>
    rw [hb] at hg
    refine ⟨drp H p,drp H p,_,y,g,hb,?_⟩
    cases y with
    | retL d' ds2=>
      cases hg
      intro v H' s1 rv ⟨vs,h1,h2⟩
      exact hok v H' vs s1 h1 h2 rv
    | ret d=>cases hg
    | next ρ'=>cases hg
    | exc c ρ'=>cases hg
    | brk ρ'=>cases hg
    | cont ρ'=>cases hg
structure FnR(CX:CXT)(P:Program)(w:World)(K:PySem.W.Frag)(mg:Str→Option Value)(base:Heap)(cv:Nat→Value)(n:Nat)(x:Str)(ar:Nat)(g:FR):Prop where
  ex:∃ f fd ps,FnOk P w K mg base CX n f fd ps (spR cv ar g)∧mg x=some (.ref f)∧PySem.W.keepIn K (.ref f)=true∧Binds K fd ps []
section
variable{P:Program}{w:World}{K:PySem.W.Frag}{mg:Str→Option Value}{base:Heap}{cv:Nat→Value}{CX:CXT}{n ar:Nat}{x:Str}{st:Stmt}{ps:List Str}{g:FR}
theorem Es(F:FunT K mg x st ps):FnR CX P w K mg base cv 0 x ar (fun _ _=>none):=by
  obtain ⟨f,fd,F,hm,hb,_⟩:=F.ex
  have no:∀ vs H Q E,¬ spR cv ar (fun _ _=>none) vs H Q E:=fun vs H Q E h=>by
    obtain ⟨p,xs,avs,ds,args,d,ds',_,_,_,_,_,z,_⟩:=h
    cases z
  exact ⟨f,fd,ps,⟨fun vs H Q E h=>absurd h (no vs H Q E),fun A outer s H args us vs Q E _ _ _ _ h=>absurd h (no vs H Q E)⟩,hm,F.kp,hb⟩
theorem DP(F:FunT K mg x st ps)(ok:∀ f fd,Fun K x x st f fd→FnOk P w K mg base CX n f fd ps (spR cv ar g)):FnR CX P w K mg base cv n x ar g:=by
  obtain ⟨f,fd,F,hm,hb,_⟩:=F.ex
  exact ⟨f,fd,ps,ok f fd F,hm,F.kp,hb⟩
end
def tX1(XO:XOT)(K:PySem.W.Frag):Arg→TE
  | .f e=>tF XO e
  | .n j=>By j
  | .x j k=>tOp (rIx K) (By j) (tC (.int (k:Int)))
def tXA(XO:XOT)(K:PySem.W.Frag):List Arg→Nat→TA
  | [],i=>Gu (By i) tNil
  | a::as,i=>Gu (tX1 XO K a) (tXA XO K as i)
section
variable{X:Cx}{XO:XOF}{cv:Cfg}{pos p:Pos}{H₀ F H:Hp}{ρ:Rho}{σ:L2.St}{e:Expr}{es:List Expr}{f:FE}{as:List Arg}{i:Nat}
theorem wu(i:Nat){x:Str}{xp:Pos}(hN:X.N[i]? =some x:=by rfl)(hv:Vis X.env.scope x:=by first | exact Or.inl rfl | exact Or.inr (Or.inl rfl) | exact Or.inr (Or.inr rfl))(hd:(x == ("__debug__":Str))=false:=by decide)(hcd:(x == ("__classdict__":Str))=false:=by decide)
    (hs:starEach [.Name x xp] X.env=(false,eval (.Name x xp) X.env)::starEach [] X.env:=by exact q0 rfl):PA X [.Name x xp] (tXA ⟨cv.cv,XO⟩ X.K [] i):=wx (w5 (i:=i) hN hv hd hcd) gy hs
theorem uv(h:PE X e (tF ⟨cv.cv,XO⟩ f))(t:PA X es (tXA ⟨cv.cv,XO⟩ X.K as i))(hs:starEach (e::es) X.env=(false,eval e X.env)::starEach es X.env:=by exact q0 rfl):PA X (e::es) (tXA ⟨cv.cv,XO⟩ X.K (.f f::as) i):=wx h t hs
theorem xo(j:Nat){x:Str}{xp:Pos}(t:PA X es (tXA ⟨cv.cv,XO⟩ X.K as i))(hN:X.N[j]? =some x:=by rfl)(hv:Vis X.env.scope x:=by first | exact Or.inl rfl | exact Or.inr (Or.inl rfl) | exact Or.inr (Or.inr rfl))(hd:(x == ("__debug__":Str))=false:=by decide)(hcd:(x == ("__classdict__":Str))=false:=by decide)
    (hs:starEach (.Name x xp::es) X.env=(false,eval (.Name x xp) X.env)::starEach es X.env:=by exact q0 rfl):PA X (.Name x xp::es) (tXA ⟨cv.cv,XO⟩ X.K (.n j::as) i):=wx (w5 (i:=j) hN hv hd hcd) t hs
theorem KU(j k:Nat){x:Str}{xp kp sp:Pos}{c:Nat}(t:PA X es (tXA ⟨cv.cv,XO⟩ X.K as i))(hN:X.N[j]? =some x:=by rfl)(hv:Vis X.env.scope x:=by first | exact Or.inl rfl | exact Or.inr (Or.inl rfl) | exact Or.inr (Or.inr rfl))(hd:(x == ("__debug__":Str))=false:=by decide)(hcd:(x == ("__classdict__":Str))=false:=by decide)
    (hs:starEach (.Subscript (.Name x xp) (.Constant (.int (k:Int)) c kp) sp::es) X.env=(false,eval (.Subscript (.Name x xp) (.Constant (.int (k:Int)) c kp) sp) X.env)::starEach es X.env:=by exact q0 rfl):PA X (.Subscript (.Name x xp) (.Constant (.int (k:Int)) c kp) sp::es) (tXA ⟨cv.cv,XO⟩ X.K (.x j k::as) i):=
  wx (M0 IC (w5 (i:=j) hN hv hd hcd) CF (fun _ _=>rfl)) t hs
theorem Ni{rs:List PyData}{O:Own}(o:SO cv H₀ F ρ σ H O)(h:uu ρ i=some rs):∃ q xs,σ[i]? =some (some (.ref q))∧O q=some i∧H q=some (.lst xs)∧Reps (fun _ _=>False) H rs xs∧(∀ t,ρ[i]? =some (some (.lent t))→q=cv.lend):=by
  unfold uu at h
  split at h
  · rename_i ds hρ
    cases h
    obtain ⟨q,vs,e,hq,hp,r⟩:=o.sl i _ hρ
    exact ⟨q,vs,e,hq,hp,r,fun t z=>by rw [hρ] at z;cases z⟩
  · rename_i ds hρ
    cases h
    obtain ⟨vs,e,hq,hp,r⟩:=o.sl i _ hρ
    exact ⟨cv.lend,vs,e,hq,hp,r,fun t z=>rfl⟩
  · cases h
theorem cj{O:Own}{j:Nat}{d:PyData}{q:Addr}(o:SO cv H₀ F ρ σ H O)(hq:O q=some i)(hj:j≠i)(h:vn ρ[j]? =some d):∃ v,σ[j]? =some (some v)∧Rep (fun _ a=>a≠q) H d v:=by
  have ne:∀ a,O a=none→a≠q:=fun a z y=>by rw [y,hq] at z;cases z
  unfold vn at h
  split at h
  · rename_i hρ
    cases h
    obtain ⟨v,e,r⟩:=o.sl j _ hρ
    exact ⟨v,e,r.imp fun _ a z=>ne a z⟩
  · rename_i hρ
    cases h
    obtain ⟨v,e,r⟩:=o.sl j _ hρ
    exact ⟨v,e,r.imp fun _ a z=>ne a z.2.1⟩
  · rename_i ds hρ
    cases h
    obtain ⟨p,vs,e,hp,hv,r⟩:=o.sl j _ hρ
    refine ⟨.ref p,e,p,vs,rfl,.inl ⟨fun y=>?_,hv⟩,r.imp fun _ _ z=>z.elim⟩
    rw [y,hq] at hp
    cases hp
    exact hj rfl
  · cases h
theorem SO.same{O:Own}{H1:Hp}(o:SO cv H₀ F ρ σ H O)(s1:Same H H1):SO cv H₀ F ρ σ H1 O:=⟨o.fr,fun a i e=>let ⟨vs,q⟩:=o.ls a i e;⟨vs,s1 _ _ q⟩,fun i t e=>(o.sl i t e).same s1⟩
theorem Gy{O:Own}{q:Addr}:∀ (as:List Arg) (ds:List PyData) (H:Hp) (Q:List V→Hp→Prop),SR cv H₀ F ρ σ H→SO cv H₀ F ρ σ H O→σ[i]? =some (some (.ref q))→O q=some i→v8 i ρ as=some ds→
    (∀ avs H1,Same H H1→Reps (fun _ a=>a≠q) H1 ds avs→Q (avs++[.ref q]) H1)→tXA ⟨cv.cv,XO⟩ X.K as i σ H Q
  | [],ds,H,Q,g,o,hσ,hO,ha,k=>by
    cases ha
    exact ⟨.ref q,hσ,k [] H (Same.refl H) rfl⟩
  | a::as,ds,H,Q,g,o,hσ,hO,ha,k=>by
    unfold v8 at ha
    split at ha
    case h_2=>cases ha
    rename_i d ds' h1 h2
    cases ha
    have rest:∀ v H1,Same H H1→Rep (fun _ a=>a≠q) H1 d v→tXA ⟨cv.cv,XO⟩ X.K as i σ H1 fun vs H2=>Q (v::vs) H2:=fun v H1 s1 r1=>
      Gy as ds' H1 _ (g.same s1) (o.same s1) hσ hO h2 fun avs H2 s2 r2=>k (v::avs) H2 (s1.trans s2) ⟨v,avs,rfl,r1.same s2,r2⟩
    cases a with
    | f e=>
      simp only [bg] at h1
      split at h1
      · rename_i l d' he
        split at h1
        · rename_i hl
          cases h1
          refine ⟨H₀,H,ρ,.ok l d,g.g,he,⟨fun l' d' v H' e' s rp=>?_,fun c H' e=>(nomatch e)⟩⟩
          cases e'
          exact rest v H' s (rp.nl hl)
        · cases h1
      · cases h1
    | n j=>
      simp only [bg] at h1
      split at h1
      · cases h1
      · rename_i hj
        obtain ⟨v,e,r⟩:=cj o hO hj h1
        exact ⟨v,e,rest v H (Same.refl H) r⟩
    | x j k'=>
      simp only [bg] at h1
      split at h1
      · cases h1
      · rename_i hj
        split at h1
        · rename_i es hs
          obtain ⟨v,e,pa,vs,rfl,rl,rs⟩:=cj o hO hj hs
          obtain ⟨w,hw,rw'⟩:=rs.get h1
          have hlt:=(List.getElem?_eq_some_iff.mp hw).1
          have hat:L2.atI vs (k':Int)=some w:=by
            unfold L2.atI L2.ixN
            rw [if_pos (by omega),if_pos (by omega)]
            simpa using hw
          exact ⟨.ref pa,e,.inl ⟨pa,vs,(k':Int),w,rfl,rfl,.inl rl.rd,hat,rest w H (Same.refl H) rw'⟩⟩
        · cases h1
theorem HS{O:Own}{q:Addr}{H1 H':Hp}{xs':List V}{rs rs':List PyData}(g:SR cv H₀ F ρ σ H1)(o:SO cv H₀ F ρ σ H1 O)(hr:uu ρ i=some rs)(hσ:σ[i]? =some (some (.ref q)))(hO:O q=some i){xs:List V}(hp:H1 q=some (.lst xs))(hlend:∀ t,ρ[i]? =some (some (.lent t))→q=cv.lend)
    (sm:Same (drp H1 q) H') (hq:H' q=some (.lst xs')) (r':Reps (fun _ _=>False) H' rs' xs'):SR cv H₀ F (bj ρ i rs') σ H'∧SO cv H₀ F (bj ρ i rs') σ H' (fun a=>if a=q then some i else none):=by
  have sm':∀ b u,b≠q→H1 b=some u→H' b=some u:=fun b u n z=>sm b u (by unfold drp;rw [if_neg n];exact z)
  have hil:i < ρ.length:=by
    unfold uu at hr
    split at hr
    · rename_i h;exact (List.getElem?_eq_some_iff.mp h).1
    · rename_i h;exact (List.getElem?_eq_some_iff.mp h).1
    · cases hr
  have hT:∀ a xs,Rd H1 a (.tup xs)→Rd H' a (.tup xs):=fun a xs h=>by
    have hne:a≠q:=by
      intro z;subst z
      rcases h with h | ⟨_,h⟩<;>(rw [hp] at h;cases h)
    rcases h with h | ⟨u,h⟩
    · exact .inl (sm' _ _ hne h)
    · exact .inr ⟨u,sm' _ _ hne h⟩
  have ne:∀ a,O a=none→a≠q:=fun a z y=>by rw [y,hO] at z;cases z
  have hL:∀ {P P':PP},(∀ z a,P z a→O a=none∧P' z a)→∀ a (ws:HO),Rl P H1 a ws→Rl P' H' a ws:=fun {P P'} hP a ws rl=>by
    rcases rl with ⟨w,e⟩ | ⟨w,u,e⟩
    · exact .inl ⟨(hP _ _ w).2,sm' _ _ (ne _ (hP _ _ w).1) e⟩
    · exact .inr ⟨(hP _ _ w).2,u,sm' _ _ (ne _ (hP _ _ w).1) e⟩
  have so:SO cv H₀ F (bj ρ i rs') σ H' (fun a=>if a=q then some i else none):=by
    refine ⟨fun a j e=>?_,fun a j e=>?_,fun j t e=>?_⟩
    · by_cases z:a=q
      · subst z;exact o.fr a i hO
      · rw [if_neg z] at e;cases e
    · by_cases z:a=q
      · subst z;exact ⟨.l xs',hq⟩
      · rw [if_neg z] at e;cases e
    · unfold bj at e
      by_cases hij:i=j
      · subst hij
        rw [qz _ _ _ _ (by simpa using hil),if_pos rfl] at e
        unfold mk at e
        split at e
        · cases e;exact ⟨q,xs',hσ,if_pos rfl,hq,r'⟩
        · rename_i t' hρ
          cases e
          have hl:=hlend _ hρ
          subst hl
          exact ⟨xs',hσ,if_pos rfl,hq,r'⟩
        · cases e
      · rw [qz _ _ _ _ (by simpa using hil),if_neg hij,List.getElem?_map] at e
        cases hx:ρ[j]? with
        | none=>rw [hx] at e;cases e
        | some os=>
          rw [hx] at e
          simp only [Option.map_some,Option.some.injEq] at e
          cases os with
          | none=>cases e
          | some t0=>
            have sl:=o.sl j t0 hx
            cases t0 with
            | par d=>cases e;obtain ⟨w,e1,rr⟩:=sl;exact ⟨w,e1,Rep.mono hT (hL fun _ a x=>⟨x,if_neg (ne a x)⟩) d w rr⟩
            | loc d=>cases e;obtain ⟨w,e1,rr⟩:=sl;exact ⟨w,e1,Rep.mono hT (hL fun _ a x=>⟨x.2.1,x.1,if_neg (ne a x.2.1),x.2.2⟩) d w rr⟩
            | own ds=>
              cases e
              obtain ⟨p,vs,e1,hp',hv,rr⟩:=sl
              have hne:p≠q:=fun z=>by rw [z,hO] at hp';cases hp';exact hij rfl
              exact ⟨.ref p,e1,p,vs,rfl,.inl ⟨⟨rfl,if_neg hne,g.s0.free (o.fr p j hp')⟩,sm' _ _ hne hv⟩,Reps.mono hT (fun a ws rl=>by rcases rl with ⟨z,_⟩ | ⟨z,_⟩<;>exact z.elim) _ _ rr⟩
            | own2 ds=>
              cases e
              obtain ⟨p,vs,e1,hp',hv,rr⟩:=sl
              have hne:p≠q:=fun z=>by rw [z,hO] at hp';cases hp';exact hij rfl
              exact ⟨.ref p,e1,p,vs,rfl,.inl ⟨⟨rfl,if_neg hne,g.s0.free (o.fr p j hp')⟩,sm' _ _ hne hv⟩,Reps.mono hT (hL fun _ a x=>⟨x.2.1,x.1,if_neg (ne a x.2.1),x.2.2⟩) _ _ rr⟩
            | dct ks=>cases e
            | lent ds=>cases e
            | ex c=>
              cases e
              obtain ⟨w,e1,φ,hx',hφ⟩:=sl
              have hne:w≠q:=fun z=>by rw [z,hp] at hx';cases hx'
              exact ⟨w,e1,φ,sm' _ _ hne hx',hφ⟩
  refine ⟨⟨g.s0,fun b u e=>?_,by unfold bj;simp [g.len],g.ln,_,so⟩,so⟩
  refine sm' b u (fun z=>?_) (g.s1 b u e)
  subst z;rw [o.fr b i hO] at e;cases e
end
section
variable{X:Cx}{XO:XOF}{cv:Cfg}{CX:CXT}{pos p:Pos}{H₀ F H:Hp}{ρ:Rho}{σ:L2.St}{e:Expr}{es:List Expr}{as:List Arg}{i n ar:Nat}{x:Str}{g:FR}
def tRC(cv:Cfg)(XO:XOF)(K:PySem.W.Frag)(as:List Arg)(i ar:Nat)(g:FR):TE:=fun σ H Q=>tXA ⟨cv.cv,XO⟩ K as i σ H fun vs H1=>spR cv.cv ar g vs H1 Q (fun cls _ H'=>∃ c,cls=cv.cv c∧XO c σ H')
theorem qh(F:FnR CX X.prog X.w X.K X.mg X.base cv.cv n x ar g)(hr:Room n X.A)(L:DX CX X ⟨cv.cv,XO⟩)(ha:PA X (e::es) (tXA ⟨cv.cv,XO⟩ X.K as i))(hg:Gl X x:=by rfl)(hdb:(x == ("__debug__":Str))=false:=by decide)
    (he:starEach (e::es) X.env=(false,eval e X.env)::starEach es X.env:=by exact q0 rfl) (hpl:(backTo pos (starEach es X.env)).any (·.1)=false:=by exact w6 rfl):PE X (.Call (.Name x p) (e::es) [] pos) (tRC cv XO X.K as i ar g):=by
  obtain ⟨f,fd,ps,F,hm,hk,hb⟩:=F.ex
  intro pins s σ H Q I hA
  refine wpAny_Call_Name_kw (Cw I hg hm ?_ hdb)
  refine PySem.W.callWith_K (h₀:=X.base) I.ok.mod.kin hk (thn (ha pos pins s σ H _ I hA) fun us s1 ⟨vs,H1,I1,r,q⟩=>⟨I1.kIn,?_⟩) he hpl
  have hl:(us++[]).length=ps.length:=by rw [List.append_nil,← r.length];exact F.len _ _ _ _ q
  have hB:=hb s1 us I1.kIn hl
  rw [List.append_nil] at hB
  refine wpAny_call (codeAny_mono (F.run X.A X.stack s1 H1 ⟨us,[]⟩ us vs Q _ hr I1.env0 hB r q) fun r s' hq=>?_)
  cases r with
  | error e=>exact L pins σ H1 s1 e s' I1 hq
  | ok fl=>
    cases fl with
    | ret u=>exact I1.after hq
    | next=>exact False.elim hq
    | brk=>exact False.elim hq
    | cont=>exact False.elim hq
theorem nj{d:PyData}{rs':List PyData}{Q:VK}{K:PySem.W.Frag}(hK:K=X.K)(gg:SR cv H₀ F ρ σ H)(hn:Nat.beq ar (as.length+1)=true)(hc:vv g as i ρ=some (d,rs'))
    (k:∀ q v H' xs',SR cv H₀ F (bj ρ i rs') σ H'→SO cv H₀ F (bj ρ i rs') σ H' (fun a=>if a=q then some i else none)→H' q=some (.lst xs')→Reps (fun _ _=>False) H' rs' xs'→(∀ t,ρ[i]? =some (some (.lent t))→q=cv.lend)→Rep (fun _ a=>a≠q) H' d v→Q v H'):
    tRC cv XO K as i ar g σ H Q:=by
  subst hK
  unfold vv at hc
  split at hc
  case h_2=>cases hc
  rename_i ds rs ha hr
  obtain ⟨O,o⟩:=gg.ex
  obtain ⟨q,xs,hσ,hO,hp,rrs,hlend⟩:=Ni o hr
  refine Gy as ds H _ gg o hσ hO ha fun avs H1 s1 ra=>⟨q,xs,avs,rs,ds,d,rs',rfl,?_,s1 _ _ hp,rrs.same s1,ra,hc,fun v H' xs' sm hq r' rv=>?_⟩
  · rw [ra.length,Nat.eq_of_beq_eq_true hn]
    clear hσ hO hp rrs hlend hr k s1 ra hn hc
    have:∀ (as:List Arg) (ds:List PyData),v8 i ρ as=some ds→ds.length=as.length:=by
      intro as
      induction as with
      | nil=>intro ds h;cases h;rfl
      | cons a as ih=>
        intro ds h
        unfold v8 at h
        split at h
        · rename_i d ds' h1 h2
          cases h
          simp [ih _ h2]
        · cases h
    rw [this as ds ha]
  · obtain ⟨g2,o2⟩:=HS (gg.same s1) (o.same s1) hr hσ hO (s1 _ _ hp) hlend sm hq r'
    exact k q v H' xs' g2 o2 hq r' hlend rv
theorem SR.putO{O:Own}{j:Nat}{v:V}{t:Slot}(g:SR cv H₀ F ρ σ H)(o:SO cv H₀ F ρ σ H O)(hi':Nat.blt j cv.n=true)(ht:SS cv H₀ O (some (some v)) j H t):SR cv H₀ F (ρ.set j (some t)) (σ.set j (some v)) H:=by
  have hi:j < σ.length:=by rw [g.ln];exact Nat.ble_eq.mp hi'
  have hρ:j < ρ.length:=by rw [g.len];exact Nat.ble_eq.mp hi'
  refine ⟨g.s0,g.s1,by simp [g.len],by simp [g.ln],O,o.fr,o.ls,fun k t' e=>?_⟩
  by_cases hij:j=k
  · subst hij
    rw [qz _ _ _ _ hρ,if_pos rfl] at e
    cases e
    rw [qz _ _ _ _ hi,if_pos rfl]
    exact ht
  · rw [qz _ _ _ _ hρ,if_neg hij] at e
    rw [qz _ _ _ _ hi,if_neg hij]
    exact o.sl k t' e
theorem gh(j:Nat){y:Str}{pos':Pos}(hnd:X.N.Nodup)(hp:PE X e (tRC cv XO X.K as i ar g))(hn:Nat.beq ar (as.length+1)=true:=by rfl)(hj:X.N[j]? =some y:=by rfl)(hy:Loc X.env.scope y:=by first | exact Or.inl rfl | exact Or.inr rfl)
    (hs:swapsWith e (some (.Name y pos')) pos.line X.env=pure false:=by rfl) (hf:X.fn y=true∨X.env.scope.names.lookup y=some .local:=by first | exact .inl rfl | exact .inr rfl | assumption)
    (hjn:Nat.blt j cv.n=true:=by rfl):PS X (.Assign [.Name y pos'] e pos) (tS cv XO (wq j g as i)):=by
  intro pins s σ H D I ⟨H₀,F,ρ,r,gg,e',k⟩
  refine ol hnd hj hy hp hs hf pins s σ H D I ?_
  unfold wq at e'
  split at e'
  · rename_i d rs hc
    split at e'
    · cases e'
    · cases e'
      exact nj (X:=X) rfl gg hn hc fun q v H' xs' g2 o2 hq r' hl rv=>k _ _ (g2.putO o2 hjn ⟨v,rfl,rv.imp fun _ a z=>if_neg z⟩)
  · cases e'
theorem C2(hp:PE X e (tRC cv XO X.K as i ar g))(hn:Nat.beq ar (as.length+1)=true:=by rfl)(hs:swapsWith e none pos.line X.env=pure false:=by rfl):PS X (.Expr e pos) (tS cv XO (cw g as i)):=by
  intro pins s σ H D I ⟨H₀,F,ρ,r,gg,e',k⟩
  refine m7 hp hs pins s σ H D I ?_
  unfold cw at e'
  split at e'
  · rename_i d rs hc
    cases e'
    exact nj (X:=X) rfl gg hn hc fun q v H' xs' g2 o2 hq r' hl rv=>k _ _ g2
  · cases e'
theorem GS(h:ui ρ i=true):∃ t,ρ[i]? =some (some (.lent t)):=by
  unfold ui at h
  split at h
  · rename_i t ht;exact ⟨t,ht⟩
  · cases h
theorem oz{K:PySem.W.Frag}{D:Ends}{r:RS}(hK:K=X.K)(gg:SR cv H₀ F ρ σ H)(hn:Nat.beq ar (as.length+1)=true)(e':fq g as i ρ=some r)(k:KS cv XO H₀ F D r):tRC cv XO K as i ar g σ H D.rt:=by
  unfold fq at e'
  split at e'
  · rename_i d rs hc
    split at e'
    · rename_i hl
      cases e'
      obtain ⟨t,ht⟩:=GS hl
      exact nj (X:=X) hK gg hn hc fun q v H' xs' g2 o2 hq r' hl rv=>by
        have:=hl t ht
        subst this
        exact k v H' g2.s1 rv ⟨xs',hq,r'⟩
    · cases e'
  · cases e'
theorem CJ(hp:PE X e (tRC cv XO X.K as i ar g))(hn:Nat.beq ar (as.length+1)=true:=by rfl):PS X (.Return (some e) pos) (tS cv XO (fq g as i)):=by
  intro pins s σ H D I ⟨H₀,F,ρ,r,gg,e',k⟩
  exact lj hp pins s σ H D I (oz (X:=X) rfl gg hn e' k)
theorem IY{c a b:Expr}{fc:FE}{as2:List Arg}{i2 ar2:Nat}{g2:FR}{ip:Pos}(hc:PT X c (yo (tF ⟨cv.cv,XO⟩ fc)))(ha:PE X a (tRC cv XO X.K as i ar g))(hb:PE X b (tRC cv XO X.K as2 i2 ar2 g2))(hn:Nat.beq ar (as.length+1)=true:=by rfl)(hn2:Nat.beq ar2 (as2.length+1)=true:=by rfl):
    PS X (.Return (some (.IfExp c a b ip)) pos) (tS cv XO (sIf fc (fq g as i) (fq g2 as2 i2))):=by
  intro pins s σ H D I ⟨H₀,F,ρ,r,gg,e',k⟩
  refine lj (Kl hc ha hb) pins s σ H D I ?_
  unfold sIf at e'
  refine xh gg e' k fun l d v H1 s1 r1 e1=>?_
  split at e1
  · exact ⟨true,r1,L2.Gg (oz (X:=X) rfl (gg.same s1) hn e1 k)⟩
  · exact ⟨false,r1,L2.FZ (oz (X:=X) rfl (gg.same s1) hn2 e1 k)⟩
  · cases e1
theorem LJ{tp:Pos}{tpos:Pos}(C:BC X)(hp:PE X e (tRC cv XO X.K as i ar g))(hn:Nat.beq ar (as.length+1)=true:=by rfl)(hg:Gl X "tuple":=by rfl)(he:starEach [e] X.env=(false,eval e X.env)::starEach [] X.env:=by exact q0 rfl)(hpl:(backTo tpos (starEach [] X.env)).any (·.1)=false:=by exact w6 rfl):
    PS X (.Return (some (.Call (.Name "tuple" tp) [e] [] tpos)) pos) (tS cv XO (Do g as i)):=by
  intro pins s σ H D I ⟨H₀,F,ρ,r,gg,e',k⟩
  refine lj (B4 iq hg C.mtuple PyProof.Rows.boot_tuple (wx hp gy he) (by decide) (by decide) he hpl) pins s σ H D I ?_
  unfold Do at e'
  split at e'
  · rename_i xs rs hc
    split at e'
    · rename_i hl
      rw [Bool.and_eq_true] at hl
      cases e'
      obtain ⟨t,ht⟩:=GS hl.1
      refine nj (X:=X) rfl gg hn hc fun q v H' xs' g2 o2 hq r' hl' rv=>?_
      have:=hl' t ht
      subst this
      obtain ⟨pa,vs,rfl,rl,rr⟩:=rv
      refine ⟨pa,vs,rfl,.inl ⟨.inl rl.rd,fun l hln=>?_⟩⟩
      have sn:Same H' (upd H' l (.tup vs)):=qb hln _
      exact k _ _ (g2.s1.trans sn) ⟨l,vs,rfl,.inl z9,(rr.nl hl.2).same sn⟩ ⟨xs',sn _ _ hq,r'.same sn⟩
    · cases e'
  · cases e'
theorem bd(i:Nat){f:FE}(h:PE X e (tF ⟨cv.cv,XO⟩ f)):PS X (.Return (some e) pos) (tS cv XO (vp i f)):=by
  intro pins s σ H D I ⟨H₀,F,ρ,r,gg,e',k⟩
  refine lj h pins s σ H D I ?_
  unfold vp at e'
  split at e'
  · rename_i rs hρ
    obtain ⟨O,vs,o,hσ,hO,hp,rrs⟩:=gg.lentT hρ
    refine xh gg e' k fun l d v H1 s1 r1 e1=>?_
    split at e1
    · rename_i hc
      cases e1
      refine k v H1 (gg.s1.trans s1) ?_ ⟨vs,s1 _ _ hp,rrs.same s1⟩
      by_cases hl:lf d=true
      · exact r1.nl hl
      · have h2:2≤l:=by
          rw [Bool.or_eq_true] at hc
          exact of_decide_eq_true (hc.resolve_left hl)
        refine r1.imp fun z a pz y=>?_
        subst y
        match l,h2,pz with
        | l+2,_,pz=>rw [pz.2] at hp;cases hp
    · cases e1
  · cases e'
theorem Dh(i j:Nat){y:Str}{yp:Pos}(hN:X.N[j]? =some y:=by rfl)(hv:Vis X.env.scope y:=by first | exact Or.inl rfl | exact Or.inr (Or.inl rfl) | exact Or.inr (Or.inr rfl))(hd:(y == ("__debug__":Str))=false:=by decide)(hcd:(y == ("__classdict__":Str))=false:=by decide):
    PS X (.Return (some (.Name y yp)) pos) (tS cv XO (ay i j)):=by
  intro pins s σ H D I ⟨H₀,F,ρ,r,gg,e',k⟩
  refine lj (w5 (i:=j) hN hv hd hcd) pins s σ H D I ?_
  unfold ay at e'
  split at e'
  · rename_i rs hρ
    obtain ⟨O,vs,o,hσ,hO,hp,rrs⟩:=gg.lentT hρ
    split at e'
    · rename_i d hd'
      cases e'
      split at hd'
      · cases hd'
      · rename_i hj
        obtain ⟨v,ev,rv⟩:=cj o hO hj hd'
        exact ⟨v,ev,k v H gg.s1 rv ⟨vs,hp,rrs⟩⟩
    · cases e'
  · cases e'
theorem JK(i j k':Nat){y z:Str}{yp zp lp:Pos}(hN:X.N[j]? =some y:=by rfl)(hv:Vis X.env.scope y:=by first | exact Or.inl rfl | exact Or.inr (Or.inl rfl) | exact Or.inr (Or.inr rfl))(hd:(y == ("__debug__":Str))=false:=by decide)(hcd:(y == ("__classdict__":Str))=false:=by decide)
    (hN2:X.N[k']? =some z:=by rfl) (hv2:Vis X.env.scope z:=by first | exact Or.inl rfl | exact Or.inr (Or.inl rfl) | exact Or.inr (Or.inr rfl)) (hd2:(z == ("__debug__":Str))=false:=by decide) (hcd2:(z == ("__classdict__":Str))=false:=by decide)
    (hs1:starEach [.Name y yp,.Name z zp] X.env=(false,eval (.Name y yp) X.env)::starEach [.Name z zp] X.env:=by exact q0 rfl) (hs2:starEach [.Name z zp] X.env=(false,eval (.Name z zp) X.env)::starEach [] X.env:=by exact q0 rfl):
    PS X (.Return (some (.List [.Name y yp,.Name z zp] lp)) pos) (tS cv XO (B3 i j k')):=by
  intro pins s σ H D I ⟨H₀,F,ρ,r,gg,e',k⟩
  refine lj (JP (wx (w5 (i:=j) hN hv hd hcd) (wx (w5 (i:=k') hN2 hv2 hd2 hcd2) gy hs2) hs1)) pins s σ H D I ?_
  unfold B3 at e'
  split at e'
  · rename_i rs hρ
    obtain ⟨O,vs,o,hσ,hO,hp,rrs⟩:=gg.lentT hρ
    split at e'
    · rename_i d1 d2 h1 h2
      cases e'
      split at h1
      · cases h1
      · rename_i hj
        split at h2
        · cases h2
        · rename_i hk
          obtain ⟨v1,ev1,rv1⟩:=cj o hO hj h1
          obtain ⟨v2,ev2,rv2⟩:=cj o hO hk h2
          refine ⟨v1,ev1,v2,ev2,(by decide:2≤sizeLine),fun l hln=>?_⟩
          have sn:Same H (upd H l (.lst [v1,v2])):=qb hln _
          refine k _ _ (gg.s1.trans sn) ⟨l,[v1,v2],rfl,.inl ⟨fun y=>?_,z9⟩,v1,[v2],rfl,rv1.same sn,v2,[],rfl,rv2.same sn,rfl⟩ ⟨vs,sn _ _ hp,rrs.same sn⟩
          rw [y,hp] at hln
          cases hln
    · cases e'
  · cases e'
theorem FW(j i:Nat){x y:Str}{xp yp:Pos}(hnd:X.N.Nodup)(hN:X.N[i]? =some x:=by rfl)(hv:Vis X.env.scope x:=by first | exact Or.inl rfl | exact Or.inr (Or.inl rfl) | exact Or.inr (Or.inr rfl))(hd:(x == ("__debug__":Str))=false:=by decide)(hcd:(x == ("__classdict__":Str))=false:=by decide)
    (hj:X.N[j]? =some y:=by rfl) (hy:Loc X.env.scope y:=by first | exact Or.inl rfl | exact Or.inr rfl) (hs:swapsWith (.Name x xp) (some (.Name y yp)) pos.line X.env=pure false:=by rfl) (hf:X.fn y=true∨X.env.scope.names.lookup y=some .local:=by first | exact .inl rfl | exact .inr rfl | assumption)
    (hjn:Nat.blt j cv.n=true:=by rfl):PS X (.Assign [.Name y yp] (.Name x xp) pos) (tS cv XO (nk j i)):=by
  intro pins s σ H D I ⟨H₀,F,ρ,r,gg,e',k⟩
  refine ol hnd hj hy (w5 (i:=i) hN hv hd hcd) hs hf pins s σ H D I ?_
  unfold nk at e'
  split at e'
  · rename_i ds hρ
    split at e'
    · cases e'
    · rename_i hij
      cases e'
      obtain ⟨O,q,vs,o,hσ,hO,hp,rs⟩:=gg.own hρ
      refine ⟨.ref q,hσ,k _ _ ?_⟩
      have hjσ:j < σ.length:=by rw [gg.ln];exact Nat.ble_eq.mp hjn
      have hjρ:j < (ρ.set i none).length:=by rw [List.length_set,gg.len];exact Nat.ble_eq.mp hjn
      have hiρ:i < ρ.length:=(List.getElem?_eq_some_iff.mp hρ).1
      have hn:∀ a,O a=none→(if a=q then some j else O a)=none:=fun a z=>by
        rw [if_neg (fun y=>by rw [y,hO] at z;cases z)]
        exact z
      refine ⟨gg.s0,gg.s1,by simp [gg.len],by simp [gg.ln],fun a=>if a=q then some j else O a,fun a m z=>?_,fun a m z=>?_,fun m t z=>?_⟩
      · by_cases y:a=q
        · subst y;exact o.fr a i hO
        · rw [if_neg y] at z;exact o.fr a m z
      · by_cases y:a=q
        · subst y;exact ⟨.l vs,hp⟩
        · rw [if_neg y] at z;exact o.ls a m z
      · by_cases hjm:j=m
        · subst hjm
          rw [qz _ _ _ _ hjρ,if_pos rfl] at z
          cases z
          rw [qz _ _ _ _ hjσ,if_pos rfl]
          exact ⟨q,vs,rfl,if_pos rfl,hp,rs⟩
        · rw [qz _ _ _ _ hjρ,if_neg hjm] at z
          rw [qz _ _ _ _ hjσ,if_neg hjm]
          by_cases him:i=m
          · subst him
            rw [qz _ _ _ _ hiρ,if_pos rfl] at z
            cases z
          · rw [qz _ _ _ _ hiρ,if_neg him] at z
            have sl:=o.sl m t z
            have nq:∀ a,O a=some m→a≠q:=fun a w y=>by rw [y,hO] at w;cases w;exact him rfl
            cases t with
            | par d=>obtain ⟨w,e1,rr⟩:=sl;exact ⟨w,e1,rr.imp fun _ a z=>hn a z⟩
            | loc d=>obtain ⟨w,e1,rr⟩:=sl;exact ⟨w,e1,rr.imp fun _ a z=>⟨z.1,hn a z.2.1,z.2.2⟩⟩
            | own ds=>obtain ⟨q1,ws,e1,hq,hqp,rs'⟩:=sl;exact ⟨q1,ws,e1,(if_neg (nq _ hq)).trans hq,hqp,rs'⟩
            | own2 ds=>obtain ⟨q1,ws,e1,hq,hqp,rs'⟩:=sl;exact ⟨q1,ws,e1,(if_neg (nq _ hq)).trans hq,hqp,rs'.imp fun _ a z=>⟨z.1,hn a z.2.1,z.2.2⟩⟩
            | lent ds=>obtain ⟨ws,e1,hq,hqp,rs'⟩:=sl;exact ⟨ws,e1,(if_neg (nq _ hq)).trans hq,hqp,rs'⟩
            | dct ks=>obtain ⟨q1,e1,hq,hd⟩:=sl;exact ⟨q1,e1,(if_neg (nq _ hq)).trans hq,hd⟩
            | ex c=>exact sl
  · cases e'
theorem SO.changeG{i:Nat}{t:Slot}{p:Addr}{o0 o1:OwV}{O:Own}(o:SO cv H₀ F ρ σ H O)(hρ:i < ρ.length)(hO:O p=some i)(hp:H p=some o0.ho)(ht:SS cv H₀ O σ[i]? i (upd H p o1.ho) t):
    SO cv H₀ F (ρ.set i (some t)) σ (upd H p o1.ho) O:=by
  have hT:∀ a xs,Rd H a (.tup xs)→Rd (upd H p o1.ho) a (.tup xs):=fun a xs e=>o9 hp e
  have hL:∀ {P:PP},(∀ z a,P z a→O a=none)→∀ a (ws:HO),Rl P H a ws→Rl P (upd H p o1.ho) a ws:=fun {P} hP a ws rl=>by
    have hne:∀ z,P z a→a≠p:=fun z q y=>by have:=hP z a q;rw [y,hO] at this;cases this
    rcases rl with ⟨q,e⟩ | ⟨q,u,e⟩
    · exact .inl ⟨q,by rw [zt (hne _ q)];exact e⟩
    · exact .inr ⟨q,u,by rw [zt (hne _ q)];exact e⟩
  refine ⟨o.fr,fun a j e=>?_,fun j t' e=>?_⟩
  · by_cases z:a=p
    · subst z;exact ⟨o1,z9⟩
    · rw [zt z];exact o.ls a j e
  · by_cases hij:i=j
    · subst hij
      rw [qz _ _ _ _ hρ,if_pos rfl] at e
      cases e
      exact ht
    · rw [qz _ _ _ _ hρ,if_neg hij] at e
      have q:=o.sl j t' e
      cases t' with
      | par d=>obtain ⟨w,e1,rr⟩:=q;exact ⟨w,e1,Rep.mono hT (hL fun _ _ x=>x) d w rr⟩
      | loc d=>obtain ⟨w,e1,rr⟩:=q;exact ⟨w,e1,Rep.mono hT (hL fun _ _ x=>x.2.1) d w rr⟩
      | own ds=>
        obtain ⟨q1,ws,e1,hq,hqp,rs⟩:=q
        have hne:q1≠p:=fun z=>by rw [z,hO] at hq;cases hq;exact hij rfl
        exact ⟨q1,ws,e1,hq,by rw [zt hne];exact hqp,Reps.mono hT (hL fun _ _ x=>x.elim) _ _ rs⟩
      | own2 ds=>
        obtain ⟨q1,ws,e1,hq,hqp,rs⟩:=q
        have hne:q1≠p:=fun z=>by rw [z,hO] at hq;cases hq;exact hij rfl
        exact ⟨q1,ws,e1,hq,by rw [zt hne];exact hqp,Reps.mono hT (hL fun _ _ x=>x.2.1) _ _ rs⟩
      | lent ds=>
        obtain ⟨ws,e1,hq,hqp,rs⟩:=q
        have hne:cv.lend≠p:=fun z=>by rw [z,hO] at hq;cases hq;exact hij rfl
        exact ⟨ws,e1,hq,by rw [zt hne];exact hqp,Reps.mono hT (hL fun _ _ x=>x.elim) _ _ rs⟩
      | dct ks=>
        obtain ⟨q1,e1,hq,hd⟩:=q
        have hne:q1≠p:=fun z=>by rw [z,hO] at hq;cases hq;exact hij rfl
        exact ⟨q1,e1,hq,hd.upd hne⟩
      | ex c=>
        obtain ⟨w,e1,φ,hx,hφ⟩:=q
        have hne:w≠p:=fun z=>by rw [z,hp] at hx;cases o0<;>cases hx
        exact ⟨w,e1,φ,by rw [zt hne];exact hx,hφ⟩
theorem JQ(i j:Nat){x y:Str}{xp yp apos cpos ap2 cp2 kp:Pos}{c:Nat}(hN:X.N[i]? =some x:=by rfl)(hv:Vis X.env.scope x:=by first | exact Or.inl rfl | exact Or.inr (Or.inl rfl) | exact Or.inr (Or.inr rfl))(hd:(x == ("__debug__":Str))=false:=by decide)(hcd:(x == ("__classdict__":Str))=false:=by decide)
    (hN2:X.N[j]? =some y:=by rfl) (hv2:Vis X.env.scope y:=by first | exact Or.inl rfl | exact Or.inr (Or.inl rfl) | exact Or.inr (Or.inr rfl)) (hd2:(y == ("__debug__":Str))=false:=by decide) (hcd2:(y == ("__classdict__":Str))=false:=by decide)
    (hbase:attributeBase (.Name x xp) "append" X.env (eval (.Name x xp) X.env)=eval (.Name x xp) X.env:=by rfl) (hbase2:attributeBase (.Name y yp) "pop" X.env (eval (.Name y yp) X.env)=eval (.Name y yp) X.env:=by rfl)
    (hfew:((backTo cpos (starEach [.Call (.Attribute (.Name y yp) "pop" ap2) [.Constant (.int 0) c kp] [] cp2] X.env)).all (fun x=>!x.1) && (backToKw cpos (keywordEach [] X.env)).all (fun x=>x.1.isSome)
      && decide ([Expr.Call (.Attribute (.Name y yp) "pop" ap2) [.Constant (.int 0) c kp] [] cp2].length+([]:List Keyword).length+(if ([]:List Keyword).isEmpty then 0 else 1) < 30))=true:=by rfl)
    (hfew2:((backTo cp2 (starEach [.Constant (.int 0) c kp] X.env)).all (fun x=>!x.1) && (backToKw cp2 (keywordEach [] X.env)).all (fun x=>x.1.isSome)
      && decide ([Expr.Constant (.int 0) c kp].length+([]:List Keyword).length+(if ([]:List Keyword).isEmpty then 0 else 1) < 30))=true:=by rfl)
    (hline:(apos.endLine == cpos.line)=true:=by rfl) (hline2:(ap2.endLine == cp2.line)=true:=by rfl)
    (hs1:starEach [.Call (.Attribute (.Name y yp) "pop" ap2) [.Constant (.int 0) c kp] [] cp2] X.env=(false,eval (.Call (.Attribute (.Name y yp) "pop" ap2) [.Constant (.int 0) c kp] [] cp2) X.env)::starEach [] X.env:=by rfl) (hplain:(backTo cpos (starEach [] X.env)).any (·.1)=false:=by rfl)
    (hs2:starEach [.Constant (.int 0) c kp] X.env=(false,eval (.Constant (.int 0) c kp) X.env)::starEach [] X.env:=by rfl) (hplain2:(backTo cp2 (starEach [] X.env)).any (·.1)=false:=by rfl)
    (hs:swapsWith (.Call (.Attribute (.Name x xp) "append" apos) [.Call (.Attribute (.Name y yp) "pop" ap2) [.Constant (.int 0) c kp] [] cp2] [] cpos) none pos.line X.env=pure false:=by rfl):
    PS X (.Expr (.Call (.Attribute (.Name x xp) "append" apos) [.Call (.Attribute (.Name y yp) "pop" ap2) [.Constant (.int 0) c kp] [] cp2] [] cpos) pos) (tS cv XO (lw i j)):=by
  intro pins s σ H D I ⟨H₀,F,ρ,r,gg,e',k⟩
  refine m7 (EI PySem.F.plainAttrs_list PySem.F.slot_list_append PySem.F.type_list_append pv (w5 (i:=i) hN hv hd hcd)
    (wx (EI PySem.F.plainAttrs_list PySem.F.slot_list_pop PySem.F.type_list_pop Ju (w5 (i:=j) hN2 hv2 hd2 hcd2) (wx CF gy hs2) hbase2 hfew2 hline2 hs2 hplain2) gy hs1) hbase hfew hline hs1 hplain) hs pins s σ H D I ?_
  unfold lw at e'
  split at e'
  case h_2=>cases e'
  rename_i xs hi
  split at e'
  case h_2=>cases e'
  rename_i y' ys hj
  split at e'
  case isFalse=>cases e'
  rename_i hc
  obtain ⟨hij,hlen,hlf⟩:=hc
  cases e'
  obtain ⟨O,o⟩:=gg.ex
  obtain ⟨p,vs,hσ,hO,hp,rs⟩:=o.sl i _ hi
  obtain ⟨q,ws,hσ2,hO2,hq,rs2⟩:=o.sl j _ hj
  have hpq:p≠q:=fun z=>by rw [z,hO2] at hO;cases hO;exact hij rfl
  obtain ⟨v,wr,rfl,rv,rr⟩:=rs2
  have hT:∀ a xs,Rd H a (.tup xs)→Rd (upd H q (.lst wr)) a (.tup xs):=fun a xs h=>o9 (o0:=.l (v::wr)) hq h
  have fF:∀ {ds:List PyData} {us:List V},Reps (fun _ _=>False) H ds us→Reps (fun _ _=>False) (upd H q (.lst wr)) ds us:=fun {ds us} r=>Reps.mono hT (fun a ws rl=>by rcases rl with ⟨z,_⟩ | ⟨z,_⟩<;>exact z.elim) ds us r
  have g2:=gg.change o hj hσ2 hO2 hq rr
  have o2:SO cv H₀ F (ρ.set j (some (.own ys))) σ (upd H q (.lst wr)) O:=
    o.changeG (o0:=.l (v::wr)) (o1:=.l wr) (List.getElem?_eq_some_iff.mp hj).1 hO2 hq ⟨q,wr,hσ2,hO2,z9,fF rr⟩
  refine ⟨.ref p,hσ,.inl ⟨rfl,vs,SqL.of hp⟩,.ref q,hσ2,.inl ⟨rfl,v::wr,SqL.of hq⟩,q,v::wr,0,0,v,rfl,rfl,hq,by decide,by decide,by simp [seqIndex?],rfl,p,vs,v,rfl,rfl,by rw [zt hpq];exact hp,by rw [rs.length];exact Nat.lt_of_lt_of_le hlen Db,?_⟩
  have hi2:(ρ.set j (some (.own ys)))[i]? =some (some (.own xs)):=by
    rw [qz _ _ _ _ (List.getElem?_eq_some_iff.mp hj).1,if_neg (Ne.symm hij)];exact hi
  exact k _ _ (g2.change o2 hi2 hσ hO (by rw [zt hpq];exact hp) ((fF rs).append (Reps.one (Rep.mono hT (fun a ws rl=>by rcases rl with ⟨z,_⟩ | ⟨z,_⟩<;>exact z.elim) _ _ rv))))
end
theorem om:fillsNumberSlot (.type "tuple") "mul" =pure false:=
  PySem.fillsNumberSlot_seq (id:="tuple.__mul__") (r:=some (.builtin "tuple.__rmul__")) PySem.F.slot_tuple_mul.lookup (by decide +kernel) PySem.F.slot_tuple_rmul.lookup (by decide +kernel)
theorem Cr:seqRepeat? (.type "tuple")=pure (some (.builtin "tuple.__mul__")):=by
  unfold seqRepeat?
  rw [PySem.seqSlot_of (T:="tuple") (name:="__mul__") (id:="tuple.__mul__") PySem.F.slot_tuple_mul.lookup (by decide +kernel),PySem.seqSlot_of (T:="tuple") (name:="__rmul__") (id:="tuple.__rmul__") PySem.F.slot_tuple_rmul.lookup (by decide +kernel)]
  rfl
theorem Gh(a:Int)(t:Tok)(l:Addr)(items:Array Value)(n:Nat)(dd:Option Addr)(sl:Array (Option Value)):
    Meets (Builtin.«int.__rmul__» ⟨[.int a t,.ref l],[]⟩) (fun _ R s=>s.heap.get? l=some {cls:=.type "tuple",dict:=dd,data:=.seq items n,slots:=sl}∧R (.ok (.ret Value.notImplemented)) s):=
  .of_wp fun prog w A R s h=>by obtain ⟨hp,g,d,tk,os⟩:=s;obtain ⟨hl,h⟩:=h;wp_walk using wpAny_loadPart' hl;exact ⟨_,rfl,h⟩
theorem Fn(t:Tok)(l:Addr)(items:Array Value)(n:Nat)(dd:Option Addr)(sl:Array (Option Value)):
    Meets (Builtin.«tuple.__mul__» ⟨[.ref l,.int 1 t],[]⟩) (fun _ R s=>s.heap.get? l=some {cls:=.type "tuple",dict:=dd,data:=.seq items n,slots:=sl}∧R (.ok (.ret (.ref l))) s):=
  .of_wp fun prog w A R s h=>by obtain ⟨hp,g,d,tk,os⟩:=s;obtain ⟨hl,h⟩:=h;have f1:=AutoSeq1.idx_int;wp_walk using wpAny_loadPart' hl;exact ⟨_,rfl,h⟩
theorem Ff(k:Int)(t:Tok)(l:Addr)(items:Array Value)(n:Nat)(dd:Option Addr)(sl:Array (Option Value))(h1:-(2 ^ 63)≤k)(h0:k≤0)(hne:items.isEmpty=false):
    Meets (Builtin.«tuple.__mul__» ⟨[.ref l,.int k t],[]⟩) (fun _ R s=>s.heap.get? l=some {cls:=.type "tuple",dict:=dd,data:=.seq items n,slots:=sl}∧R (.ok (.ret (Value.ref s.heap.objs.size))) {s with heap:=s.heap.push {cls:=Value.type "tuple",data:=Data.seq #[]},toks:=s.toks}):=
  .of_wp fun prog w A R s h=>by
    obtain ⟨hp,g,d,tk,os⟩:=s;obtain ⟨hl,h⟩:=h;have f1:=AutoSeq1.idx_int
    have e1:(decide (k < -(2 ^ 63)) || decide (k≥2 ^ 63))=false:=by rw [Bool.or_eq_false_iff];exact ⟨decide_eq_false (by omega),decide_eq_false (by omega)⟩
    have e2:(items.isEmpty || k == 1)=false:=by rw [hne,Bool.false_or];exact beq_eq_false_iff_ne.mpr (by omega)
    have e3:(decide (k≤0) || items.isEmpty)=true:=by rw [decide_eq_true h0,Bool.true_or]
    wp_walk using wpAny_loadPart' hl
    refine wpAny_ite_false (decide_eq_false (by rw [e1];exact Bool.false_ne_true)) ?_
    wp_walk using wpAny_loadPart' hl
    refine wpAny_ite_false (decide_eq_false (by rw [e2];exact Bool.false_ne_true)) ?_
    wp_walk using wpAny_loadPart' hl
    exact ⟨_,rfl,h⟩
theorem F8(k:Int)(t:Tok)(l:Addr)(items:Array Value)(n:Nat)(dd:Option Addr)(sl:Array (Option Value))(h1:k < 2 ^ 63)(h0:1 < k)(hne:items.isEmpty=false)(hz:items.size * k.toNat≤sizeLine)(hz2:(List.foldl (fun x1 x2=>x1++x2) #[] (List.replicate k.toNat items)).size≤sizeLine):
    Meets (Builtin.«tuple.__mul__» ⟨[.ref l,.int k t],[]⟩) (fun _ R s=>s.heap.get? l=some {cls:=.type "tuple",dict:=dd,data:=.seq items n,slots:=sl}∧R (.ok (.ret (Value.ref s.heap.objs.size))) {s with heap:=s.heap.push {cls:=Value.type "tuple",data:=Data.seq (List.foldl (fun x1 x2=>x1++x2) #[] (List.replicate k.toNat items))},toks:=s.toks}):=
  .of_wp fun prog w A R s h=>by
    obtain ⟨hp,g,d,tk,os⟩:=s;obtain ⟨hl,h⟩:=h;have f1:=AutoSeq1.idx_int
    have e1:(decide (k < -(2 ^ 63)) || decide (k≥2 ^ 63))=false:=by rw [Bool.or_eq_false_iff];exact ⟨decide_eq_false (by omega),decide_eq_false (by omega)⟩
    have e2:(items.isEmpty || k == 1)=false:=by rw [hne,Bool.false_or];exact beq_eq_false_iff_ne.mpr (by omega)
    have e3:(decide (k≤0) || items.isEmpty)=false:=by rw [hne,Bool.or_false];exact decide_eq_false (by omega)
    have hk:((items.size:Int) * k)=((items.size * k.toNat:Nat):Int):=by rw [Int.natCast_mul,Int.toNat_of_nonneg (by omega)]
    have hs:(sizeLine:Nat)≤(2 ^ 63 - 1) / 8:=by decide
    wp_walk using wpAny_loadPart' hl
    refine wpAny_ite_false (decide_eq_false (by rw [e1];exact Bool.false_ne_true)) ?_
    wp_walk using wpAny_loadPart' hl
    refine wpAny_ite_false (decide_eq_false (by rw [e2];exact Bool.false_ne_true)) ?_
    wp_walk using wpAny_loadPart' hl
    refine wpAny_ite_false (decide_eq_false (by rw [e3];exact Bool.false_ne_true)) ?_
    wp_walk using wpAny_loadPart' hl
    refine wpAny_ite_false (decide_eq_false (by rw [hk];omega)) ?_
    wp_walk using wpAny_loadPart' hl
    refine wpAny_ite_false (decide_eq_false (by unfold Builtin.Tuple.tupleTooMany;rw [hk];simp only [decide_eq_true_eq];omega)) ?_
    wp_walk using wpAny_loadPart' hl
    exact ⟨_,rfl,h⟩
section
variable{X:Cx}{XO:XOT}{a b:Expr}{fa fb:FE}{pos:Pos}
def rRepT:R2:=fun x y H Q=>∃ l k xs,x= .ref l∧y= .int k∧Rd H l (.tup xs)∧xs≠[]∧-(2 ^ 63)≤k∧k < 2 ^ 63∧xs.length * k.toNat≤sizeLine∧
  (k=1→Q (.ref l) H)∧(k≠1→∀ p,H p=none→Q (.ref p) (upd H p (.tup (List.replicate k.toNat xs).flatten)))
theorem Lf:OpR X (binaryOp .Mult) rRepT:=by
  intro pins s σ H x y v u Q I rx ry h
  obtain ⟨l,k,xs,rfl,rfl,hH,hne,h1,h2,hz,q1,q2⟩:=h
  cases rx
  obtain ⟨t,rfl⟩:=ry
  obtain ⟨its,r,p1,_⟩:=I.tuple (.inl hH)
  obtain ⟨⟨cls,dd,data,sl⟩,e,hc,n,hd⟩:=id p1
  simp only at hc hd
  subst hc hd
  have hl:=r.length
  have hi:its≠[]:=fun z=>hne (r.nil_iff.mp z)
  have hie:its.toArray.isEmpty=false:=by cases its with | nil=>exact absurd rfl hi | cons a b=>rfl
  have f0:List.foldl (fun x1 x2=>x1++x2) #[] (List.replicate k.toNat its.toArray)=(List.replicate k.toNat its).flatten.toArray:=by
    have:=pc its k.toNat []
    rw [List.nil_append] at this
    exact this
  refine wpAny_binaryOp_repeat_ref (T:="tuple") (U:="int") (by decide) ⟨_,e,rfl⟩ (fun s'=>typeIs_int s' k t) om F.fills_int_mul F.slot_int_rmul Cr F.slot_int_index.lookup
    (call_meets F.slot_int_rmul (typeIs_int s k t) F.entry_int_rmul (F.args_int_rmul_2 _ _) (Gh k t l its.toArray n dd sl)
      ⟨e,rfl,⟨_,e,rfl⟩,?_⟩)
  have lay:∀ ys us,Vals ys us→ys.length≤sizeLine→(∀ p,H p=none→Q (.ref p) (upd H p (.tup ys)))→∃ v H',Inv X pins σ H' {s with heap:=s.heap.push {cls:=Value.type "tuple",data:=Data.seq us.toArray},toks:=s.toks}∧RelV v (Value.ref s.heap.objs.size)∧Q v H':=by
    intro ys us ru hy qq
    refine ⟨.ref s.heap.objs.size,_,I.laid (t':=s.toks) (o:=.tup ys) (fun b ob q=>Heap.get?_push_of_some _ q) (Nat.le_refl _) ?_,rfl,qq _ (I.hok.fresh (Nat.le_refl _))⟩
    exact ⟨⟨hy,sh (Heap.get?_push_size _ rfl) rfl⟩,_,ru,IsTup.new _ _⟩
  by_cases k1:k=1
  · subst k1
    exact call_meets F.slot_tuple_mul ⟨_,e,rfl⟩ F.entry_tuple_mul (F.args_tuple_mul_2 _ _) (Fn t l its.toArray n dd sl) ⟨e,.ref l,H,I,rfl,q1 rfl⟩
  · have q2:=q2 k1
    by_cases k0:k≤0
    · have e0:k.toNat=0:=by omega
      rw [e0] at q2
      exact call_meets F.slot_tuple_mul ⟨_,e,rfl⟩ F.entry_tuple_mul (F.args_tuple_mul_2 _ _) (Ff k t l its.toArray n dd sl h1 k0 hie) ⟨e,lay [] [] .nil (Nat.zero_le _) q2⟩
    · have hlen:(List.replicate k.toNat xs).flatten.length≤sizeLine:=by rw [CH,Nat.mul_comm];exact hz
      refine call_meets F.slot_tuple_mul ⟨_,e,rfl⟩ F.entry_tuple_mul (F.args_tuple_mul_2 _ _) (F8 k t l its.toArray n dd sl h2 (by omega) hie (by rw [List.size_toArray,← hl];exact hz) (by rw [f0,List.size_toArray,CH,Nat.mul_comm,← hl];exact hz)) ⟨e,?_⟩
      rw [f0]
      exact lay _ _ (r.rep k.toNat) hlen q2
theorem K9:OpD rRepT EB true:=by
  intro H₀ Hs H l m x y d v u Q s0 s1 e rx ry q
  unfold EB at e
  split at e
  · rename_i xs k
    split at e
    · rename_i hz
      simp only [Bool.and_eq_true,decide_eq_true_eq] at hz
      obtain ⟨⟨⟨f1,hz⟩,hk⟩,hne⟩:=hz
      cases e
      obtain ⟨pa,vs,rfl,ha,ra⟩:=rx
      cases (show u= .int k from ry)
      have l1:=ra.length
      have hb:big < 2 ^ 63:=by decide
      refine ⟨pa,k,vs,rfl,rfl,ha,fun z=>?_,by omega,by omega,by rw [l1];exact ut hz,fun k1=>?_,fun _ p hp=>?_⟩
      · subst z;rw [← l1] at hne;exact absurd hne (by decide)
      · subst k1
        have:(List.replicate (1:Int).toNat xs).flatten=xs:=by show (List.replicate 1 xs).flatten=xs;simp
        rw [this] at q
        exact q _ H (Same.refl H) ⟨pa,vs,rfl,ha,ra.nl f1⟩
      · exact q _ _ (qb hp _) ⟨p,_,rfl,.inl z9,((ra.nl f1).rep _).same (qb hp _)⟩
    · cases e
  · cases e
theorem I9(ha:PE X a (tF XO fa))(hb:PE X b (tF XO fb)):PE X (.BinOp a .Mult b pos) (tF XO (nr fa fb)):=FP Lf K9 ha hb
end
section
variable{prog:Program}{w:World}{A:Around}{E:Value→Shared→Prop}{s:Shared}{d it v:Addr}{od:Obj}{es:Array DictEntry}{ep i:Nat}{ok ov:Value}
theorem DV(hd:(d == sysModules)=false):
    MeetsIn prog w (Builtin.«dict.items» ⟨[.ref d],[]⟩) (fun _ R s=>s.TypeIs (.ref d) "dict"∧R (.ok (.ret (.ref s.heap.objs.size))) {s with heap:=s.heap.push {cls:=.type "dict_items",data:=.fields #[.ref d]}}):=
  .of_wp fun A R s ⟨hT,h⟩=>by
    unfold Builtin.«dict.items»
    refine wpAny_bind ?_
    unfold Builtin.Dict.noArgs
    refine wpAny_bind (wpAny_notOrdered_dict hT ?_)
    show wpAny _ _ (pure d) _ _ s
    refine wpAny_pure ?_
    show wpAny _ _ (Builtin.Dict.showsAll d >>= _) _ _ s
    unfold Builtin.Dict.showsAll
    rw [if_neg (by rw [hd];exact Bool.false_ne_true)]
    refine wpAny_bind (wpAny_pure ?_)
    exact wpAny_bind (wpAny_newObj_type (wpAny_pure ⟨_,rfl,h⟩))
theorem Fz{Q:Value→Shared→Prop}(hv:s.heap.IsItemsView v d)(ho:s.heap.get? d=some od)(hdat:od.data= .dict es ep)
    (hQ:Q (.ref s.heap.objs.size) {s with heap:=s.heap.push {cls:=.type "dict_itemiterator",data:=.fields #[.none,.bool false,.ref d,.int 0 0,.int es.size 0,.int ep 0,.none,.none]}}):
    wpAny (model prog w) A (pyIter (.ref v)) Q E s:=by
  obtain ⟨ov,hov,hcv,hdv⟩:=id hv
  refine wpAny_pyIter_slot hv.typeIs F.slot_dict_items_iter (wpAny_call_entry F.slot_dict_items_iter hv.typeIs F.entry_dict_items_iter ?_ (F.args_dict_items_iter_1 _))
  unfold Builtin.«dict_items.__iter__»
  refine wpAny_bind (wpAny_pure ?_)
  refine wpAny_bind ?_
  unfold Builtin.Dict_items.dictOf
  refine wpAny_bind (wpAny_field hov hdv (x:=.ref d) rfl (wpAny_pure ?_))
  refine wpAny_bind ?_
  unfold Builtin.Dict_items.newIterator
  refine wpAny_bind (wpAny_dictEntries ho hdat ?_)
  refine wpAny_bind (wpAny_dictEpoch ho hdat ?_)
  have hown:Builtin.Dict_items.ownsTuple "dict_itemiterator" =true:=by decide
  simp only [hown,if_true]
  refine wpAny_newObj_type (wpAny_pure ⟨_,rfl,"dict_itemiterator",_,⟨_,Heap.get?_push_size _ rfl,rfl⟩,F.slot_dict_itemiterator_next.lookup,?_⟩)
    (by simp only [sizeOk,Builtin.Dict_items.ownedTupleFields,List.size_toArray,List.length_append,List.length_cons,List.length_nil,sizeLine_eq];omega)
  simpa [rawInt,Builtin.Dict_items.ownedTupleFields] using hQ
theorem Fr{e:DictEntry}{Q:Option Value→Shared→Prop}(hit:IsItemIter s.heap it d i es.size ep ok ov)(hod:s.heap.get? d=some od)(hdd:od.data= .dict es ep)(hx:es[i]? =some e)
    (hQ:∀ h',IsItemIterOut h' it d (i+1) es.size ep e.key e.val s.heap.objs.size→h'.get? s.heap.objs.size=some {cls:=.type "tuple",data:=.seq #[e.key,e.val]}→h'.objs.size=s.heap.objs.size+1→
      (∀ b o,b≠it→s.heap.get? b=some o→h'.get? b=some o)→Q (some (.ref s.heap.objs.size)) {s with heap:=h'}):
    wpAny (model prog w) A (pyNext (.ref it)) Q E s:=by
  obtain ⟨hp,g,dr,tk,os⟩:=s
  have hT:Shared.TypeIs ⟨hp,g,dr,tk,os⟩ (.ref it) "dict_itemiterator":=⟨_,hit,rfl⟩
  unfold pyNext
  refine wpAny_bind (wpAny_attempt (wpAny_callSpecial?_slot (name:=Str.ofString "__next__") hT F.slot_dict_itemiterator_next
    (wpAny_call_entry F.slot_dict_itemiterator_next hT F.entry_dict_itemiterator_next ?_ (F.args_dict_itemiterator_next_1 _))))
  refine wpAny_bind (wpAny_pure ?_)
  refine wpAny_bind ?_
  refine wpAny_bind ?_
  refine wpAny_bind (wpAny_typeNameOfWhole_itemiter hT (wpAny_pure ?_))
  refine wpAny_bind (wpAny_fieldsOf hit rfl ?_)
  have hown:Builtin.Dict_items.ownsTuple "dict_itemiterator" =true:=by decide
  simp only [hown,if_true]
  show wpAny _ _ (if (Value.ref d == Value.none)=true then _ else _) _ _ _
  rw [if_neg (show ¬ ((Value.ref d == Value.none)=true) from Bool.false_ne_true)]
  refine wpAny_bind (wpAny_pure ?_)
  refine wpAny_bind (wpAny_dictEntries hod hdd ?_)
  rw [if_neg (by simp)]
  refine wpAny_bind (wpAny_pure ?_)
  refine wpAny_bind (wpAny_dictEpoch hod hdd ?_)
  rw [if_neg (by simp)]
  refine wpAny_pure ?_
  simp only [show ¬ ((i:Int) < 0) from by omega,if_false,Int.toNat_natCast,hx]
  refine wpAny_bind ?_
  refine wpAny_bind (wpAny_typeNameOfWhole_itemiter hT (wpAny_pure ?_))
  refine wpAny_bind (wpAny_isOneOf_itemiter hT ?_)
  show wpAny _ _ (setField (.ref it) 3 (rawInt ((i:Int)+1)) >>= _) _ _ ⟨hp,g,dr,tk,os⟩
  refine wpAny_bind (wpAny_setField_rec hit (by simp) fun h₁ he₁ hs₁=>?_)
  replace hs₁:Heap.SameBut it hp h₁:=hs₁
  replace he₁:IsItemIter h₁ it d (i+1) es.size ep ok ov:=by
    have e:((i+1:Nat):Int)=(i:Int)+1:=by omega
    unfold IsItemIter;rw [e];simpa [rawInt] using he₁
  have hT₁:Shared.TypeIs ⟨h₁,g,dr,tk,os⟩ (.ref it) "dict_itemiterator":=⟨_,he₁,rfl⟩
  refine wpAny_bind (wpAny_holding ?_)
  refine wpAny_bind (wpAny_isOneOf_itemiter hT₁ ?_)
  refine wpAny_bind (wpAny_isOneOf_itemiter hT₁ ?_)
  show wpAny _ _ (Builtin.Dict_items.pairFromOwner (.ref it) 6 e.key e.val) _ _ ⟨h₁,g,dr,tk,os⟩
  unfold Builtin.Dict_items.pairFromOwner
  refine wpAny_bind (wpAny_newTuple ?_)
  have he₂:IsItemIter (h₁.push {cls:=.type "tuple",data:=.seq #[e.key,e.val]}) it d (i+1) es.size ep ok ov:=Heap.get?_push_of_some _ he₁
  generalize hh₂:h₁.push {cls:=.type "tuple",data:=.seq #[e.key,e.val]} =h₂ at he₂
  have hz₁:h₁.objs.size=hp.objs.size:=hs₁.1
  have hil:it < hp.objs.size:=Heap.lt_size hit
  have ht₂:h₂.get? hp.objs.size=some {cls:=.type "tuple",data:=.seq #[e.key,e.val]}:=by rw [← hh₂,← hz₁];exact Heap.get?_push_size _ rfl
  have hz₂:h₂.objs.size=hp.objs.size+1:=by rw [← hh₂,Heap.size_push,hz₁]
  have hk₂:∀ b o,b≠it→hp.get? b=some o→h₂.get? b=some o:=fun b o hb q=>by rw [← hh₂];exact Heap.get?_push_of_some _ (hs₁.extBut b o hb q)
  show wpAny _ _ (Builtin.Dict_items.ownedTupleIsFree (.ref it) >>= _) _ _ ⟨h₂,g,dr,tk,os⟩
  rw [hz₁]
  clear hh₂ he₁ hs₁ hT₁ hz₁ h₁
  refine wpAny_bind ?_
  unfold Builtin.Dict_items.ownedTupleIsFree
  refine wpAny_bind (wpAny_field he₂ rfl (x:=.none) rfl (wpAny_pure ?_))
  simp only [if_true]
  refine wpAny_bind (wpAny_field he₂ rfl (x:=ok) rfl ?_)
  refine wpAny_bind (wpAny_field he₂ rfl (x:=ov) rfl ?_)
  refine wpAny_bind (wpAny_setField_rec he₂ (by simp) fun h₃ he₃ hs₃=>?_)
  replace hs₃:Heap.SameBut it h₂ h₃:=hs₃
  replace he₃:IsItemIter h₃ it d (i+1) es.size ep e.key ov:=he₃
  refine wpAny_bind (wpAny_setField_rec he₃ (by simp) fun h₄ he₄ hs₄=>?_)
  replace hs₄:Heap.SameBut it h₃ h₄:=hs₄
  replace he₄:IsItemIter h₄ it d (i+1) es.size ep e.key e.val:=he₄
  refine wpAny_bind (wpAny_setField_rec he₄ (by simp) fun h₅ he₅ hs₅=>?_)
  replace hs₅:Heap.SameBut it h₄ h₅:=hs₅
  replace he₅:IsItemIterOut h₅ it d (i+1) es.size ep e.key e.val hp.objs.size:=he₅
  refine wpAny_bind (wpAny_setField_rec he₅ (by simp) fun h₆ he₆ hs₆=>?_)
  replace hs₆:Heap.SameBut it h₅ h₆:=hs₆
  replace he₆:IsItemIterOut h₆ it d (i+1) es.size ep e.key e.val hp.objs.size:=he₆
  refine wpAny_bind (wpAny_letGo (wpAny_pure (wpAny_pure ⟨_,rfl,wpAny_pure (hQ h₆ he₆ ?_ ?_ ?_)⟩)))
  · exact hs₆.extBut _ _ (Nat.ne_of_gt hil) (hs₅.extBut _ _ (Nat.ne_of_gt hil) (hs₄.extBut _ _ (Nat.ne_of_gt hil) (hs₃.extBut _ _ (Nat.ne_of_gt hil) ht₂)))
  · show h₆.objs.size=hp.objs.size+1
    rw [hs₆.1,hs₅.1,hs₄.1,hs₃.1,hz₂]
  · exact fun b o hb q=>hs₆.extBut b o hb (hs₅.extBut b o hb (hs₄.extBut b o hb (hs₃.extBut b o hb (hk₂ b o hb q))))
theorem HR{Q:Option Value→Shared→Prop}(hh:A.handled=none)(hit:IsItemIter s.heap it d i es.size ep ok ov)(hod:s.heap.get? d=some od)(hdd:od.data= .dict es ep)(hx:es[i]? =none)
    (hQ:∀ h',Heap.ExtBut it s.heap h'→Q none {s with heap:=h'}):wpAny (model prog w) A (pyNext (.ref it)) Q E s:=by
  have hT:s.TypeIs (.ref it) "dict_itemiterator":=⟨_,hit,rfl⟩
  unfold pyNext
  refine wpAny_bind (wpAny_attempt (wpAny_callSpecial?_slot (name:=Str.ofString "__next__") hT F.slot_dict_itemiterator_next
    (wpAny_call_entry F.slot_dict_itemiterator_next hT F.entry_dict_itemiterator_next ?_ (F.args_dict_itemiterator_next_1 _))))
  refine wpAny_bind (wpAny_pure ?_)
  refine wpAny_bind ?_
  refine wpAny_bind ?_
  refine wpAny_bind (wpAny_typeNameOfWhole_itemiter hT (wpAny_pure ?_))
  refine wpAny_bind (wpAny_fieldsOf hit rfl ?_)
  have hown:Builtin.Dict_items.ownsTuple "dict_itemiterator" =true:=by decide
  simp only [hown,if_true]
  show wpAny _ _ (if (Value.ref d == Value.none)=true then _ else _) _ _ s
  rw [if_neg (show ¬ ((Value.ref d == Value.none)=true) from Bool.false_ne_true)]
  refine wpAny_bind (wpAny_pure ?_)
  refine wpAny_bind (wpAny_dictEntries hod hdd ?_)
  rw [if_neg (by simp)]
  refine wpAny_bind (wpAny_pure ?_)
  refine wpAny_bind (wpAny_dictEpoch hod hdd ?_)
  rw [if_neg (by simp)]
  refine wpAny_pure ?_
  simp only [show ¬ ((i:Int) < 0) from by omega,if_false,Int.toNat_natCast,hx]
  refine wpAny_bind ?_
  refine wpAny_bind (wpAny_typeNameOfWhole_itemiter hT (wpAny_pure ?_))
  show wpAny _ _ (setField (.ref it) 2 .none >>= _) _ _ s
  refine wpAny_bind (wpAny_setField hit rfl (by simp) ?_)
  show wpAny _ _ (newExc (.type "StopIteration") [] >>= _) _ _ _
  refine wpAny_bind ?_
  simp only [newExc,newTuple]
  refine wpAny_bind (wpAny_newObj_type ?_ (by size_fits))
  refine wpAny_bind (m:=firstArgMember _ _) (wpAny_of_eq (a:=Value.none) (by first | rfl | (simp only [firstArgMember];rfl)) ?_)
  refine wpAny_newObj_type ?_ (by size_fits)
  simp only [raiseNew]
  refine wpAny_bind (wpAny_handled ?_)
  rw [show A.in1.handled=none from hh]
  refine wpAny_bind (wpAny_pure (wpAny_throw ?_))
  refine wpAny_bind (wpAny_isInstance (T:="StopIteration") (b:=true) ⟨_,Heap.get?_push_size _ rfl,rfl⟩ isSubtype_stop ?_)
  exact wpAny_pure (hQ _ (((Heap.SameBut.update ..).extBut.push _).push _))
end
theorem il:entryFor table "dict_itemiterator.__iter__" =some Builtin.«dict_keyiterator.__iter__»:=
  entryFor_alias (id':="dict_keyiterator.__iter__") (by kernel_rfl) rfl (by decide +kernel) (by kernel_rfl)
theorem s8{prog:Program}{w:World}{A:Around}{E:Value→Shared→Prop}{s:Shared}{d it:Addr}{n ep i:Nat}{ok ov:Value}{Q:Value→Shared→Prop}(st:IsItemIter s.heap it d i n ep ok ov)(h:Q (.ref it) s):wpAny (model prog w) A (pyIter (.ref it)) Q E s:=by
  have hT:s.TypeIs (.ref it) "dict_itemiterator":=⟨_,st,rfl⟩
  refine wpAny_pyIter_slot hT F.slot_dict_itemiterator_iter (wpAny_call_entry F.slot_dict_itemiterator_iter hT il ?_ (F.args_dict_itemiterator_iter_1 _))
  show wpAny _ _ (ret (.ref it)) _ _ s
  exact wpAny_pure ⟨_,rfl,"dict_itemiterator",_,hT,F.slot_dict_itemiterator_next.lookup,h⟩
def ItM(a:Addr)(n ep:Nat):It:=
  ⟨fun i H=>∃ kvs,Rd H a (.dT kvs ep)∧kvs.length=n∧i < n,fun i H x H'=>∃ p b k v kvs,Rd H a (.dT kvs ep)∧kvs[i]? =some (k,v)∧x= .ref p∧H p=none∧Rd H b (.tup (k.map kV))∧H'=upd H p (.tup [.ref b,v]),
   fun i H=>∃ kvs,Rd H a (.dT kvs ep)∧kvs.length=n∧n≤i⟩
theorem Dq{P:Program}{w:World}{H:Hp}{h:Heap}{a:Addr}{kvs:List (List Key×V)}{ep:Nat}(ok:HOk P w H h)(e:Rd H a (.dT kvs ep)):
    (a == sysModules)=false∧∃ o es,h.get? a=some o∧o.ExactDict∧o.data= .dict es ep∧es.size=kvs.length∧∀ (i:Nat) (k:List Key) (v:V),kvs[i]? =some (k,v)→∃ (en:DictEntry) (b:Addr),es[i]? =some en∧en.key= .ref b∧Rd H b (.tup (k.map kV))∧RelV v en.val:=by
  obtain ⟨z,y,xs,r,o,es,h1,h2,h3,h4,h5⟩:=(show ObjOk P w H h a (.dT kvs ep) from Gv ok e)
  have hl:es.size=kvs.length:=by
    have a1:=congrArg List.length h4
    simp only [Array.length_toList,List.length_map] at a1
    rw [a1,Paired.length r]
  refine ⟨y,o,es,h1,h2,h3,hl,fun i k v hi=>?_⟩
  have get:∀ {l:List (List Key×V)} {m:List (List Key×Addr×Value)},L2.KT H l m→∀ (i:Nat) (k:List Key) (v:V),l[i]? =some (k,v)→∃ q,m[i]? =some q∧k=q.1∧Rd H q.2.1 (.tup (k.map kV))∧RelV v q.2.2:=by
    intro l m q
    induction q with
    | nil=>intro i k v hi;simp at hi
    | @cons p q ps qs hq t ih=>
      intro i k v hi
      cases i with
      | zero=>
        have e:p=(k,v):=by simpa using hi
        subst e
        exact ⟨q,rfl,hq⟩
      | succ i=>exact ih i k v (by simpa using hi)
  obtain ⟨q,hq,e1,e2,e3⟩:=get r i k v hi
  refine ⟨entryOfKey (tupleKind (yi P w)) q,q.2.1,?_,rfl,e2,e3⟩
  rw [← Array.getElem?_toList,h4,List.getElem?_map,hq]
  rfl
theorem Gd{P:Program}{w:World}{K:PySem.W.Frag}{elts:List Expr}{x1}{tpos:Pos}(a it:Addr)(n ep:Nat):Turn P w K (.Tuple elts x1 tpos) (ItM a n ep) [it] it (fun i h=>∃ ok ov,IsItemIter h it a i n ep ok ov) where
  mem:=by simp
  obj:=fun i h ⟨ok,ov,st⟩ b hb=>by
    have e:b=it:=by simpa using hb
    subst e
    exact ⟨_,st,fun v z=>by
      have z':Data.fields _=Data.cell v:=z
      cases z'⟩
  keep:=fun i h h' ⟨ok,ov,st⟩ k=>⟨ok,ov,k it (by simp) _ st⟩
  item:=by
    intro X hP hw hK hc i pins s σ H E I hf ⟨ok,ov,st⟩ hg
    subst hP hw hK
    obtain ⟨kvs,hq,hl,hi⟩:=hg
    obtain ⟨hs,o,es,h1,h2,h3,h4,h5⟩:=Dq I.hok hq
    obtain ⟨kv,hkv⟩:∃ kv,kvs[i]? =some kv:=⟨kvs[i]'(by omega),by simp⟩
    obtain ⟨k,v⟩:=kv
    obtain ⟨en,b,e1,e2,e3,e4⟩:=h5 i k v hkv
    obtain ⟨f0,f1,f2,f3,f4,f5⟩:=hf it (by simp)
    have st':IsItemIter s.heap it a i es.size ep ok ov:=by rw [h4,hl];exact st
    refine Fr st' h1 h3 e1 fun h1' heo ht1 hz1 hk1=>⟨_,rfl,?_⟩
    refine wpAny_letOwnedTupleGo_items heo fun h2' he2 hs2=>?_
    replace hs2:Heap.SameBut it h1' h2':=hs2
    have hel:it < s.heap.objs.size:=Heap.lt_size st
    have nP:H s.heap.objs.size=none:=I.hok.fresh (Nat.le_refl _)
    have keep2:∀ b o,b≠it→s.heap.get? b=some o→h2'.get? b=some o:=fun b o n1 q=>(hs2.2 b n1).trans (hk1 b o n1 q)
    have hp2:h2'.get? s.heap.objs.size=some {cls:=.type "tuple",data:=.seq #[en.key,en.val]}:=(hs2.2 _ (Nat.ne_of_gt hel)).trans ht1
    have nm:∀ b,b∉[it]→b≠it:=fun b hb z=>hb (by simp [z])
    have tr:∀ b o,H b=some o→b≠it:=fun b o q z=>by rw [z,f0] at q;cases q
    have hok2:HOk X.prog X.w (upd H s.heap.objs.size (.tup [.ref b,v])) h2':=fun c ob q=>by
      by_cases z:c=s.heap.objs.size
      · subst z
        rw [z9] at q
        cases q
        exact ⟨⟨by show 2≤sizeLine;decide,sh hp2 rfl⟩,[en.key,en.val],.cons e2 (.cons e4 .nil),_,hp2,rfl,_,rfl⟩
      · rw [zt z] at q
        refine (I.hok c ob q).stay (fun c' v hcc r=>?_) (fun c r=>by rw [zt (jk r nP)];exact r) fun c ys r=>by rw [zt (jk r nP)];exact r
        rcases hcc with hcc | hcc
        · rw [hcc] at r ⊢
          exact keep2 c v (tr c _ q) r
        · exact keep2 c' v (tr c' _ hcc) r
    have I2:Inv X pins σ (upd H s.heap.objs.size (.tup [.ref b,v])) {s with heap:=h2'}:=by
      refine I.step (ch:=[it]) (fun b hb=>?_) (fun b o _ _ hb q _=>keep2 b o (nm b hb) q) (fun b o _ _ hb q _=>⟨o.slots,keep2 b o (nm b hb) q⟩) (fun b o hb q n=>?_) (fun b o hb q=>⟨o,keep2 b o (nm b hb) q⟩)
        (fun b ys q=>by rw [zt (jk q nP)];exact q) (fun b o y q=>by rw [zt (jk q nP)];exact q) (fun b ps q=>⟨#[],by rw [zt (jk q nP),q];simp⟩) (fun m hm=>?_) hok2 I.bare
      · have z:b=it:=by simpa using hb
        subst z
        exact ⟨f3,f1,f4,f5⟩
      · rw [zt (Nat.ne_of_lt (Heap.lt_size q))];exact n
      · obtain ⟨o,es,ep,ho,r⟩:=hm
        exact ⟨o,es,ep,keep2 _ o (Ne.symm f1) ho,r⟩
    refine ⟨.ref s.heap.objs.size,_,I2,rfl,⟨_,b,k,v,kvs,hq,hkv,rfl,nP,e3,rfl⟩,⟨en.key,en.val,?_⟩,fun b hb=>?_⟩
    · have z:IsItemIter h2' it a (i+1) n ep en.key en.val:=by rw [← hl,← h4];exact he2
      exact z
    · have z:b=it:=by simpa using hb
      subst z
      rw [zt (Nat.ne_of_lt hel)];exact f0
  done:=by
    intro X hP hw hK hc i pins s σ H E I hf ⟨ok,ov,st⟩ hg
    subst hP hw hK
    obtain ⟨kvs,hq,hl,hi⟩:=hg
    obtain ⟨hs,o,es,h1,h2,h3,h4,h5⟩:=Dq I.hok hq
    obtain ⟨g0,g1,g2,g3,g4,g5⟩:=hf it (by simp)
    have st':IsItemIter s.heap it a i es.size ep ok ov:=by rw [h4,hl];exact st
    exact HR (I.ok.hd hc) st' h1 h3 (by simp;omega) fun h' eb=>⟨rfl,I.turned (t':=s.toks) (fun b o hb q=>eb b o hb q) g0 g1 g3 g4 g5⟩
  self:=fun _ _ _ _ _ ⟨_,_,st⟩ h=>s8 st h
section
variable{X:Cx}{XO:XOT}{e:Expr}{f:FE}{pos p tpos apos cpos:Pos}{elts:List Expr}{k1:Nat}
def Pm(tl:TE):TI:=fun σ H R=>tl σ H fun x H1=>∃ a kvs ep,x= .ref a∧Rd H1 a (.dT kvs ep)∧R (ItM a kvs.length ep) H1
theorem EH{l:Expr}{tl:TE}(hl:PE X l tl)(hbase:attributeBase l "items" X.env (eval l X.env)=eval l X.env)
    (hline:(apos.endLine == cpos.line)=true):PI X (.Tuple elts k1 tpos) (.Call (.Attribute l "items" apos) [] [] cpos) (Pm tl):=by
  intro pins s σ H R I h
  refine wpAny_Call_method0_late hbase hline (thn (hl pins s σ H _ I h) fun u s1 ⟨x,H1,I1,rx,a,kvs,ep,ex,hd,q1⟩=>?_)
  subst ex
  obtain rfl:u=Value.ref a:=rx
  obtain ⟨t1,t2,t3⟩:=Jc I1 (.inr ⟨kvs,ep,hd⟩)
  refine ⟨"dict","dict.items",PySem.F.plainAttrs_dict,PySem.F.slot_dict_items,PySem.F.type_dict_items,t1,t2,Calls.callWith_builtin rfl (PySem.evalArgs_none ?_)⟩
  refine call_meetsIn PySem.F.slot_dict_items t1 PySem.F.entry_dict_items (PySem.F.args_dict_items_1 _) (DV t3) ⟨t1,?_⟩
  have I2:Inv X pins σ H1 {s1 with heap:=s1.heap.push {cls:=.type "dict_items",data:=.fields #[.ref a]}}:=I1.kept (t':=s1.toks) fun b o q=>Heap.get?_push_of_some _ q
  obtain ⟨_,o,es,h1,h2,h3,h4,_⟩:=Dq I2.hok hd
  refine Fz (d:=a) ⟨_,Heap.get?_push_size _ rfl,rfl,rfl⟩ h1 h3 ?_
  generalize hs2:({s1 with heap:=s1.heap.push {cls:=.type "dict_items",data:=.fields #[.ref a]}}:Shared)=s2 at I2 h1
  have hs:=Nat.le_refl s2.heap.objs.size
  refine ⟨s2.heap.objs.size,[s2.heap.objs.size],_,ItM a kvs.length ep,H1,rfl,I2.kept (t':=s2.toks) fun b o q=>Heap.get?_push_of_some _ q,Gd a _ _ _,⟨.none,.none,?_⟩,fun b hb=>?_,q1⟩
  · rw [h4]
    exact Heap.get?_push_size _ rfl
  · have z:b=s2.heap.objs.size:=by simpa using hb
    subst z
    exact I2.fpOk hs (I2.hok.fresh hs)
theorem Cm{P:PP}{H:Hp}:∀ (k:List Int),Reps P H (k.map .int) (((k.map Sum.inl:List Key)).map kV)
  | []=>rfl
  | i::k=>⟨.int i,_,rfl,rfl,Cm k⟩
theorem aj{Z:Hp}{p:Addr}{ts:List Ent}{ep:Nat}(hl:Rd Z p (.dT (ts.map dEnt) ep)):cz Z (ItM p (ts.map dEnt).length ep) (ts.map ve):=fun H2 s i=>by
  have hq:Rd H2 p (.dT (ts.map dEnt) ep):=Rd.same s hl
  refine ⟨fun d hd=>?_,fun hi=>⟨_,hq,rfl,by rw [hi];simp⟩⟩
  rw [List.getElem?_map] at hd
  cases hx:ts[i]? with
  | none=>rw [hx] at hd;cases hd
  | some x=>
    rw [hx] at hd
    cases hd
    have hlt:i < ts.length:=(List.getElem?_eq_some_iff.mp hx).1
    refine ⟨⟨_,hq,rfl,by simpa using hlt⟩,fun y H3 yl=>?_⟩
    obtain ⟨q,b,k,v,kvs,hq',hkv,rfl,hn,hb,rfl⟩:=yl
    have e:kvs=ts.map dEnt:=by
      rcases hq with h1 | ⟨o,h1⟩<;>rcases hq' with h2 | ⟨o',h2⟩<;>(rw [h1] at h2;cases h2;try rfl)
    subst e
    rw [List.getElem?_map,hx] at hkv
    cases hkv
    have sm:=qb hn (.tup [.ref b,.int x.2])
    exact ⟨sm,q,_,rfl,.inl z9,.ref b,_,rfl,⟨b,_,rfl,Rd.same sm hb,Cm _⟩,.int x.2,_,rfl,rfl,rfl⟩
theorem tq{P:PP}{H:Hp}{d:PyData}{v:V}{ts:List Ent}(r:Rep P H d v)(e:p9 d=some ts):∃ a ep,v= .ref a∧Rl P H a (.dT (ts.map dEnt) ep):=by
  cases d with
  | dict kvs=>
    rcases r with ⟨a,rfl,_⟩ | ⟨a,ts',ep,rfl,rfl,h⟩
    · cases e
    · have:=i8 ts'
      rw [show p9 (.dict (ts'.map DA))=A6 (ts'.map DA) from rfl] at e
      rw [show (ts'.map DA)=ts'.map fun x=>(PyData.tuple (x.1.map .int),PyData.int x.2) from rfl,this] at e
      cases e
      exact ⟨a,ep,rfl,h⟩
  | none=>cases e
  | bool _=>cases e
  | int _=>cases e
  | str _=>cases e
  | tuple _=>cases e
  | list _=>cases e
theorem Lc(h:PE X e (tF XO f))(hbase:attributeBase e "items" X.env (eval e X.env)=eval e X.env:=by rfl)
    (hline:(apos.endLine == cpos.line)=true:=by rfl):PI X (.Tuple elts k1 tpos) (.Call (.Attribute e "items" apos) [] [] cpos) (tI XO (i5 f)):=
  PI.imp (EH h hbase hline) fun σ H R ⟨H₀,Hs,ρ,r,g,e,k,kx⟩=>by
    unfold i5 at e
    split at e
    · rename_i l d hf
      rw [Option.map_eq_some_iff] at e
      obtain ⟨ts,hts,rfl⟩:=e
      refine ⟨H₀,Hs,ρ,_,g,hf,⟨fun l' d' v H1 e' s1 r1=>?_,fun c H' e=>(nomatch e)⟩⟩
      cases e'
      obtain ⟨a,ep,rfl,rl⟩:=tq r1 hts
      exact ⟨a,_,ep,rfl,rl.rd,k l _ _ H1 rfl s1 fun Z hT hL=>aj (hL a _ rl)⟩
    · rename_i c hf
      cases e
      exact ⟨H₀,Hs,ρ,_,g,hf,⟨fun l' d' v H1 e' s1 r1=>(nomatch e'),fun c' H' e' s=>kx c' H' (by cases e';rfl) s⟩⟩
    · cases e
theorem Oh{x:Str}{ds:List PyData}{tg:Expr}(T:KTup X.K X.mg x (.tuple ds))(hg:Gl X x:=by rfl)(hd:(x == ("__debug__":Str))=false:=by decide):PI X tg (.Name x p) (tI XO (iC ds)):=by
  obtain ⟨a,ds',vs,e,hm,hq,hrp⟩:=T.ex
  cases e
  refine PI.imp (Fj (KG (v:=.ref a) hg hm rfl hd)) fun σ H R ⟨H₀,Hs,ρ,r,g,e,k,kx⟩=>?_
  cases e
  refine ⟨a,rfl,⟨vs,hq H⟩,k 2 ds (Itt X.K a) H rfl (Same.refl _) fun Z _ _ H2 s i=>?_⟩
  have r:=hrp (fun _ _=>False) H2
  refine ⟨fun d hd=>?_,fun hi=>⟨vs,hq H2,by rw [r.length,hi];exact Nat.le_refl _⟩⟩
  obtain ⟨v,hv,rv⟩:=r.get hd
  refine ⟨⟨vs,v,hq H2,hv⟩,fun x H3 y=>?_⟩
  obtain ⟨e,y⟩:=y
  subst e
  have:=y vs (hq _)
  rw [hv] at this
  cases this
  exact ⟨Same.refl _,rv⟩
end
section
variable{X:Cx}{XO:XOF}{cv:Cfg}{st:Stmt}{body:List Stmt}{b:FS}{pos p tpos apos cpos:Pos}{tf:FT}{elts:List Expr}{k1:Nat}
theorem MG(i:Nat){x:Str}{xp:Pos}(hp:PassesOwn (model X.prog X.w) X.A X.env X.xe)(hc:X.calm=true)(ht:Tg X cv (.Tuple elts k1 tpos) tf)(hb:PSs X body (tS cv XO b))(hN:X.N[i]? =some x:=by rfl)
    (hv:Vis X.env.scope x:=by first | exact Or.inl rfl | exact Or.inr (Or.inl rfl) | exact Or.inr (Or.inr rfl)) (hd:(x == ("__debug__":Str))=false:=by decide) (hcd:(x == ("__classdict__":Str))=false:=by decide)
    (hbase:attributeBase (.Name x xp) "items" X.env (eval (.Name x xp) X.env)=eval (.Name x xp) X.env:=by rfl)
    (hline:(apos.endLine == cpos.line)=true:=by rfl)
    (hs:∀ y,foldedSetIterable (.Call (.Attribute (.Name x xp) "items" apos) [] [] cpos) X.env y=pure y:=by intro _;rfl):PS X (.For (.Tuple elts k1 tpos) (.Call (.Attribute (.Name x xp) "items" apos) [] [] cpos) body [] pos) (tS cv XO (Dy i tf b)):=by
  obtain ⟨gt,hg',hd'⟩:=ht.ex
  refine PS.imp (Fy hp hc (EH (w5 (i:=i) hN hv hd hcd) hbase hline) hg' hb hs) fun D σ H ⟨H₀,F,ρ,r,g,e,k⟩=>?_
  obtain ⟨O,o⟩:=g.ex
  obtain ⟨gf,hF⟩:=g.freeze o
  unfold Dy at e
  split at e
  · rename_i d hρ
    rw [Option.bind_eq_some_iff] at e
    obtain ⟨ts,hts,e⟩:=e
    obtain ⟨v,hσ,rr⟩:=o.sl i _ hρ
    obtain ⟨a,ep,rfl,rl⟩:=tq rr hts
    refine ⟨.ref a,hσ,a,_,ep,rfl,rl.rd,fj gf (aj ?_) hd' e (k.thaw g.s0 hF)⟩
    rcases rl with ⟨q,hx⟩ | ⟨q,u,hx⟩
    · exact .inl (by rw [j9 q];exact hx)
    · exact .inr ⟨u,by rw [j9 q];exact hx⟩
  · rename_i d hρ
    rw [Option.bind_eq_some_iff] at e
    obtain ⟨ts,hts,e⟩:=e
    obtain ⟨v,hσ,rr⟩:=o.sl i _ hρ
    obtain ⟨a,ep,rfl,rl⟩:=tq rr hts
    refine ⟨.ref a,hσ,a,_,ep,rfl,rl.rd,fj gf (aj ?_) hd' e (k.thaw g.s0 hF)⟩
    rcases rl with ⟨q,hx⟩ | ⟨q,u,hx⟩
    · exact .inl (by rw [j9 q.2.1];exact hx)
    · exact .inr ⟨u,by rw [j9 q.2.1];exact hx⟩
  · cases e
theorem Na(j i:Nat){x y:Str}{xp yp:Pos}(hN:X.N.Nodup)(hj:X.N[j]? =some x:=by rfl)(hx:Loc X.env.scope x:=by first | exact Or.inl rfl | exact Or.inr rfl)(hi:X.N[i]? =some y:=by rfl)
    (hv:Vis X.env.scope y:=by first | exact Or.inl rfl | exact Or.inr (Or.inl rfl) | exact Or.inr (Or.inr rfl)) (hd:(y == ("__debug__":Str))=false:=by decide) (hcd:(y == ("__classdict__":Str))=false:=by decide)
    (hs:swapsWith (.Name y yp) (some (.Name x xp)) pos.line X.env=pure false:=by rfl) (hf:X.fn x=true∨X.env.scope.names.lookup x=some .local:=by first | exact .inl rfl | exact .inr rfl | assumption)
    (hin:Nat.blt j cv.n=true:=by rfl):PS X (.Assign [.Name x xp] (.Name y yp) pos) (tS cv XO (EX j i)):=by
  intro pins s σ H D I ⟨H₀,F,ρ,r,g,e',k⟩
  refine ol hN hj hx (w5 (i:=i) hi hv hd hcd) hs hf pins s σ H D I ?_
  unfold EX at e'
  split at e'
  · rename_i d hρ
    cases e'
    obtain ⟨O,o⟩:=g.ex
    obtain ⟨v,hσ,rr⟩:=o.sl i _ hρ
    refine ⟨v,hσ,k _ _ (g.put hin fun O' o'=>?_)⟩
    obtain ⟨v',hσ',rr'⟩:=o'.sl i _ hρ
    rw [hσ] at hσ'
    cases hσ'
    exact ⟨v,rfl,rr'⟩
  · cases e'
end
theorem CK{k k':List Int}(h:(k.map Sum.inl:List Key)=k'.map Sum.inl):k=k':=by
  induction k generalizing k' with
  | nil=>cases k' with
    | nil=>rfl
    | cons a b=>cases h
  | cons i k ih=>cases k' with
    | nil=>cases h
    | cons j k'=>
      simp only [List.map_cons,List.cons.injEq,Sum.inl.injEq] at h
      rw [h.1,ih h.2]
theorem Kv(ts:List Ent)(k:List Int):AF (ts.map dEnt) (k.map Sum.inl)=(kj ts k).map V.int:=by
  induction ts with
  | nil=>rfl
  | cons x ts ih=>
    by_cases e:x.1=k
    · rw [List.map_cons,mw (show (dEnt x).1=k.map Sum.inl by subst e;rfl)]
      simp [kj,List.find?_cons,e,dEnt]
    · rw [List.map_cons,md (fun z=>e (CK z)),ih]
      simp [kj,List.find?_cons,e]
theorem EL(ts:List Ent)(k:List Int)(n:Int):kc (ts.map dEnt) (k.map Sum.inl) (.int n)=(f7 ts k n).map dEnt:=by
  have hany:((ts.map dEnt).any fun kv=>decide (kv.1=k.map Sum.inl))=ts.any fun x=>decide (x.1=k):=by
    rw [List.any_map]
    congr 1
    funext x
    exact decide_eq_decide.mpr ⟨fun z=>CK z,fun z=>by subst z;rfl⟩
  unfold kc f7
  rw [hany]
  by_cases h:(ts.any fun x=>decide (x.1=k))=true
  · rw [if_pos h,if_pos h,List.map_map,List.map_map]
    apply List.map_congr_left
    intro x _
    by_cases e:x.1=k
    · simp [dEnt,e]
    · simp only [Function.comp,if_neg e]
      rw [if_neg (show ¬ (dEnt x).1=k.map Sum.inl from fun z=>e (CK z))]
  · rw [if_neg h,if_neg h,List.map_append]
    rfl
theorem AL(ts:List Ent)(k:List Int)(n:Int):(f7 ts k n).length≤ts.length+1:=by
  unfold f7
  split<;>simp
theorem MT{X:Cx}{pins:List (Addr×Obj)}{σ:L2.St}{H:Hp}{s:Shared}{a b:Addr}{ts:List Ent}{ep:Nat}{k:List Int}{n:Int}{u:Value}{A:Around}{E:Value→Shared→Prop}{Q:Unit→Shared→Prop}(hu:(tupleKind (yi X.prog X.w)).room A)
    (I:Inv X pins σ H s) (e:H a=some (.dT (ts.map dEnt) ep)) (eb:Rd H b (.tup ((k.map Sum.inl:List Key).map kV))) (ru:RelV (.int n) u) (hl:ts.length < sizeLine)
    (h:∀ ep' s',Inv X pins σ (upd H a (.dT ((f7 ts k n).map dEnt) ep')) s'→(∀ c o,c≠a→s.heap.get? c=some o→s'.heap.get? c=some o)→Q () s'):wpAny (model X.prog X.w) A (dictSet a (.ref b) u) Q E s:=by
  obtain ⟨z,hd,xs,rel,dd⟩:=MD I.hok e
  have hz:xs.length≤sizeLine:=by rw [← Paired.length rel];exact z
  refine wpAny_dictSet_heap (hsz:=hz) hu (Dr I.hok eb) dd fun h' dd' hs=>?_
  obtain ⟨q,es,ep',hq,h2,h3,h4,_,h5⟩:=dd'
  refine h ep' _ (GY I (by rw [e];exact True.intro) hs ⟨q,hq⟩ ⟨?_,hd,_,?_,q,es,hq,h2,h3,h4,h5⟩) fun c o hc q=>(hs.2 c hc).trans q
  · rw [List.length_map]
    have:=AL ts k n
    omega
  · rw [← EL]
    refine (rel.put (k.map Sum.inl) eb ru).keeps fun c ys ec=>?_
    rcases ec with ec | ⟨o,ec⟩
    · exact .inl (by rw [zt (Hj ec e (fun z=>nomatch z))];exact ec)
    · exact .inr ⟨o,by rw [zt (Hj ec e (fun z=>nomatch z))];exact ec⟩
theorem MZ{X:Cx}{pins:List (Addr×Obj)}{σ:L2.St}{H:Hp}{s:Shared}{a b:Addr}{ts:List Ent}{ep:Nat}{k:List Int}{n:Int}{u:Value}{A:Around}{E:Value→Shared→Prop}{Q:Unit→Shared→Prop}(hu:A.units+1 < cLine)
    (I:Inv X pins σ H s) (e:H a=some (.dT (ts.map dEnt) ep)) (eb:Rd H b (.tup ((k.map Sum.inl:List Key).map kV))) (ru:RelV (.int n) u) (hl:ts.length < sizeLine)
    (h:∀ ep' s',Inv X pins σ (upd H a (.dT ((f7 ts k n).map dEnt) ep')) s'→Q () s'):wpAny (model X.prog X.w) A (setItem (.ref a) (.ref b) u) Q E s:=by
  obtain ⟨z,hd,xs,rel,dd⟩:=MD I.hok e
  have hz:xs.length≤sizeLine:=by rw [← Paired.length rel];exact z
  refine wpAny_setItem_heap (hsz:=hz) (tupleKind_room_in1 hu) (Dr I.hok eb) dd fun h' dd' hs=>?_
  obtain ⟨q,es,ep',hq,h2,h3,h4,_,h5⟩:=dd'
  refine h ep' _ (GY I (by rw [e];exact True.intro) hs ⟨q,hq⟩ ⟨?_,hd,_,?_,q,es,hq,h2,h3,h4,h5⟩)
  · rw [List.length_map]
    have:=AL ts k n
    omega
  · rw [← EL]
    refine (rel.put (k.map Sum.inl) eb ru).keeps fun c ys ec=>?_
    rcases ec with ec | ⟨o,ec⟩
    · exact .inl (by rw [zt (Hj ec e (fun z=>nomatch z))];exact ec)
    · exact .inr ⟨o,by rw [zt (Hj ec e (fun z=>nomatch z))];exact ec⟩
theorem Ja{XO:XOT}{f:FE}{σ:L2.St}{H:Hp}{Q Q':VK}(h:tF XO f σ H Q)(i:∀ v H,Q v H→Q' v H):tF XO f σ H Q':=
  let ⟨H₀,Hs,ρ,r,g,e,k⟩:=h
  ⟨H₀,Hs,ρ,r,g,e,fun l d v H' e s rp=>i _ _ (k.1 l d v H' e s rp),k.2⟩
theorem As{i j:Nat}{σ:L2.St}{H:Hp}{Q Q':VK}(h:CV (By i) (By j) (fun σ H Q=>Q (.int 0) H) σ H Q)(w:∀ v H,Q v H→Q' v H):CV (By i) (By j) (fun σ H Q=>Q (.int 0) H) σ H Q':=by
  obtain ⟨v,h1,a,rfl,hd,u,h2,o,hg,q⟩:=h
  exact ⟨_,h1,a,rfl,hd,u,h2,o,hg,w _ _ q⟩
theorem ng{P:PP}{H:Hp}:∀ {k:List Int} {vs:List V},Reps P H (k.map .int) vs→vs=(k.map Sum.inl:List Key).map kV
  | [],_,h=>h
  | i::k,_,⟨v,r,e,h,t⟩=>by
    subst e
    rw [ng t,show v=V.int i from h]
    rfl
section
variable{prog:Program}{w:World}{A:Around}{E:Value→Shared→Prop}{s:Shared}
theorem HV{a:Addr}{xs:Array Value}{k:Nat}{o:Obj}{Q:Option Value→Shared→Prop}(hx:s.heap.get? a=some o)(hc:o.cls= .type "list")(hd:o.dict=none)(hdat:o.data= .seq xs k)(hA:A.handled=none)
    (h:∀ h' tk,(∀ b o,s.heap.get? b=some o→h'.get? b=some o)→Q none {s with heap:=h',toks:=tk}):wpAny (model prog w) A (getAttr? (.ref a) "keys") Q E s:=by
  obtain ⟨c,dct,dat,sl⟩:=o
  simp only at hc hdat hd
  subst hc hdat hd
  obtain ⟨hp,g,d,tk,os⟩:=s
  have hT:∀ tk',(⟨hp,g,d,tk',os⟩:Shared).TypeIs (.ref a) "list":=fun _=>⟨_,hx,rfl⟩
  have f1:=sub_AttributeError
  have f3:=F.slot_list_getattribute.lookup
  have f4:=F.slot_list_getattribute.bind (.ref a)
  have f5:=am_list_getattr_none
  have hm:typeLookup (.type "list") "keys" =pure none:=am_miss_of_fast (by decide +kernel)
  unfold getAttr? getAttrBy? getAttrBy
  repeat (any_goals (first | assumption | exact hT _ | ((with_reducible show wpAny _ _ (call (Value.builtin "list.__getattribute__") _ _) _ _ _);refine call_meets F.slot_list_getattribute (hT _) am_entry_list_getattribute (F.args_list_getattribute_2 _ _) (meets_getattribute_miss_list a xs k sl "keys" _ hm (by decide +kernel)) ⟨hx,hA,fun h' tk' e hx'=>?_⟩) | wp_step))
  obtain ⟨t',u',he⟩:=hx'.there
  show wpAny _ _ (getattributeRaised _ _ _ _ _ _ _) _ _ _
  unfold getattributeRaised
  repeat (any_goals (first | assumption | wp_step))
  exact h _ _ hx'.keeps
theorem uw:entryFor table "dict.update.loop" =some Builtin.«dict.update.loop»:=entryFor_of_tree (by kernel_rfl)
theorem vo:plainId "dict.update.loop" =true:=by decide +kernel
theorem An:mroOf (.type "dict")=pure [.type "dict",.type "object"]:=by rw [mroOf_type];kernel_rfl
theorem sr:typeLookup (.type "dict") "__new__" =pure (some (.builtin "dict.__new__")):=by rw [typeLookup_type,builtinLookup_eq_fast];kernel_rfl
theorem DY:TypeCalled "dict" "dict.__new__" "dict.__init__":=
  ⟨by decide +kernel,by decide +kernel,⟨_,_,An⟩,madeBy_type An sr (by decide +kernel),by decide +kernel,by rw [isSubtype_type];kernel_rfl,F.slot_dict_init⟩
theorem sv(a:Value):checkTypeCall "dict" ⟨[a],[]⟩=pure ():=by kernel_rfl
theorem Az(a:Value):checkBuiltinCall "dict.__new__" ⟨[.type "dict",a],[]⟩=pure ():=by kernel_rfl
theorem Au:entryFor table "dict.__new__" =some Builtin.«dict.__new__»:=entryFor_of_tree (by kernel_rfl)
theorem dw:plainId "dict.__new__" =true:=by decide +kernel
theorem Bn:isSubtype (.type "dict") (.type "dict")=pure true:=by rw [isSubtype_type];kernel_rfl
theorem Bw(a:Value){Q₁:Value→Shared→Prop}(h:Q₁ (.ref s.heap.objs.size) {s with heap:=s.heap.push {cls:=.type "dict",data:=.dict #[]}}):
    codeAny (model prog w) A (.call (.builtin "dict.__new__") ⟨[.type "dict",a],[]⟩) (wants Q₁ E) s:=by
  refine codeAny_of_tree ?_
  show wpAny _ A.in1 (do checkBuiltinCall "dict.__new__" ⟨[.type "dict",a],[]⟩;again (.builtin "dict.__new__" ⟨[.type "dict",a],[]⟩)) _ _ s
  refine wpAny_bind (wpAny_of_eq (Az a) (wpAny_pure ⟨plainId_quiet dw _,codeAny_builtin Au ?_⟩))
  rw [Around.under_plainId dw _]
  have hsub:=Bn
  have hmro:=An
  obtain ⟨hp,g,d,tk,os⟩:=s
  unfold Builtin.«dict.__new__»
  repeat (any_goals (first | assumption | wp_step))
end
section
variable{X:Cx}{pins:List (Addr×Obj)}{σ:L2.St}{A:Around}
theorem LT{H:Hp}{a:Addr}{o o':HO}:upd (upd H a o) a o'=upd H a o':=by
  funext b
  by_cases z:b=a
  · subst z;rw [z9,z9]
  · rw [zt z,zt z,zt z]
theorem ED(hu:(tupleKind (yi X.prog X.w)).room A.in1){R:Result→Shared→Prop}(D it l:Addr)(vs:List V)(hA:A.handled=none)(Hz:Hp)(hD:Hz D=none)(hln:Rd Hz l (.lst vs)):∀ (us:List Ent) (i:Nat) (acc:List Ent) (ep:Nat) (s:Shared),
    Inv X pins σ (upd Hz D (.dT (acc.map dEnt) ep)) s→s.heap.IsListIter it l i→C6 X pins (upd Hz D (.dT (acc.map dEnt) ep)) it→Reps (fun _ _=>False) Hz (us.map ve) (vs.drop i)→acc.length+us.length≤big→
    (∀ ep' s',Inv X pins σ (upd Hz D (.dT ((us.foldl (fun acc x=>f7 acc x.1 x.2) acc).map dEnt) ep')) s'→R (.ok (.ret .none)) s')→
    codeAny (model X.prog X.w) A (.builtin "dict.update.loop" ⟨[.ref D,.ref it,rawInt i,.none],[]⟩) R s:=by
  intro us
  have up:∀ {c:Addr} {u:HO},Rd Hz c u→∀ o,Rd (upd Hz D o) c u:=fun {c u} q o=>by
    rcases q with q | ⟨oo,q⟩
    · exact .inl (by rw [zt (fun z=>by rw [z,hD] at q;cases q)];exact q)
    · exact .inr ⟨oo,by rw [zt (fun z=>by rw [z,hD] at q;cases q)];exact q⟩
  induction us with
  | nil=>
    intro i acc ep s I st fp rs hl h
    refine codeAny_builtin uw ?_
    rw [Around.under_plainId vo _]
    obtain ⟨its,rv,p,hz⟩:=I.list (.inl (up hln _))
    have hnil:vs.drop i=[]:=rs
    have hlen:=rv.length
    have hi:vs.length≤i:=List.drop_eq_nil_iff.mp hnil
    obtain ⟨f0,f1,f2,f3,f4,f5⟩:=fp
    unfold Builtin.«dict.update.loop»
    refine wpAny_bind (wpAny_pyNext_list_end (A:=A.in1) hA st p.isList (by simp;omega) fun h' eb=>?_)
    have I1:=I.turned (t':=s.toks) (fun b o hb e=>eb b o hb e) f0 f1 f3 f4 f5
    unfold Builtin.Dict.addKeywords
    refine wpAny_bind (m:=pure _) (wpAny_pure (wpAny_pure ?_))
    exact h ep _ I1
  | cons x us ih=>
    intro i acc ep s I st fp rs hl h
    obtain ⟨v,r,ev,rx,rs⟩:=rs
    obtain ⟨p,ws,rfl,hp,rp⟩:=rx
    obtain ⟨kv,wr,rfl,hk,rp⟩:=rp
    obtain ⟨nv,wr',rfl,hn,rp⟩:=rp
    have rp:wr'=[]:=rp
    subst rp
    obtain ⟨b,bs,rfl,hb,rb⟩:=hk
    have ebs:=ng rb
    subst ebs
    cases (show nv= .int x.2 from hn)
    have hvi:vs[i]? =some (.ref p):=by
      have:=congrArg (fun l=>l[0]?) ev
      simpa using this
    have hdrop:vs.drop (i+1)=r:=by
      have:=congrArg List.tail ev
      simpa [List.tail_drop] using this
    refine codeAny_builtin uw ?_
    rw [Around.under_plainId vo _]
    obtain ⟨its,rv,pl,hz⟩:=I.list (.inl (up hln _))
    obtain ⟨u,hu',ru⟩:=rv.get hvi
    cases ru
    obtain ⟨f0,f1,f2,f3,f4,f5⟩:=id fp
    unfold Builtin.«dict.update.loop»
    refine wpAny_bind (wpAny_pyNext_list_item st pl.isList (x:=.ref p) (by simpa using hu') fun h' st' sb=>?_)
    have I1:Inv X pins σ (upd Hz D (.dT (acc.map dEnt) ep)) {s with heap:=h'}:=I.turned (t':=s.toks) (fun b o hb e=>(sb.2 b hb).trans e) f0 f1 f3 f4 f5
    obtain ⟨its2,rv2,⟨o2,ho2,hc2,n2,hd2⟩,_⟩:=I1.tuple (.inl (up hp _))
    cases rv2 with
    | cons q1 q2=>
    cases q2 with
    | cons q2 q3=>
    cases q3
    cases q1
    refine wpAny_bind (wpAny_holding ?_)
    refine wpAny_bind (wpAny_tryCatch ?_)
    unfold Builtin.Dict.pairItems
    refine wpAny_bind (wpAny_typeOf (T:="tuple") ⟨o2,ho2,hc2⟩ ?_)
    rw [if_pos (by decide)]
    refine wpAny_bind (wpAny_seqItems ho2 hd2 (wpAny_pure ?_))
    refine wpAny_holding (MT (k:=x.1) (n:=x.2) hu I1 z9 (up hb _) q2 (by
      have:big < sizeLine:=by decide
      simp only [List.length_cons] at hl
      omega) fun ep' s' I2 keep=>?_)
    rw [LT] at I2
    refine wpAny_pure ⟨plainId_quiet vo _,?_⟩
    have st2:s'.heap.IsListIter it l (i+1):=st'.at fun o q=>keep it o (fun z=>by rw [z,z9] at f0;cases f0) q
    have e1:rawInt ((i:Int)+1)=rawInt ((i+1:Nat):Int):=by congr 1
    refine ih (i+1) (f7 acc x.1 x.2) ep' s' I2 st2 ⟨?_,f1,f2,f3,f4,f5⟩ (by rw [hdrop];exact rs) ?_ h
    · by_cases z:it=D
      · rw [z,z9] at f0;cases f0
      · rw [zt z] at f0 ⊢;exact f0
    · have:=AL acc x.1 x.2
      simp only [List.length_cons] at hl
      omega
end
section
variable{X:Cx}{XO:XOT}{a:Expr}{fa fb:FE}{pos p apos cpos:Pos}
def rDict:List V→Hp→VK→Prop:=fun xs H Q=>∃ l vs ts,xs=[.ref l]∧Rd H l (.lst vs)∧Reps (fun _ _=>False) H (ts.map ve) vs∧ts.length≤big∧∀ D ep,H D=none→Q (.ref D) (upd H D (.dT ((dictOf ts).map dEnt) ep))
theorem Ia(hu:X.A.units+64 < cLine)(hc:X.calm=true):CallR X (.type "dict") rDict:=by
  intro pins s σ H xs us Q I r h
  obtain ⟨l,vs,ts,rfl,hl,rs,hb,q⟩:=h
  obtain ⟨u,rfl,ru⟩:=rg r
  cases ru
  have hh:=I.ok.hd hc
  refine callType_codes (Q₁:=fun obj s₁=>obj= .ref s.heap.objs.size∧s₁= {s with heap:=s.heap.push {cls:=.type "dict",data:=.dict #[]}}) DY (sv _) F.entry_dict_init (Bw _ ⟨rfl,rfl⟩) fun obj s₁ h₁=>?_
  obtain ⟨rfl,rfl⟩:=h₁
  have nD:H s.heap.objs.size=none:=I.hok.fresh (Nat.le_refl _)
  have I1:Inv X pins σ (upd H s.heap.objs.size (.dT [] 0)) {s with heap:=s.heap.push {cls:=.type "dict",data:=.dict #[]}}:=I.laid (a:=s.heap.objs.size) (o:=.dT [] 0) (t':=s.toks) (fun _ _ q=>Heap.get?_push_of_some _ q) (Nat.le_refl _) (EU s.heap I.big)
  generalize hD:s.heap.objs.size=D at nD I1
  have gD:(s.heap.push {cls:=.type "dict",data:=.dict #[]}).get? D=some {cls:=.type "dict",data:=.dict #[]}:=by rw [← hD];exact Heap.get?_push_size _ rfl
  generalize hs1:({s with heap:=s.heap.push {cls:=.type "dict",data:=.dict #[]}}:Shared)=s1 at I1
  have gD1:s1.heap.get? D=some {cls:=.type "dict",data:=.dict #[]}:=by rw [← hs1];exact gD
  have hT:s1.TypeIs (.ref D) "dict":=⟨_,gD1,rfl⟩
  refine ⟨hT,F.args_dict_init_2 _ _,?_⟩
  have hl1:Rd (upd H D (.dT [] 0)) l (.lst vs):=by
    rcases hl with q | ⟨oo,q⟩
    · exact .inl (by rw [zt (fun z=>by rw [z,nD] at q;cases q)];exact q)
    · exact .inr ⟨oo,by rw [zt (fun z=>by rw [z,nD] at q;cases q)];exact q⟩
  obtain ⟨its,rv,pl,hz⟩:=I1.list (.inl hl1)
  obtain ⟨o,n,ho,hcl,hd0,hd⟩:=id pl
  unfold Builtin.«dict.__init__» Builtin.Dict.selfAndRest
  refine wpAny_bind (wpAny_bind (wpAny_notOrdered_dict hT ?_))
  refine wpAny_bind (m:=Builtin.Dict.addrOf _) (wpAny_pure (wpAny_pure ?_))
  unfold Builtin.Dict.updateCommon
  show wpAny _ _ (Builtin.Dict.updateFrom "dict.__init__" D (.ref l) [] .none) _ _ _
  unfold Builtin.Dict.updateFrom
  refine wpAny_bind (wpAny_typeOf (T:="list") ⟨o,ho,hcl⟩ ?_)
  rw [if_pos (by decide)]
  refine wpAny_bind (HV (A:=X.A.in1.in1) ho hcl hd0 hd hh fun h' tk keep=>?_)
  rw [if_pos (show (none:Option Value).isNone=true from rfl)]
  have I2:Inv X pins σ (upd H D (.dT [] 0)) {s1 with heap:=h',toks:=tk}:=I1.kept (t':=tk) keep
  obtain ⟨its2,rv2,pl2,hz2⟩:=I2.list (.inl hl1)
  refine wpAny_bind (wpAny_rule ?_)
  refine wpAny_bind (wpAny_pyIter_list pl2.isList ?_)
  refine wpAny_pure ⟨plainId_quiet vo _,?_⟩
  have I3:=I2.kept (t':=tk) (h':=h'.push {cls:=.type "list_iterator",data:=.fields #[.ref l,.int 0 0]}) fun b o q=>Heap.get?_push_of_some _ q
  refine ED (A:=X.A.in1) ?_ D h'.objs.size l vs hh H nD hl ts 0 [] 0 _ I3 ⟨_,Heap.get?_push_size _ rfl,rfl,rfl⟩ (I2.fpOk (Nat.le_refl _) (I2.hok.fresh (Nat.le_refl _))) (by simpa using rs) (by simpa using hb) fun ep' s' I'=>?_
  · exact tupleKind_room_in1 (A:=X.A.in1) (show X.A.units+1+1 < cLine by omega)
  · exact ⟨rfl,.ref D,_,I',rfl,q D ep' nD⟩
theorem Ip:bootBuiltins "dict" =some (.type "dict"):=by decide +kernel
theorem Nn(C:BC X)(hc:X.calm=true)(hm:X.mg "dict" =none)(ha:PE X a (tF XO fa))(hg:Gl X "dict":=by rfl)(he:starEach [a] X.env=(false,eval a X.env)::starEach [] X.env:=by exact q0 rfl)(hpl:(backTo pos (starEach [] X.env)).any (·.1)=false:=by exact w6 rfl):PE X (.Call (.Name "dict" p) [a] [] pos) (tF XO (GG fa)):=
  tz (Ia C.hu hc) (fun H₀ Hs H l x d v Q s0 s1 e rx q=>by
    unfold G7 at e
    split at e
    · split at e
      · rename_i ds hb
        rw [Option.map_eq_some_iff] at e
        obtain ⟨ts,hts,rfl⟩:=e
        have:=AU hts
        subst this
        obtain ⟨p,vs,rfl,hp,rs⟩:=rx
        have hlf:lfs (ts.map ve)=true:=JZ fun x hx=>by
          obtain ⟨t,_,rfl⟩:=List.mem_map.mp hx
          simp [ve,lf,lfs,AN]
        refine ⟨p,vs,ts,rfl,hp.rd,rs.nl hlf,by simpa using hb,fun D ep hD=>q _ _ (qb hD _) (.inr ⟨D,dictOf ts,ep,rfl,rfl,.inl ⟨⟨rfl,s1.free hD⟩,z9⟩⟩)⟩
      · cases e
    · cases e) hm Ip ha hg (by decide) (by decide) he hpl
theorem L6{prog:Program}{w:World}{A:Around}{E:Value→Shared→Prop}{s:Shared}{d:Addr}{o:Obj}{es:Array DictEntry}{ep:Nat}{Q:Value→Shared→Prop}(hd:(d == sysModules)=false)(ho:s.heap.get? d=some o)(hc:o.ExactDict)(hdat:o.data= .dict es ep)(hfit:(es.size:Int) < 2 ^ 63)
    (h:Q (.int es.size (s.toks+1)) {s with toks:=s.toks+1+1}):wpAny (model prog w) A (call (.builtin "len") [.ref d]) Q E s:=by
  have ty:s.TypeIs (.ref d) "dict":=⟨o,ho,hc.1⟩
  have meets:MeetsIn prog w (Builtin.«dict.__len__» ⟨[.ref d],[]⟩) (fun _ R s=>∃ o es ep,s.heap.get? d=some o∧o.data= .dict es ep∧R (.ok (.ret (.int es.size s.toks))) {s with toks:=s.toks+1}):=
    .of_wp fun A R s ⟨o,es,ep,ho,hdat,h⟩=>by
      show wpAny _ _ (dictSize d >>= _) _ _ s
      unfold dictSize
      refine wpAny_bind (wpAny_bind (wpAny_dictEntries ho hdat (wpAny_pure ?_)))
      show wpAny _ _ (Builtin.Dict.pendingCount d >>= _) _ _ s
      refine wpAny_bind (wpAny_pendingCount_other hd ?_)
      refine wpAny_ret_mkInt ?_
      rw [Nat.add_zero];exact h
  refine Calls.call_function_entry kind_len plain_len entry_len (args_len1 _) ?_
  unfold Builtin.«len»
  refine wpAny_bind (m:=oneArg "len" _) (wpAny_pure ?_)
  refine wpAny_bind (m:=callSpecial? (.ref d) (Str.ofString "__len__")) (wpAny_callSpecial?_slot (name:=Str.ofString "__len__") ty PySem.F.slot_dict_len
    (call_meetsIn PySem.F.slot_dict_len ty PySem.F.entry_dict_len (PySem.F.args_dict_len_1 _) meets ⟨o,es,ep,ho,hdat,?_⟩))
  show wpAny _ _ _ _ _ {s with toks:=s.toks+1}
  refine wpAny_bind (wpAny_holding (wpAny_pure ?_))
  refine wpAny_bind (wpAny_letGo ?_)
  show wpAny _ _ (if ((es.size:Nat):Int) < 0 then _ else _) _ _ _
  rw [if_neg (by omega)]
  show wpAny _ _ (if ((es.size:Nat):Int)≥2 ^ 63 then _ else _) _ _ _
  rw [if_neg (by omega)]
  exact wpAny_bind (wpAny_mkInt (wpAny_pure ⟨_,rfl,h⟩))
def rLenD:List V→Hp→VK→Prop:=fun xs H Q=>∃ a kvs ep,xs=[V.ref a]∧Rd H a (.dT kvs ep)∧Q (.int kvs.length) H
theorem H8:CallR X (.builtin "len") rLenD:=by
  intro pins s σ H xs us Q I r h
  obtain ⟨a,kvs,ep,rfl,hd,q⟩:=h
  obtain ⟨u,rfl,ru⟩:=rg r
  cases ru
  have hz:(sizeLine:Nat) < 2 ^ 63:=by decide
  have z:=(Hi I.hok hd).1
  obtain ⟨hs,o,es,h1,h2,h3,h4,_⟩:=Dq I.hok hd
  refine L6 hs h1 h2 h3 (by rw [h4];omega) ?_
  rw [h4]
  exact ⟨.int kvs.length,H,I.tok _,⟨_,rfl⟩,q⟩
theorem N2(C:BC X)(ha:PE X a (tF XO fa))(hg:Gl X "len":=by rfl)(he:starEach [a] X.env=(false,eval a X.env)::starEach [] X.env:=by exact q0 rfl)(hpl:(backTo pos (starEach [] X.env)).any (·.1)=false:=by exact w6 rfl):PE X (.Call (.Name "len" p) [a] [] pos) (tF XO (G8 fa)):=
  C3 H8 (fun H₀ Hs H l x d v Q s0 s1 e rx q=>by
    unfold GU at e
    rw [Option.map_eq_some_iff] at e
    obtain ⟨ts,hts,rfl⟩:=e
    obtain ⟨a,ep,rfl,rl⟩:=tq rx hts
    exact ⟨a,_,ep,rfl,rl.rd,q _ H (Same.refl H) (by rw [List.length_map];rfl)⟩) C.mlen PySem.boot_len ha hg (by decide) (by decide) he hpl
theorem FU{X:Cx}{pins:List (Addr×Obj)}{σ:L2.St}{H:Hp}{s:Shared}{a:Addr}{ns:List Int}{i:Int}{u:Value}{Q:VK}(I:Inv X pins σ H s)(ha:Rd H a (.tup (ns.map .int)))(ru:RelV (.int i) u)(q:Q (.int (ns.countP fun n=>decide (n=i):Nat)) H):
    wpAny (model X.prog X.w) X.A (call (.builtin "tuple.count") [.ref a,u]) (EP X pins σ Q) X.xe s:=by
  obtain ⟨t,rfl⟩:=ru
  obtain ⟨its,rv,⟨⟨c,dd,dt,sl⟩,ho,hc,n,hd⟩,_⟩:=I.tuple (.inl ha)
  simp only at hc hd
  subst hc hd
  have cnts:∀ (ns:List Int) (its:List Value),Vals (ns.map V.int) its→(∀ y∈its,∃ j t,y=Value.int j t)∧its.countP (fun y=>match y with
      | .int j _=>j == i
      | _=>false)=ns.countP fun n=>decide (n=i):=by
    intro ns
    induction ns with
    | nil=>intro its r;cases r;exact ⟨fun y hy=>(nomatch hy),rfl⟩
    | cons m ns ih=>
      intro its r
      cases r with
      | cons r1 r2=>
        obtain ⟨t,rfl⟩:=r1
        obtain ⟨h1,h2⟩:=ih _ r2
        refine ⟨fun y hy=>?_,?_⟩
        · rcases List.mem_cons.mp hy with rfl | hy
          · exact ⟨m,t,rfl⟩
          · exact h1 y hy
        · rw [List.countP_cons,List.countP_cons,h2]
          simp only [beq_iff_eq,decide_eq_true_eq]
  obtain ⟨h1,h2⟩:=cnts ns its rv
  refine call_meets F.slot_tuple_count ⟨_,ho,rfl⟩ F.entry_tuple_count (F.args_tuple_count_2 _ _) (PySem.SeqAt.tuple_countAt a its.toArray n dd sl (.int i t) (fun y=>match y with
      | .int j _=>j == i
      | _=>false)) ⟨ho,fun y hy=>?_,?_⟩
  · obtain ⟨j,t',rfl⟩:=h1 y (by simpa using hy)
    exact PySem.SeqAt.EqAt.int_int j t' i t
  · refine ⟨.int (ns.countP fun n=>decide (n=i):Nat),H,I.tok _,⟨s.toks,?_⟩,q⟩
    rw [List.toList_toArray,h2]
theorem Ls(C:BC X){b:Expr}(ha:PE X a (tF XO fa))(hb:PE X b (tF XO fb))(hbase:attributeBase a "count" X.env (eval a X.env)=eval a X.env:=by rfl)
    (hfew:((backTo cpos (starEach [b] X.env)).all (fun x=>!x.1) && (backToKw cpos (keywordEach [] X.env)).all (fun x=>x.1.isSome)
      && decide ([b].length+([]:List Keyword).length+(if ([]:List Keyword).isEmpty then 0 else 1) < 30))=true:=by rfl)
    (hline:(apos.endLine == cpos.line)=true:=by rfl) (hs:backTo cpos (starEach [b] X.env)=[(false,eval b X.env)]:=by rfl):
    PE X (.Call (.Attribute a "count" apos) [b] [] cpos) (tF XO (lu fa fb)):=by
  intro pins s σ H Q I ⟨H₀,Hs,ρ,rr,g,e,kk⟩
  have q:tF XO fa σ H fun x H1=>∃ (p:Addr) (ns:List Int),x= .ref p∧Rd H1 p (.tup (ns.map .int))∧tF XO fb σ H1 fun y H2=>∃ i:Int,y= .int i∧Rd H2 p (.tup (ns.map .int))∧Q (.int (ns.countP fun n=>decide (n=i):Nat)) H2:=by
    refine kn g e kk fun l x v H1 s1 g1 r1 e1 k1=>?_
    split at e1
    · rename_i xs
      split at e1
      · rename_i ns hns
        have:=u5 hns
        subst this
        obtain ⟨p,vs,rfl,hp,rs⟩:=r1
        have ev:vs=ns.map V.int:=by
          rw [ng rs,List.map_map]
          rfl
        subst ev
        refine ⟨p,ns,rfl,hp,kn g1 e1 k1 fun m y u H2 s2 g2 r2 e2 k2=>?_⟩
        split at e2
        · rename_i i
          exact ⟨i,r2,Rd.same s2 hp,k2.give e2 (Same.refl _) rfl⟩
        · cases e2
      · cases e1
    · cases e1
  refine wpAny_Call_method_late hbase hfew hline hs (thn (ha pins s σ H _ I q) fun v s1 ⟨x,H1,I1,r1,p,ns,ex,hp,q1⟩=>?_)
  subst ex
  obtain rfl:v=Value.ref p:=r1
  obtain ⟨⟨_,nd⟩,its,rv,o,ho,hc,n,hd⟩:=(show ObjOk X.prog X.w H1 s1.heap p (.tup (ns.map .int)) from hp.ok I1.hok)
  refine ⟨"tuple","tuple.count",PySem.F.plainAttrs_tuple,PySem.F.slot_tuple_count,PySem.F.type_tuple_count,⟨o,ho,hc⟩,fun b e=>by cases e;exact ⟨o,ho,nd o ho⟩,?_⟩
  refine Calls.callWith_builtin rfl (Calls.evalArgs_plain (Calls.spliced_cons (thn (hb pins s1 σ H1 _ I1 q1) fun iv s2 ⟨y,H2,I2,ry,i,ey,hp2,q2⟩=>Calls.spliced_nil ?_)))
  subst ey
  exact FU I2 hp2 ry q2
end
section
variable{X:Cx}{XO:XOF}{cv:Cfg}{pos:Pos}{H₀ F H:Hp}{ρ:Rho}{σ:L2.St}{f:FE}
theorem SR.newOwn{i:Nat}{t:Slot}{p:Addr}{o1:OwV}(g:SR cv H₀ F ρ σ H)(hi':Nat.blt i cv.n=true)(hp:H p=none)(ht:∀ O:Own,O p=some i→SS cv H₀ O (some (some (.ref p))) i (upd H p o1.ho) t):
    SR cv H₀ F (ρ.set i (some t)) (σ.set i (some (.ref p))) (upd H p o1.ho):=by
  obtain ⟨O,o⟩:=g.ex
  have hi:i < σ.length:=by rw [g.ln];exact Nat.ble_eq.mp hi'
  have hρ:i < ρ.length:=by rw [g.len];exact Nat.ble_eq.mp hi'
  have sm:Same H (upd H p o1.ho):=qb hp _
  have hO:∀ a,H a≠none→(if a=p then some i else O a)=O a:=fun a n=>by
    rw [if_neg]
    intro z;subst z;exact n hp
  refine ⟨g.s0,g.s1.trans sm,by simp [g.len],by simp [g.ln],fun a=>if a=p then some i else O a,fun a j q=>?_,fun a j q=>?_,fun j t' e=>?_⟩
  · by_cases z:a=p
    · subst z;exact g.s1.free hp
    · rw [if_neg z] at q;exact o.fr a j q
  · by_cases z:a=p
    · subst z;exact ⟨o1,z9⟩
    · rw [if_neg z] at q;obtain ⟨vs,q'⟩:=o.ls a j q;exact ⟨vs,sm _ _ q'⟩
  · by_cases hij:i=j
    · subst hij
      rw [qz _ _ _ _ hρ,if_pos rfl] at e
      cases e
      rw [qz _ _ _ _ hi,if_pos rfl]
      exact ht _ (if_pos rfl)
    · rw [qz _ _ _ _ hρ,if_neg hij] at e
      rw [qz _ _ _ _ hi,if_neg hij]
      have q:=o.sl j t' e
      have old:∀ {P P':PP},(∀ z a,H a≠none→P z a→P' z a)→∀ a (u:HO),Rl P H a u→Rl P' (upd H p o1.ho) a u:=fun {P P'} hP a u r=>by
        rcases r with ⟨p,e⟩ | ⟨p,u,e⟩
        · exact .inl ⟨hP _ _ (bb e) p,sm _ _ e⟩
        · exact .inr ⟨hP _ _ (bb e) p,u,sm _ _ e⟩
      cases t' with
      | par d=>obtain ⟨w,e,r⟩:=q;exact ⟨w,e,Rep.mono (fun a vs e=>Rd.same sm e) (old fun z a n p=>(hO a n).trans p) d w r⟩
      | loc d=>obtain ⟨w,e,r⟩:=q;exact ⟨w,e,Rep.mono (fun a vs e=>Rd.same sm e) (old fun z a n p=>⟨p.1,(hO a n).trans p.2.1,p.2.2⟩) d w r⟩
      | own ds=>
        obtain ⟨p,vs,e,q,h,rs⟩:=q
        exact ⟨p,vs,e,(hO p (bb h)).trans q,sm _ _ h,rs.same sm⟩
      | own2 ds=>
        obtain ⟨p,vs,e,q,h,rs⟩:=q
        exact ⟨p,vs,e,(hO p (bb h)).trans q,sm _ _ h,Reps.mono (fun a vs e=>Rd.same sm e) (old fun z a n p=>⟨p.1,(hO a n).trans p.2.1,p.2.2⟩) ds vs rs⟩
      | lent ds=>obtain ⟨ws,e1,hq,hqp,rs⟩:=q;exact ⟨ws,e1,(hO _ (bb hqp)).trans hq,sm _ _ hqp,rs.same sm⟩
      | dct ks=>
        obtain ⟨a,e,q,h⟩:=q
        obtain ⟨_,hw⟩:=h.ow
        exact ⟨a,e,(hO a (bb hw)).trans q,h.same sm⟩
      | ex c=>obtain ⟨a,e,x⟩:=q;exact ⟨a,e,x.same sm⟩
theorem Kk(i:Nat){x:Str}{pos' dpos:Pos}(hN:X.N.Nodup)(hi:X.N[i]? =some x:=by rfl)(hx:Loc X.env.scope x:=by first | exact Or.inl rfl | exact Or.inr rfl)
    (hs:swapsWith (.Dict [] [] dpos) (some (.Name x pos')) pos.line X.env=pure false:=by rfl) (hf:X.fn x=true∨X.env.scope.names.lookup x=some .local:=by first | exact .inl rfl | exact .inr rfl | assumption)
    (hin:Nat.blt i cv.n=true:=by rfl):PS X (.Assign [.Name x pos'] (.Dict [] [] dpos) pos) (tS cv XO (Aa i)):=by
  intro pins s σ H D I ⟨H₀,F,ρ,r,g,e',k⟩
  refine ol hN hi hx J0 hs hf pins s σ H D I ?_
  cases e'
  exact fun p hp=>k _ _ (g.newOwn (o1:=.t [] 0) hin hp fun O hO=>⟨p,rfl,hO,0,z9⟩)
theorem N5{X:Cx}{pins:List (Addr×Obj)}{σ:L2.St}{H:Hp}{a b:Addr}{ts:List Ent}{ep:Nat}{k:List Int}(e:H a=some (.dT (ts.map dEnt) ep))(eb:Rd H b (.tup ((k.map Sum.inl:List Key).map kV))):ML H a (.ref b) ((kj ts k).map V.int):=
  .inr ⟨_,ep,k.map Sum.inl,b,.inl e,rfl,eb,(Kv ts k).symm⟩
theorem Fs(neg:Bool)(i j:Nat){op:Operator}{x y:Str}{xp xp2 yp yp2 pos' gp cp bp zp:Pos}{z:Nat}{e:Expr}(C:BC X)(hop:op=if neg then .Sub else .Add)(h:PE X e (tF ⟨cv.cv,XO⟩ f))(hN:X.N[i]? =some x:=by rfl)(hv:Vis X.env.scope x:=by first | exact Or.inl rfl | exact Or.inr (Or.inl rfl) | exact Or.inr (Or.inr rfl))
    (hd:(x == ("__debug__":Str))=false:=by decide) (hcd:(x == ("__classdict__":Str))=false:=by decide)
    (hN2:X.N[j]? =some y:=by rfl) (hv2:Vis X.env.scope y:=by first | exact Or.inl rfl | exact Or.inr (Or.inl rfl) | exact Or.inr (Or.inr rfl)) (hd2:(y == ("__debug__":Str))=false:=by decide) (hcd2:(y == ("__classdict__":Str))=false:=by decide)
    (m:M2 X (.Name x xp) "get" gp (.Name y yp) (.Constant (.int 0) z zp) cp:=by exact ⟨rfl,rfl,rfl,rfl⟩)
    (hs:swapsWith (.BinOp (.Call (.Attribute (.Name x xp) "get" gp) [.Name y yp,.Constant (.int 0) z zp] [] cp) op e bp) (some (.Subscript (.Name x xp2) (.Name y yp2) pos')) pos.line X.env=pure false:=by rfl):
    PS X (.Assign [.Subscript (.Name x xp2) (.Name y yp2) pos'] (.BinOp (.Call (.Attribute (.Name x xp) "get" gp) [.Name y yp,.Constant (.int 0) z zp] [] cp) op e bp) pos) (tS cv XO (fm neg i j f)):=by
  have hu:X.A.units+1 < cLine:=by have:=C.hu;omega
  have hget:=JT hu (w5 (i:=i) hN hv hd hcd) (w5 (i:=j) hN2 hv2 hd2 hcd2) (CF (X:=X) (i:=0) (j:=z) (pos:=zp)) m
  intro pins s σ H D I ⟨H₀,F,ρ,r,g,e',k⟩
  unfold fm at e'
  split at e'
  case h_2=>cases e'
  rename_i ts hρ
  split at e'
  case h_2=>cases e'
  rename_i l xs hj
  split at e'
  case h_2=>cases e'
  rename_i kk hk
  have:=u5 hk
  subst this
  obtain ⟨O,o⟩:=g.ex
  obtain ⟨p,hσ,hO,ep,hD⟩:=o.sl i _ hρ
  obtain ⟨b,hσj,hb⟩:∃ b,σ[j]? =some (some (.ref b))∧Rd H b (.tup ((kk.map Sum.inl:List Key).map kV)):=by
    have gg:=g.g
    unfold za at hj
    have key:∀ {P:PP} {v:V},Rep P H (.tuple (kk.map .int)) v→∃ b,v= .ref b∧Rd H b (.tup ((kk.map Sum.inl:List Key).map kV)):=fun {P v} r=>by
      obtain ⟨b,vs,rfl,hb,rs⟩:=r
      rw [ng rs] at hb
      exact ⟨b,rfl,hb⟩
    split at hj
    · rename_i d hρj
      cases hj
      obtain ⟨v,h1,h2⟩:=gg.vr j _ hρj
      obtain ⟨b,rfl,hb⟩:=key h2
      exact ⟨b,h1,hb⟩
    · rename_i d hρj
      cases hj
      obtain ⟨v,h1,h2⟩:=gg.vr j _ hρj
      obtain ⟨b,rfl,hb⟩:=key h2
      exact ⟨b,h1,hb⟩
    · cases hj
    · cases hj
    · cases hj
    · cases hj
    · cases hj
  have q:=xh (Q:=fun v H1=>∃ n:Int,v= .int n∧Same H H1∧some r=some (RS.next (ρ.set i (some (.dct (f7 ts kk ((kj ts kk).getD 0+(if neg then -n else n)))))))∧ts.length < big) g e' k fun l d v H1 s1 r1 e1=>by
    split at e1
    · rename_i n
      split at e1
      · rename_i hb
        exact ⟨n,r1,s1,e1.symm,hb⟩
      · cases e1
    · cases e1
  have hgt:CV (By i) (By j) (fun σ H Q=>Q (.int 0) H) σ H (fun v H1=>v= .int ((kj ts kk).getD 0)∧H1=H):=by
    refine ⟨.ref p,hσ,p,rfl,.inr ⟨_,ep,.inl hD⟩,.ref b,hσj,_,N5 (X:=X) (pins:=pins) (σ:=σ) hD hb,?_,rfl⟩
    cases kj ts kk<;>rfl
  refine wpAny_Assign_Subscript ?_ hs
  have hval:wpAny (model X.prog X.w) X.A (eval (.BinOp (.Call (.Attribute (.Name x xp) "get" gp) [.Name y yp,.Constant (.int 0) z zp] [] cp) op e bp) X.env)
      (EP X pins σ fun v H1=>∃ n:Int,v= .int ((kj ts kk).getD 0+(if neg then -n else n))∧Same H H1∧some r=some (RS.next (ρ.set i (some (.dct (f7 ts kk ((kj ts kk).getD 0+(if neg then -n else n)))))))∧ts.length < big) X.xe s:=by
    cases neg with
    | false=>
      subst hop
      refine IA op_add hget h pins s σ H _ I ?_
      refine As hgt fun v H1 ⟨ev,eH⟩=>?_
      subst ev eH
      refine Ja q fun v H1 ⟨n,ev,s1,e1,hb⟩=>?_
      subst ev
      exact ⟨_,_,rfl,rfl,n,rfl,s1,e1,hb⟩
    | true=>
      subst hop
      refine IA Nf hget h pins s σ H _ I ?_
      refine As hgt fun v H1 ⟨ev,eH⟩=>?_
      subst ev eH
      refine Ja q fun v H1 ⟨n,ev,s1,e1,hb⟩=>?_
      subst ev
      refine ⟨_,_,rfl,rfl,n,?_,s1,e1,hb⟩
      show V.int _=V.int _
      congr 1
  refine thn hval fun rv s1 ⟨v,H1,I1,rrv,n,ev,sm,er,hbig⟩=>?_
  subst ev
  cases er
  refine thn (w5 (i:=i) hN hv hd hcd pins s1 σ H1 (fun v H2=>v= .ref p∧H2=H1) I1 ⟨_,hσ,rfl,rfl⟩) fun u s2 ⟨x,H2,I2,rx,ex,eH⟩=>?_
  subst ex eH
  obtain rfl:u=Value.ref p:=rx
  refine thn (w5 (i:=j) hN2 hv2 hd2 hcd2 pins s2 σ H2 (fun v H3=>v= .ref b∧H3=H2) I2 ⟨_,hσj,rfl,rfl⟩) fun u2 s3 ⟨x2,H3,I3,rx2,ex2,eH2⟩=>?_
  subst ex2 eH2
  obtain rfl:u2=Value.ref b:=rx2
  have o1:SO cv H₀ F ρ σ H3 O:=⟨o.fr,fun a i e=>let ⟨vs,q⟩:=o.ls a i e;⟨vs,sm _ _ q⟩,fun i t e=>(o.sl i t e).same sm⟩
  refine MZ (k:=kk) hu I3 (sm _ _ hD) (Rd.same sm hb) rrv (by
    have:big < sizeLine:=by decide
    omega) fun ep' s4 I4=>?_
  exact ⟨σ,_,I4,k _ _ ((g.same sm).changeG (o0:=.t _ ep) (o1:=.t _ ep') o1 (List.getElem?_eq_some_iff.mp hρ).1 hO (sm _ _ hD) ⟨p,hσ,hO,ep',z9⟩)⟩
end
end KT
namespace KT
open PySem
def u3:FS:=(zu (GG (ge (i5 (za 0)) [] tc2 (eNe (za 1) (eC (.int 0))) (zm [(za 0),(za 1)]))))
def rj(g_without_noughts:FC):FS:=(ze (Aa 3) (ze (Dy 0 (xw 4 5) (ze (zn 6 (xc (ge (uk (za 4)) [1] tc1 (eNe (za 0) (za 1)) (za 0)))) (ze (zn 7 (za 5)) (ze (kz (iR1 (lu (za 4) (za 1))) (zw 8) (zn 7 (vc (za 7) (za 2)))) (fm false 3 6 (za 7)))))) (zu (zd g_without_noughts [(za 3)]))))
def mn(g_without_noughts:FC):FS:=(ze (Aa 2) (ze (yw 0 (zw 3) (fm false 2 3 (eC (.int 1)))) (ze (yw 1 (zw 3) (fm true 2 3 (eC (.int 1)))) (zu (zd g_without_noughts [(za 2)])))))
def ax(g_with_size:FC)(g_difference:FC):FS:=(ze (zn 2 (zd g_difference [(za 0),(za 1)])) (ze (zn 3 (qp [])) (ze (kz (iC [.int 0,.int 1,.int 2,.int 3]) (zw 4) (ze (zn 5 (eC (.int 0))) (ze (zn 6 (zd g_with_size [(za 2),(za 4),(za 5)])) (ze (bi (eEq (G8 (za 6)) (eC (.int 0))) (ze (zn 5 (qc (za 5) (eC (.int 1)))) (zn 6 (zd g_with_size [(za 2),(za 4),(za 5)])))) (ze (EX 2 6) (vk 3 (za 5))))))) (zu (xc (za 3))))))
def bq:FS:=(ze (sIf (eEq (wm (za 0)) (eC (.int 0))) (ze (qx 3 (zm [(eC (.str "drop")),(za 2)])) (vp 3 (ro (za 1)))) zj) (ze (sIf (eEq (wm (za 1)) (eC (.int 0))) (ze (qx 3 (zm [(eC (.str "swap")),(za 2)])) (ze (qx 3 (zm [(eC (.str "drop")),(za 2)])) (vp 3 (ro (za 0))))) zj) (ze (zn 4 (qp [])) (ze (zn 5 (ro (za 0))) (ze (zn 6 (ro (za 1))) (ze (zn 7 (za 2)) (ze (bi (eOr (eGt (wm (za 5)) (eC (.int 1))) (Ks (eIx (za 6) (eC (.int 0))) (eIx (za 5) (eC (.int 0))))) (sIf (Ks (eIx (za 6) (eC (.int 0))) (eIx (za 5) (eC (.int 0)))) (ze (qx 3 (zm [(eC (.str "swap")),(za 7)])) (ze (nk 8 5) (ze (nk 5 6) (nk 6 8)))) (ze (qx 3 (zm [(eC (.str "group")),(za 7)])) (ze (lw 4 5) (zn 7 (qc (za 7) (zm [(eC (.int 1))]))))))) (vp 3 (qc (qc (za 4) (za 5)) (za 6))))))))))
def bt(g_merged:FR)(g_in_line:FR):FS:=(ze (sIf (eIs .tuple (za 0)) (vp 2 (qp [(za 0)])) zj) (ze (sIf (eEq (za 0) (qp [])) (vp 2 (qp [])) zj) (ze (wq 3 g_in_line [.x 0 0,.f (qc (za 1) (zm [(eC (.int 0))]))] 2) (ze (wq 4 g_in_line [.x 0 1,.f (qc (za 1) (zm [(eC (.int 1))]))] 2) (fq g_merged [.n 3,.n 4,.n 1] 2)))))
def kw(g_is_barren:FC):FS:=(ze (zn 1 (eIx (za 0) (eC (.int 0)))) (ze (sIf (eEq (za 1) (eC (.str "either"))) (zu (kf (zd g_is_barren [(eIx (za 0) (eC (.int 1)))]) (zd g_is_barren [(eIx (za 0) (eC (.int 2)))]))) zj) (ze (sIf (eEq (za 1) (eC (.str "both"))) (zu (eOr (zd g_is_barren [(eIx (za 0) (eC (.int 1)))]) (zd g_is_barren [(eIx (za 0) (eC (.int 2)))]))) zj) (zu (eEq (za 1) (eC (.str "none")))))))
def vg(g_is_barren:FC)(g_tree_of:FR):FS:=(ze (sIf (zd g_is_barren [(eIx (za 0) (eC (.int 1)))]) (cw g_tree_of [.f (eIx (za 0) (eC (.int 1))),.f (qc (za 1) (zm [(eC (.int 0))]))] 2) (ze (cw g_tree_of [.f (eIx (za 0) (eC (.int 2))),.f (qc (za 1) (zm [(eC (.int 1))]))] 2) (qx 2 (zm [(eC (.str "swap")),(za 1)])))) (ze (qx 2 (zm [(eC (.str "drop")),(za 1)])) (vp 2 (qp []))))
def ye(g_both_of_trees:FR):FS:=(ze (sIf (eEq (za 0) (zm [])) (ze (qx 3 (zm [(eC (.str "drop")),(za 2)])) (ay 3 1)) zj) (ze (qx 3 (zm [(eC (.str "spread")),(za 2)])) (ze (wq 4 g_both_of_trees [.n 0,.x 1 0,.f (qc (za 2) (zm [(eC (.int 0))]))] 3) (ze (wq 5 g_both_of_trees [.n 0,.x 1 1,.f (qc (za 2) (zm [(eC (.int 1))]))] 3) (B3 3 4 5)))))
def jl(g_merged:FR)(g_spread_tree:FR):FS:=(ze (sIf (eIs .list (za 0)) (ze (qx 3 (zm [(eC (.str "swap")),(za 2)])) (fq g_spread_tree [.n 1,.n 0,.n 2] 3)) zj) (ze (sIf (eIs .list (za 1)) (fq g_spread_tree [.n 0,.n 1,.n 2] 3) zj) (Do g_merged [.n 0,.n 1,.n 2] 3)))
def jx(g_merged:FR)(g_factors_in_line:FR):FS:=(ze (sIf (eNe (eIx (za 0) (eC (.int 0))) (eC (.str "both"))) (vp 2 (qp [(za 0)])) zj) (ze (wq 3 g_factors_in_line [.f (eIx (za 0) (eC (.int 1))),.f (qc (za 1) (zm [(eC (.int 0))]))] 2) (ze (wq 4 g_factors_in_line [.f (eIx (za 0) (eC (.int 2))),.f (qc (za 1) (zm [(eC (.int 1))]))] 2) (fq g_merged [.n 3,.n 4,.n 1] 2))))
def vx(g_both_of_trees:FR)(g_tree_of:FR)(g_factors_in_line:FR):FS:=(ze (wq 3 g_factors_in_line [.n 0,.n 1] 2) (ze (zn 4 (mi (wm (za 3)) (eC (.int 1)))) (ze (wq 5 g_tree_of [.f (eIx (za 3) (za 4)),.f (qc (za 1) (nr (zm [(eC (.int 1))]) (za 4)))] 2) (ze (kz (Ay (mi (za 4) (eC (.int 1)))) (zw 6) (ze (zn 7 (qc (za 1) (nr (zm [(eC (.int 1))]) (za 6)))) (ze (wq 8 g_tree_of [.f (eIx (za 3) (za 6)),.f (qc (za 7) (zm [(eC (.int 0))]))] 2) (wq 5 g_both_of_trees [.n 8,.n 5,.n 7] 2)))) (ay 2 5)))))
def jq(g_tree_of:FR)(g_is_barren:FC)(g_barren_tree:FR)(g_product_tree:FR):FS:=(ze (zn 3 (eIx (za 0) (eC (.int 0)))) (ze (sIf (eEq (za 3) (eC (.str "none"))) (vp 2 (qp [])) zj) (ze (sIf (eEq (za 3) (eC (.str "one"))) (vp 2 (zm [])) zj) (ze (sIf (eEq (za 3) (eC (.str "name"))) (vp 2 (zm [(eIx (za 0) (eC (.int 1)))])) zj) (ze (sIf (eEq (za 3) (eC (.str "both"))) (sIf (zd g_is_barren [(za 0)]) (fq g_barren_tree [.n 0,.n 1] 2) (fq g_product_tree [.n 0,.n 1] 2)) zj) (ze (wq 4 g_tree_of [.f (eIx (za 0) (eC (.int 1))),.f (qc (za 1) (zm [(eC (.int 0))]))] 2) (ze (wq 5 g_tree_of [.f (eIx (za 0) (eC (.int 2))),.f (qc (za 1) (zm [(eC (.int 1))]))] 2) (ze (sIf (eEq (za 4) (qp [])) (ze (qx 2 (zm [(eC (.str "drop")),(za 1)])) (ay 2 5)) zj) (ze (sIf (eEq (za 5) (qp [])) (ze (qx 2 (zm [(eC (.str "swap")),(za 1)])) (ze (qx 2 (zm [(eC (.str "drop")),(za 1)])) (ay 2 4))) zj) (B3 2 4 5))))))))))
def xi(g_in_line:FR)(g_tree_of:FR):FS:=(ze (zn 1 (qp [])) (ze (wq 2 g_tree_of [.n 0,.f (zm [])] 1) (ze (cw g_in_line [.n 2,.f (zm [])] 1) (zu (za 1)))))
def v9(g_gathered:FC)(g_is_barren:FC):FS:=(ze (zn 1 (eIx (za 0) (eC (.int 0)))) (ze (sIf (eEq (za 1) (eC (.str "none"))) (zu (qp [])) zj) (ze (sIf (eEq (za 1) (eC (.str "one"))) (zu (qp [(zm [])])) zj) (ze (sIf (eEq (za 1) (eC (.str "name"))) (zu (qp [(zm [(eIx (za 0) (eC (.int 1)))])])) zj) (ze (sIf (eEq (za 1) (eC (.str "either"))) (zu (qc (zd g_gathered [(eIx (za 0) (eC (.int 1)))]) (zd g_gathered [(eIx (za 0) (eC (.int 2)))]))) zj) (ze (sIf (zd g_is_barren [(za 0)]) (zu (qp [])) zj) (ze (zn 2 (zd g_gathered [(eIx (za 0) (eC (.int 1)))])) (ze (zn 3 (zd g_gathered [(eIx (za 0) (eC (.int 2)))])) (ze (zn 4 (qp [])) (ze (yw 2 (zw 5) (u1 4 (BQ (uk (za 3)) [5] (xc (yz (qc (za 1) (za 0))))))) (zu (za 4))))))))))))
def o6(g_gathered:FC):FS:=(zu (yz (zd g_gathered [(za 0)])))
def E8(g_parting_sizes:FC)(g_row_to_plain:FC)(g_bundles:FC):FS:=(ze (zn 2 (zd g_bundles [(za 0)])) (ze (zn 3 (zd g_bundles [(za 1)])) (ze (sIf (eEq (za 2) (za 3)) (zu (zm [(eC (.str "same")),(zd g_row_to_plain [(za 0)]),(zd g_row_to_plain [(za 1)])])) zj) (zu (zm [(eC (.str "unlike")),(zd g_parting_sizes [(za 2),(za 3)])])))))
def yg(g_law_bundles:FC):FS:=(ze (sIf (eEq (wm (za 0)) (eC (.int 1))) (zu (vc (qp [(zm [])]) (Jo (eEq (eIx (za 0) (eC (.int 0))) (eC (.str "one")))))) zj) (ze (sIf (eEq (wm (za 0)) (eC (.int 2))) (zu (qp [(zm [(eIx (za 0) (eC (.int 1)))])])) zj) (ze (zn 1 (zd g_law_bundles [(eIx (za 0) (eC (.int 1)))])) (ze (zn 2 (zd g_law_bundles [(eIx (za 0) (eC (.int 2)))])) (ze (sIf (eEq (eIx (za 0) (eC (.int 0))) (eC (.str "either"))) (zu (yz (qc (za 1) (za 2)))) zj) (ze (zn 3 (qp [])) (ze (yw 1 (zw 4) (yw 2 (zw 5) (vk 3 (xc (yz (qc (za 4) (za 5))))))) (zu (yz (za 3))))))))))
def Bi:FS:=(ze (zn 3 (yv (qc (qc (yv (za 0) (eC (.int 2147483629))) (eC (.int 1))) (vc (za 1) (eC (.int 1000003)))) (eC (.int 2147483647)))) (ze (zn 3 (yv (vc (yv (vc (za 3) (za 3)) (eC (.int 2147483647))) (eC (.int 48271))) (eC (.int 2147483629)))) (ze (zn 3 (yv (vc (yv (vc (za 3) (za 3)) (eC (.int 2147483629))) (eC (.int 40692))) (eC (.int 2147483399)))) (zu (yv (A4 (za 3) (eC (.int 97))) (za 2))))))
def gn(g_law_kind:FC)(g_law_draw:FC):FS:=(ze (sIf (eLt (za 1) (eC (.int 2))) (ze (zn 3 (zd g_law_draw [(za 0),(vc (eC (.int 5)) (za 2)),(eC (.int 12))])) (ze (sIf (eEq (za 3) (eC (.int 0))) (zu (zm [(eC (.str "none"))])) zj) (ze (sIf (eLt (za 3) (eC (.int 3))) (zu (zm [(eC (.str "one"))])) zj) (zu (zm [(eC (.str "name")),(yv (za 3) (eC (.int 4)))]))))) zj) (ze (zn 4 (qc (eC (.int 1)) (zd g_law_draw [(za 0),(qc (vc (eC (.int 5)) (za 2)) (eC (.int 1))),(mi (za 1) (eC (.int 1)))]))) (ze (zn 5 (eIx (qp [(eC (.str "either")),(eC (.str "both"))]) (zd g_law_draw [(za 0),(qc (vc (eC (.int 5)) (za 2)) (eC (.int 2))),(eC (.int 2))]))) (zu (zm [(za 5),(zd g_law_kind [(za 0),(za 4),(vc (eC (.int 2)) (za 2))]),(zd g_law_kind [(za 0),(mi (za 1) (za 4)),(qc (vc (eC (.int 2)) (za 2)) (eC (.int 1)))])])))))
def At:FS:=(ze (zn 1 (eC (.int 0))) (ze (kz (uk (qp [(eC (.int 48271)),(eC (.int 69621)),(eC (.int 39373)),(eC (.int 44488))])) (zw 2) (ze (zn 3 (yv (qc (vc (za 0) (za 2)) (eC (.int 7919))) (eC (.int 2147483647)))) (ze (zn 3 (yv (vc (yv (vc (za 3) (za 3)) (eC (.int 2147483647))) (eC (.int 40692))) (eC (.int 2147483399)))) (zn 1 (qc (vc (za 1) (Mh (eC (.int 10)) (eC (.int 9)))) (A4 (za 3) (eC (.int 7)))))))) (zu (za 1))))
def lq(g_law_stir:FC):FS:=(ze (sIf (eLt (za 1) (wm (za 0))) (zu (zd g_law_stir [(eIx (za 0) (za 1))])) zj) (zu (zd g_law_stir [(eC (.int 0))])))
def yy(g_law_leafed:FC)(g_law_draw:FC):FS:=(ze (sIf (eLt (wm (za 0)) (eC (.int 3))) (ze (sIf (eEq (zd g_law_draw [(za 1),(za 2),(eC (.int 6))]) (eC (.int 0))) (zu (eIx (qp [(zm [(eC (.str "one"))]),(zm [(eC (.str "name")),(zd g_law_draw [(za 1),(qc (za 2) (eC (.int 1))),(eC (.int 4))])])]) (zd g_law_draw [(za 1),(qc (za 2) (eC (.int 2))),(eC (.int 2))]))) zj) (zu (za 0))) zj) (zu (zm [(eIx (za 0) (eC (.int 0))),(zd g_law_leafed [(eIx (za 0) (eC (.int 1))),(za 1),(vc (eC (.int 2)) (za 2))]),(zd g_law_leafed [(eIx (za 0) (eC (.int 2))),(za 1),(qc (vc (eC (.int 2)) (za 2)) (eC (.int 1)))])])))
def lg:FS:=(ze (yw 1 (zw 2) (zn 0 (eIx (za 0) (qc (eC (.int 1)) (za 2))))) (zu (za 0)))
def cr(g_law_part:FC):FS:=(ze (zn 1 (qp [])) (ze (zn 2 (qp [(zm [])])) (ze (bi (eNe (za 2) (qp [])) (ze (Hx 3 2) (ze (vk 1 (za 3)) (sIf (eEq (wm (zd g_law_part [(za 0),(za 3)])) (eC (.int 3))) (u1 2 (qp [(qc (za 3) (zm [(eC (.int 1))])),(qc (za 3) (zm [(eC (.int 0))]))])) zj)))) (zu (za 1)))))
def ud(g_law_put:FC):FS:=(ze (sIf (eEq (za 1) (zm [])) (zu (za 2)) zj) (ze (zn 3 (zd g_law_put [(eIx (za 0) (qc (eC (.int 1)) (eIx (za 1) (eC (.int 0))))),(eSl (za 1) (Eo (eC (.int 1))) GI),(za 2)])) (ze (sIf (eEq (eIx (za 1) (eC (.int 0))) (eC (.int 0))) (zu (zm [(eIx (za 0) (eC (.int 0))),(za 3),(eIx (za 0) (eC (.int 2)))])) zj) (zu (zm [(eIx (za 0) (eC (.int 0))),(eIx (za 0) (eC (.int 1))),(za 3)])))))
def ku:FS:=(ze (sIf (eLt (wm (za 0)) (eC (.int 3))) (zu (eC .none)) zj) (ze (zn 2 (eIx (za 0) (eC (.int 1)))) (ze (zn 3 (eIx (za 0) (eC (.int 2)))) (ze (sIf (eEq (za 1) (eC (.str "swap"))) (zu (zm [(eIx (za 0) (eC (.int 0))),(za 3),(za 2)])) zj) (ze (sIf (kf (eEq (za 1) (eC (.str "group"))) (eEq (eIx (za 2) (eC (.int 0))) (eIx (za 0) (eC (.int 0))))) (zu (zm [(eIx (za 0) (eC (.int 0))),(eIx (za 2) (eC (.int 1))),(zm [(eIx (za 0) (eC (.int 0))),(eIx (za 2) (eC (.int 2))),(za 3)])])) zj) (ze (sIf (kf (eEq (za 1) (eC (.str "spread"))) (kf (eEq (eIx (za 0) (eC (.int 0))) (eC (.str "both"))) (eEq (eIx (za 3) (eC (.int 0))) (eC (.str "either"))))) (zu (zm [(eC (.str "either")),(zm [(eC (.str "both")),(za 2),(eIx (za 3) (eC (.int 1)))]),(zm [(eC (.str "both")),(za 2),(eIx (za 3) (eC (.int 2)))])])) zj) (ze (sIf (kf (eEq (za 1) (eC (.str "drop"))) (kf (eEq (eIx (za 0) (eC (.int 0))) (eC (.str "both"))) (eEq (eIx (za 2) (eC (.int 0))) (eC (.str "none"))))) (zu (zm [(eC (.str "none"))])) zj) (ze (sIf (kf (eEq (za 1) (eC (.str "drop"))) (eIn (zm [(eIx (za 0) (eC (.int 0))),(eIx (za 2) (eC (.int 0)))]) (zm [(zm [(eC (.str "both")),(eC (.str "one"))]),(zm [(eC (.str "either")),(eC (.str "none"))])]))) (zu (za 3)) zj) (zu (eC .none))))))))))
def xf(g_law_put:FC)(g_law_here:FC)(g_law_part:FC)(g_law_paths:FC):FS:=(ze (sIf (A3 (za 2) (zd g_law_paths [(za 0)])) (zu (eC .none)) zj) (ze (zn 3 (zd g_law_here [(zd g_law_part [(za 0),(za 2)]),(za 1)])) (ze (sIf (LC (za 3) (eC .none)) (zu (eC .none)) zj) (zu (zd g_law_put [(za 0),(za 2),(za 3)])))))
def kt(g_law_here:FC)(g_law_part:FC)(g_law_paths:FC):FS:=(ze (zn 1 (qp [])) (ze (kz (uk (zd g_law_paths [(za 0)])) (zw 2) (kz (uk (qp [(eC (.str "swap")),(eC (.str "group")),(eC (.str "spread")),(eC (.str "drop"))])) (zw 3) (sIf (DO (zd g_law_here [(zd g_law_part [(za 0),(za 2)]),(za 3)]) (eC .none)) (vk 1 (zm [(za 3),(za 2)])) zj))) (zu (za 1))))
def de(g_law_paths:FC)(g_law_turned:FC)(g_law_cell:FC)(g_law_all_turnings:FC):FS:=(ze (kz (iR1 (yv (zd g_law_cell [(za 0),(za 1)]) (eC (.int 9)))) (zw 3) (ze (zn 4 (zd g_law_all_turnings [(za 2)])) (sIf (kf (eNe (za 4) (qp [])) (eLt (wm (zd g_law_paths [(za 2)])) (eC (.int 14)))) (ze (nh (xw 5 6) (eIx (za 4) (yv (zd g_law_cell [(za 0),(qc (qc (za 1) (eC (.int 1))) (za 3))]) (wm (za 4))))) (zn 2 (zd g_law_turned [(za 2),(za 5),(za 6)]))) zj))) (zu (za 2)))
def GB(g_judged:FC)(g_law_bundles:FC)(g_law_kind:FC)(g_law_cell:FC)(g_law_leafed:FC)(g_law_other:FC):FS:=(ze (zn 1 (zd g_law_kind [(zd g_law_cell [(za 0),(eC (.int 0))]),(qc (eC (.int 1)) (yv (zd g_law_cell [(za 0),(eC (.int 1))]) (eC (.int 4)))),(eC (.int 1))])) (ze (zn 2 (zd g_law_other [(za 0),(eC (.int 2)),(za 1)])) (ze (sIf (eGt (yv (A4 (zd g_law_cell [(za 0),(eC (.int 1))]) (eC (.int 4))) (eC (.int 3))) (eC (.int 0))) (zn 2 (zd g_law_leafed [(za 2),(zd g_law_cell [(za 0),(eC (.int 12))]),(eC (.int 1))])) zj) (ze (zn 3 (zd g_law_kind [(zd g_law_cell [(za 0),(eC (.int 13))]),(qc (eC (.int 1)) (yv (zd g_law_cell [(za 0),(eC (.int 14))]) (eC (.int 2)))),(eC (.int 1))])) (ze (zn 4 (eIx (zd g_judged [(za 1),(za 2)]) (eC (.int 0)))) (ze (sIf (eNe (eIx (zd g_judged [(zm [(eC (.str "either")),(za 1),(za 3)]),(zm [(eC (.str "either")),(za 3),(za 2)])]) (eC (.int 0))) (za 4)) (zu (eC (.bool false))) zj) (ze (sIf (kf (eNe (zd g_law_bundles [(za 3)]) (qp [])) (eNe (eIx (zd g_judged [(zm [(eC (.str "both")),(za 3),(za 1)]),(zm [(eC (.str "both")),(za 2),(za 3)])]) (eC (.int 0))) (za 4))) (zu (eC (.bool false))) zj) (ze (sIf (eNe (eIx (zd g_judged [(za 1),(za 1)]) (eC (.int 0))) (eC (.str "same"))) (zu (eC (.bool false))) zj) (zu (eEq (eIx (zd g_judged [(zm [(eC (.str "either")),(za 1),(za 2)]),(zm [(eC (.str "either")),(za 2),(za 1)])]) (eC (.int 0))) (eC (.str "same"))))))))))))
def qr:Nat→FC
  | 0=>fun _=>none
  | n+1=>qt 1 (u3)
def qy:Nat→FC
  | 0=>fun _=>none
  | n+1=>qt 9 (rj (qr n))
def yc:Nat→FC
  | 0=>fun _=>none
  | n+1=>qt 4 (mn (qr n))
def wj:Nat→FC
  | 0=>fun _=>none
  | n+1=>qt 7 (ax (qy n) (yc n))
def ju:Nat→FR
  | 0=>fun _ _=>none
  | n+1=>qj 9 (bq)
def yk:Nat→FR
  | 0=>fun _ _=>none
  | n+1=>qj 5 (bt (ju n) (yk n))
def qe:Nat→FC
  | 0=>fun _=>none
  | n+1=>qt 2 (kw (qe n))
mutual
def q9:Nat→FR
  | 0=>fun _ _=>none
  | n+1=>qj 6 (ye (z8 n))
def z8:Nat→FR
  | 0=>fun _ _=>none
  | n+1=>qj 4 (jl (ju n) (q9 n))
end
def qg:Nat→FR
  | 0=>fun _ _=>none
  | n+1=>qj 5 (jx (ju n) (qg n))
mutual
def vf:Nat→FR
  | 0=>fun _ _=>none
  | n+1=>qj 3 (vg (qe n) (jm n))
def yr:Nat→FR
  | 0=>fun _ _=>none
  | n+1=>qj 9 (vx (z8 n) (jm n) (qg n))
def jm:Nat→FR
  | 0=>fun _ _=>none
  | n+1=>qj 6 (jq (jm n) (qe n) (vf n) (yr n))
end
def qk:Nat→FC
  | 0=>fun _=>none
  | n+1=>qt 3 (xi (yk n) (jm n))
def jh:Nat→FC
  | 0=>fun _=>none
  | n+1=>qt 6 (v9 (jh n) (qe n))
def wg:Nat→FC
  | 0=>fun _=>none
  | n+1=>qt 1 (o6 (jh n))
def jy:Nat→FC
  | 0=>fun _=>none
  | n+1=>qt 4 (E8 (wj n) (qk n) (wg n))
def zx:Nat→FC
  | 0=>fun _=>none
  | n+1=>qt 6 (yg (zx n))
def vw:Nat→FC
  | 0=>fun _=>none
  | n+1=>qt 4 (Bi)
def q5:Nat→FC
  | 0=>fun _=>none
  | n+1=>qt 6 (gn (q5 n) (vw n))
def xz:Nat→FC
  | 0=>fun _=>none
  | n+1=>qt 4 (At)
def zy:Nat→FC
  | 0=>fun _=>none
  | n+1=>qt 2 (lq (xz n))
def jt:Nat→FC
  | 0=>fun _=>none
  | n+1=>qt 3 (yy (jt n) (vw n))
def jp:Nat→FC
  | 0=>fun _=>none
  | n+1=>qt 3 (lg)
def qm:Nat→FC
  | 0=>fun _=>none
  | n+1=>qt 4 (cr (jp n))
def vh:Nat→FC
  | 0=>fun _=>none
  | n+1=>qt 4 (ud (vh n))
def wo:Nat→FC
  | 0=>fun _=>none
  | n+1=>qt 4 (ku)
def jw:Nat→FC
  | 0=>fun _=>none
  | n+1=>qt 4 (xf (vh n) (wo n) (jp n) (qm n))
def qi:Nat→FC
  | 0=>fun _=>none
  | n+1=>qt 4 (kt (wo n) (jp n) (qm n))
def wf:Nat→FC
  | 0=>fun _=>none
  | n+1=>qt 7 (de (qm n) (jw n) (zy n) (qi n))
def BJ:Nat→FC
  | 0=>fun _=>none
  | n+1=>qt 5 (GB (jy n) (zx n) (q5 n) (zy n) (jt n) (wf n))
end KT
namespace KT
open PySem PySem.Spec PyProof.Rows L2
set_option maxHeartbeats 0
seal L2.PS L2.PSs L2.PE L2.PT L2.PW L2.PA L2.PI L2.PO
def top(i:Nat):Stmt:=PySem.Challenge.pw_kindturn_k14_whole_put_to_both.main.body.getD i (.Pass ⟨0,0,0,0⟩)
section
variable{P:Program}{w:World}{K:PySem.W.Frag}{mg:Str→Option Value}{base:Heap}{cv:Nat→Value}{n:Nat}{f:Addr}{fd:FuncData}
abbrev va:Stmt:=top 19
theorem i4:FnScope ["terms"] ["terms"] (zq va):=⟨rfl,rfl,rfl,by decide +kernel,rfl,by decide +kernel,by decide +kernel⟩
theorem iz(M:MF mg)(F:Fun K "without_noughts" "without_noughts" va f fd)(N_dict:mg "dict" =none):FnOk P w K mg base (CX1 P w) (n+1) f fd ["terms"] (spD cv 1 (qr (n+1))):=
  j7 M F i4 fun cdv A outer s H E B=>
    (zr (jd (Nn B.C B.hc N_dict (Dv (ys:=["bundle","times"]) (fr:=[]) (ids:=[]) B.C B.hr B.hc (Lc (zc 0)) (KL B.hc) (fun cl Ca s2 H2 fp B=>Gk (Cz B.C (zc 1) zg)) (fun cl Ca s2 H2 fp B=>(qa (zb (zc 0) (zb (zc 1) zh))))))))
abbrev uc:Stmt:=top 18
theorem C9:FnScope ["terms","name","size","made","bundle","times","rest","value","number"] ["terms","name","size"] (zq uc):=⟨rfl,rfl,rfl,by decide +kernel,rfl,by decide +kernel,by decide +kernel⟩
theorem Dm(M:MF mg)(F:Fun K "with_size" "with_size" uc f fd)(F_without_noughts:FnF (CX1 P w) P w K mg base cv n "without_noughts" 1 (qr n)):FnOk P w K mg base (CX1 P w) (n+1) f fd ["terms","name","size"] (spD cv 3 (qy (n+1))):=
  j7 M F C9 fun cdv A outer s H E B=>
    (by (refine zf (Kk 3 B.nd) ?_);(refine zf (MG 0 B.pw B.hc (Je 4 5 B.hc B.nd) (by (refine zf (je 6 B.nd (tm B.C (Dv (ys:=["other"]) (fr:=["name"]) (ids:=[1]) B.C B.hr B.hc (DB (zc 4)) G3 (fun cl Ca s2 H2 fp B=>Gk (Cz B.C (zc 0) (zc 1))) (fun cl Ca s2 H2 fp B=>(zc 0))))) ?_);(refine zf (je 7 B.nd (zc 5)) ?_);(refine zf (AI B.pw B.hc (OA B.C (Ls B.C (zc 4) (zc 1))) (gk 8 B.nd) (zr (je 7 B.nd (xr (zc 7) (zc 2))))) ?_);exact zr (Fs false 3 6 B.C rfl (zc 7)))) ?_);exact zr (jd (z0 F_without_noughts B.hr B.L (zb (zc 3) zh))))
abbrev fe:Stmt:=top 17
theorem Bj:FnScope ["ones","others","terms","bundle"] ["ones","others"] (zq fe):=⟨rfl,rfl,rfl,by decide +kernel,rfl,by decide +kernel,by decide +kernel⟩
theorem Bv(M:MF mg)(F:Fun K "difference" "difference" fe f fd)(F_without_noughts:FnF (CX1 P w) P w K mg base cv n "without_noughts" 1 (qr n)):FnOk P w K mg base (CX1 P w) (n+1) f fd ["ones","others"] (spD cv 2 (yc (n+1))):=
  j7 M F Bj fun cdv A outer s H E B=>
    (by (refine zf (Kk 2 B.nd) ?_);(refine zf (ox 0 B.pw B.hc (gk 3 B.nd) (zr (Fs false 2 3 B.C rfl zg))) ?_);(refine zf (ox 1 B.pw B.hc (gk 3 B.nd) (zr (Fs true 2 3 B.C rfl zg))) ?_);exact zr (jd (z0 F_without_noughts B.hr B.L (zb (zc 2) zh))))
abbrev ke:Stmt:=top 16
theorem n6:FnScope ["ones","others","terms","sizes","name","size","left"] ["ones","others"] (zq ke):=⟨rfl,rfl,rfl,by decide +kernel,rfl,by decide +kernel,by decide +kernel⟩
theorem ou(M:MF mg)(F:Fun K "parting_sizes" "parting_sizes" ke f fd)(F_with_size:FnF (CX1 P w) P w K mg base cv n "with_size" 3 (qy n))(F_difference:FnF (CX1 P w) P w K mg base cv n "difference" 2 (yc n))(KT_NAMES:KTup K mg "NAMES" (.tuple [.int 0,.int 1,.int 2,.int 3])):FnOk P w K mg base (CX1 P w) (n+1) f fd ["ones","others"] (spD cv 2 (wj (n+1))):=
  j7 M F n6 fun cdv A outer s H E B=>
    (by (refine zf (je 2 B.nd (z0 F_difference B.hr B.L (zb (zc 0) (zb (zc 1) zh)))) ?_);(refine zf (je 3 B.nd (wy zh)) ?_);(refine zf (AI B.pw B.hc (Oh KT_NAMES) (gk 4 B.nd) (by (refine zf (je 5 B.nd zg) ?_);(refine zf (je 6 B.nd (z0 F_with_size B.hr B.L (zb (zc 2) (zb (zc 4) (zb (zc 5) zh))))) ?_);(refine zf (CZ B.pw (vq B.C (N2 B.C (zc 6)) zg) (by (refine zf (je 5 B.nd (jv (zc 5) zg)) ?_);exact zr (je 6 B.nd (z0 F_with_size B.hr B.L (zb (zc 2) (zb (zc 4) (zb (zc 5) zh))))))) ?_);(refine zf (Na 2 6 B.nd) ?_);exact zr (m9 3 (zc 5)))) ?_);exact zr (jd (tm B.C (zc 3))))
abbrev eh:Stmt:=top 12
theorem Iq:FnScope ["first","second","path","row","done","lefts","rights","here","others"] ["first","second","path","row"] (zq eh):=⟨rfl,rfl,rfl,by decide +kernel,rfl,by decide +kernel,by decide +kernel⟩
theorem Hn(M:MF mg)(F:Fun K "merged" "merged" eh f fd):FnOk P w K mg base (CX1 P w) (n+1) f fd ["first","second","path","row"] (spR cv 4 (ju (n+1))):=
  u8 M F Iq fun lend cdv A outer s H E B=>
    (by (refine zf (wk (vq B.C (av B.C (zc 0)) zg) (by (refine zf (wn 3 (qa (zb qd (zb (zc 2) zh)))) ?_);exact zr (bd 3 (CO B.C (zc 1)))) jj) ?_);(refine zf (wk (vq B.C (av B.C (zc 1)) zg) (by (refine zf (wn 3 (qa (zb qd (zb (zc 2) zh)))) ?_);(refine zf (wn 3 (qa (zb qd (zb (zc 2) zh)))) ?_);exact zr (bd 3 (CO B.C (zc 0)))) jj) ?_);(refine zf (je 4 B.nd (wy zh)) ?_);(refine zf (je 5 B.nd (CO B.C (zc 0))) ?_);(refine zf (je 6 B.nd (CO B.C (zc 1))) ?_);(refine zf (je 7 B.nd (zc 2)) ?_);(refine zf (CZ B.pw (L2.PW.pt (P0 (OM B.C (av B.C (zc 5)) zg) (Ml (Mt B.C (jo (zc 6) zg) (jo (zc 5) zg))))) (zr (wk (Mt B.C (jo (zc 6) zg) (jo (zc 5) zg)) (by (refine zf (wn 3 (qa (zb qd (zb (zc 7) zh)))) ?_);(refine zf (FW 8 5 B.nd) ?_);(refine zf (FW 5 6 B.nd) ?_);exact zr (FW 6 8 B.nd)) (by (refine zf (wn 3 (qa (zb qd (zb (zc 7) zh)))) ?_);(refine zf (JQ 4 5) ?_);exact zr (je 7 B.nd (jv (zc 7) (qa (zb zg zh)))))))) ?_);exact zr (bd 3 (jv (jv (zc 4) (zc 5)) (zc 6))))
abbrev af:Stmt:=top 11
theorem FQ:FnScope ["tree","path","row","lefts","rights"] ["tree","path","row"] (zq af):=⟨rfl,rfl,rfl,by decide +kernel,rfl,by decide +kernel,by decide +kernel⟩
theorem FY(M:MF mg)(F:Fun K "in_line" "in_line" af f fd)(F_merged:FnR (CX1 P w) P w K mg base cv n "merged" 4 (ju n))(F_in_line:FnR (CX1 P w) P w K mg base cv n "in_line" 3 (yk n)):FnOk P w K mg base (CX1 P w) (n+1) f fd ["tree","path","row"] (spR cv 3 (yk (n+1))):=
  u8 M F FQ fun lend cdv A outer s H E B=>
    (by (refine zf (wk (BZ (HM B.C (zc 0))) (zr (bd 2 (wy (zb (zc 0) zh)))) jj) ?_);(refine zf (wk (vq B.C (zc 0) (wy zh)) (zr (bd 2 (wy zh))) jj) ?_);(refine zf (gh 3 B.nd (qh F_in_line B.hr B.L (KU 0 0 (uv (jv (zc 1) (qa (zb zg zh))) (wu 2))))) ?_);(refine zf (gh 4 B.nd (qh F_in_line B.hr B.L (KU 0 1 (uv (jv (zc 1) (qa (zb zg zh))) (wu 2))))) ?_);exact zr (CJ (qh F_merged B.hr B.L (xo 3 (xo 4 (xo 1 (wu 2)))))))
abbrev f9:Stmt:=top 3
theorem Dc:FnScope ["kind","word"] ["kind"] (zq f9):=⟨rfl,rfl,rfl,by decide +kernel,rfl,by decide +kernel,by decide +kernel⟩
theorem Cq(M:MF mg)(F:Fun K "is_barren" "is_barren" f9 f fd)(F_is_barren:FnF (CX1 P w) P w K mg base cv n "is_barren" 1 (qe n)):FnOk P w K mg base (CX1 P w) (n+1) f fd ["kind"] (spD cv 1 (qe (n+1))):=
  j7 M F Dc fun cdv A outer s H E B=>
    (by (refine zf (je 1 B.nd (jo (zc 0) zg)) ?_);(refine zf (wk (vq B.C (zc 1) qd) (zr (jd (OO (z0 F_is_barren B.hr B.L (zb (jo (zc 0) zg) zh)) (Mx (z0 F_is_barren B.hr B.L (zb (jo (zc 0) zg) zh)))))) jj) ?_);(refine zf (wk (vq B.C (zc 1) qd) (zr (jd (P8 (z0 F_is_barren B.hr B.L (zb (jo (zc 0) zg) zh)) (Mx (z0 F_is_barren B.hr B.L (zb (jo (zc 0) zg) zh)))))) jj) ?_);exact zr (jd (NW B.C (zc 1) qd)))
abbrev xm:Stmt:=top 6
theorem t9:FnScope ["kind","path","row"] ["kind","path","row"] (zq xm):=⟨rfl,rfl,rfl,by decide +kernel,rfl,by decide +kernel,by decide +kernel⟩
theorem Bh(M:MF mg)(F:Fun K "barren_tree" "barren_tree" xm f fd)(F_is_barren:FnF (CX1 P w) P w K mg base cv n "is_barren" 1 (qe n))(F_tree_of:FnR (CX1 P w) P w K mg base cv n "tree_of" 3 (jm n)):FnOk P w K mg base (CX1 P w) (n+1) f fd ["kind","path","row"] (spR cv 3 (vf (n+1))):=
  u8 M F t9 fun lend cdv A outer s H E B=>
    (by (refine zf (wk (BZ (z0 F_is_barren B.hr B.L (zb (jo (zc 0) zg) zh))) (zr (C2 (qh F_tree_of B.hr B.L (uv (jo (zc 0) zg) (uv (jv (zc 1) (qa (zb zg zh))) (wu 2)))))) (by (refine zf (C2 (qh F_tree_of B.hr B.L (uv (jo (zc 0) zg) (uv (jv (zc 1) (qa (zb zg zh))) (wu 2))))) ?_);exact zr (wn 2 (qa (zb qd (zb (zc 1) zh)))))) ?_);(refine zf (wn 2 (qa (zb qd (zb (zc 1) zh)))) ?_);exact zr (bd 2 (wy zh)))
abbrev xg:Stmt:=top 10
theorem AQ:FnScope ["first","second","path","row","left","right"] ["first","second","path","row"] (zq xg):=⟨rfl,rfl,rfl,by decide +kernel,rfl,by decide +kernel,by decide +kernel⟩
theorem A0(M:MF mg)(F:Fun K "spread_tree" "spread_tree" xg f fd)(F_both_of_trees:FnR (CX1 P w) P w K mg base cv n "both_of_trees" 4 (z8 n)):FnOk P w K mg base (CX1 P w) (n+1) f fd ["first","second","path","row"] (spR cv 4 (q9 (n+1))):=
  u8 M F AQ fun lend cdv A outer s H E B=>
    (by (refine zf (wk (vq B.C (zc 0) (qa zh)) (by (refine zf (wn 3 (qa (zb qd (zb (zc 2) zh)))) ?_);exact zr (Dh 3 1)) jj) ?_);(refine zf (wn 3 (qa (zb qd (zb (zc 2) zh)))) ?_);(refine zf (gh 4 B.nd (qh F_both_of_trees B.hr B.L (xo 0 (KU 1 0 (uv (jv (zc 2) (qa (zb zg zh))) (wu 3)))))) ?_);(refine zf (gh 5 B.nd (qh F_both_of_trees B.hr B.L (xo 0 (KU 1 1 (uv (jv (zc 2) (qa (zb zg zh))) (wu 3)))))) ?_);exact zr (JK 3 4 5))
abbrev ki:Stmt:=top 9
theorem pi:FnScope ["first","second","path","row"] ["first","second","path","row"] (zq ki):=⟨rfl,rfl,rfl,by decide +kernel,rfl,by decide +kernel,by decide +kernel⟩
theorem pe(M:MF mg)(F:Fun K "both_of_trees" "both_of_trees" ki f fd)(F_merged:FnR (CX1 P w) P w K mg base cv n "merged" 4 (ju n))(F_spread_tree:FnR (CX1 P w) P w K mg base cv n "spread_tree" 4 (q9 n)):FnOk P w K mg base (CX1 P w) (n+1) f fd ["first","second","path","row"] (spR cv 4 (z8 (n+1))):=
  u8 M F pi fun lend cdv A outer s H E B=>
    (by (refine zf (wk (BZ (EM B.C (zc 0))) (by (refine zf (wn 3 (qa (zb qd (zb (zc 2) zh)))) ?_);exact zr (CJ (qh F_spread_tree B.hr B.L (xo 1 (xo 0 (xo 2 (wu 3))))))) jj) ?_);(refine zf (wk (BZ (EM B.C (zc 1))) (zr (CJ (qh F_spread_tree B.hr B.L (xo 0 (xo 1 (xo 2 (wu 3))))))) jj) ?_);exact zr (LJ B.C (qh F_merged B.hr B.L (xo 0 (xo 1 (xo 2 (wu 3)))))))
abbrev yx:Stmt:=top 8
theorem ir:FnScope ["kind","path","row","firsts","seconds"] ["kind","path","row"] (zq yx):=⟨rfl,rfl,rfl,by decide +kernel,rfl,by decide +kernel,by decide +kernel⟩
theorem lh(M:MF mg)(F:Fun K "factors_in_line" "factors_in_line" yx f fd)(F_merged:FnR (CX1 P w) P w K mg base cv n "merged" 4 (ju n))(F_factors_in_line:FnR (CX1 P w) P w K mg base cv n "factors_in_line" 3 (qg n)):FnOk P w K mg base (CX1 P w) (n+1) f fd ["kind","path","row"] (spR cv 3 (qg (n+1))):=
  u8 M F ir fun lend cdv A outer s H E B=>
    (by (refine zf (wk (Cz B.C (jo (zc 0) zg) qd) (zr (bd 2 (wy (zb (zc 0) zh)))) jj) ?_);(refine zf (gh 3 B.nd (qh F_factors_in_line B.hr B.L (uv (jo (zc 0) zg) (uv (jv (zc 1) (qa (zb zg zh))) (wu 2))))) ?_);(refine zf (gh 4 B.nd (qh F_factors_in_line B.hr B.L (uv (jo (zc 0) zg) (uv (jv (zc 1) (qa (zb zg zh))) (wu 2))))) ?_);exact zr (CJ (qh F_merged B.hr B.L (xo 3 (xo 4 (xo 1 (wu 2)))))))
abbrev kq:Stmt:=top 7
theorem sw:FnScope ["kind","path","row","factors","last","tree","place","here","first"] ["kind","path","row"] (zq kq):=⟨rfl,rfl,rfl,by decide +kernel,rfl,by decide +kernel,by decide +kernel⟩
theorem sk(M:MF mg)(F:Fun K "product_tree" "product_tree" kq f fd)(F_both_of_trees:FnR (CX1 P w) P w K mg base cv n "both_of_trees" 4 (z8 n))(F_tree_of:FnR (CX1 P w) P w K mg base cv n "tree_of" 3 (jm n))(F_factors_in_line:FnR (CX1 P w) P w K mg base cv n "factors_in_line" 3 (qg n)):FnOk P w K mg base (CX1 P w) (n+1) f fd ["kind","path","row"] (spR cv 3 (yr (n+1))):=
  u8 M F sw fun lend cdv A outer s H E B=>
    (by (refine zf (gh 3 B.nd (qh F_factors_in_line B.hr B.L (xo 0 (xo 1 (wu 2))))) ?_);(refine zf (je 4 B.nd (Gw (av B.C (zc 3)) zg)) ?_);(refine zf (gh 5 B.nd (qh F_tree_of B.hr B.L (uv (jo (zc 3) (zc 4)) (uv (jv (zc 1) (I9 (qa (zb zg zh)) (zc 4))) (wu 2))))) ?_);(refine zf (AI B.pw B.hc (Nx B.C (Gw (zc 4) zg)) (gk 6 B.nd) (by (refine zf (je 7 B.nd (jv (zc 1) (I9 (qa (zb zg zh)) (zc 6)))) ?_);(refine zf (gh 8 B.nd (qh F_tree_of B.hr B.L (uv (jo (zc 3) (zc 6)) (uv (jv (zc 7) (qa (zb zg zh))) (wu 2))))) ?_);exact zr (gh 5 B.nd (qh F_both_of_trees B.hr B.L (xo 8 (xo 5 (xo 7 (wu 2)))))))) ?_);exact zr (Dh 2 5))
abbrev aa:Stmt:=top 5
theorem FB:FnScope ["kind","path","row","word","first","second"] ["kind","path","row"] (zq aa):=⟨rfl,rfl,rfl,by decide +kernel,rfl,by decide +kernel,by decide +kernel⟩
theorem F0(M:MF mg)(F:Fun K "tree_of" "tree_of" aa f fd)(F_tree_of:FnR (CX1 P w) P w K mg base cv n "tree_of" 3 (jm n))(F_is_barren:FnF (CX1 P w) P w K mg base cv n "is_barren" 1 (qe n))(F_barren_tree:FnR (CX1 P w) P w K mg base cv n "barren_tree" 3 (vf n))(F_product_tree:FnR (CX1 P w) P w K mg base cv n "product_tree" 3 (yr n)):FnOk P w K mg base (CX1 P w) (n+1) f fd ["kind","path","row"] (spR cv 3 (jm (n+1))):=
  u8 M F FB fun lend cdv A outer s H E B=>
    (by (refine zf (je 3 B.nd (jo (zc 0) zg)) ?_);(refine zf (wk (vq B.C (zc 3) qd) (zr (bd 2 (wy zh))) jj) ?_);(refine zf (wk (vq B.C (zc 3) qd) (zr (bd 2 (qa zh))) jj) ?_);(refine zf (wk (vq B.C (zc 3) qd) (zr (bd 2 (qa (zb (jo (zc 0) zg) zh)))) jj) ?_);(refine zf (wk (vq B.C (zc 3) qd) (zr (IY (BZ (z0 F_is_barren B.hr B.L (zb (zc 0) zh))) (qh F_barren_tree B.hr B.L (xo 0 (xo 1 (wu 2)))) (qh F_product_tree B.hr B.L (xo 0 (xo 1 (wu 2)))))) jj) ?_);(refine zf (gh 4 B.nd (qh F_tree_of B.hr B.L (uv (jo (zc 0) zg) (uv (jv (zc 1) (qa (zb zg zh))) (wu 2))))) ?_);(refine zf (gh 5 B.nd (qh F_tree_of B.hr B.L (uv (jo (zc 0) zg) (uv (jv (zc 1) (qa (zb zg zh))) (wu 2))))) ?_);(refine zf (wk (vq B.C (zc 4) (wy zh)) (by (refine zf (wn 2 (qa (zb qd (zb (zc 1) zh)))) ?_);exact zr (Dh 2 5)) jj) ?_);(refine zf (wk (vq B.C (zc 5) (wy zh)) (by (refine zf (wn 2 (qa (zb qd (zb (zc 1) zh)))) ?_);(refine zf (wn 2 (qa (zb qd (zb (zc 1) zh)))) ?_);exact zr (Dh 2 4)) jj) ?_);exact zr (JK 2 4 5))
abbrev ko:Stmt:=top 4
theorem su:FnScope ["kind","row","tree"] ["kind"] (zq ko):=⟨rfl,rfl,rfl,by decide +kernel,rfl,by decide +kernel,by decide +kernel⟩
theorem sq(M:MF mg)(F:Fun K "row_to_plain" "row_to_plain" ko f fd)(F_in_line:FnR (CX1 P w) P w K mg base cv n "in_line" 3 (yk n))(F_tree_of:FnR (CX1 P w) P w K mg base cv n "tree_of" 3 (jm n)):FnOk P w K mg base (CX1 P w) (n+1) f fd ["kind"] (spD cv 1 (qk (n+1))):=
  j7 M F su fun cdv A outer s H E B=>
    (by (refine zf (je 1 B.nd (wy zh)) ?_);(refine zf (gh 2 B.nd (qh F_tree_of B.hr B.L (xo 0 (uv (qa zh) (wu 1))))) ?_);(refine zf (C2 (qh F_in_line B.hr B.L (xo 2 (uv (qa zh) (wu 1))))) ?_);exact zr (jd (zc 1)))
abbrev u7:Stmt:=top 2
theorem EW:FnScope ["kind","word","firsts","seconds","found","first"] ["kind"] (zq u7):=⟨rfl,rfl,rfl,by decide +kernel,rfl,by decide +kernel,by decide +kernel⟩
theorem Ei(M:MF mg)(F:Fun K "gathered" "gathered" u7 f fd)(F_gathered:FnF (CX1 P w) P w K mg base cv n "gathered" 1 (jh n))(F_is_barren:FnF (CX1 P w) P w K mg base cv n "is_barren" 1 (qe n))(N_sorted:mg "sorted" =none):FnOk P w K mg base (CX1 P w) (n+1) f fd ["kind"] (spD cv 1 (jh (n+1))):=
  j7 M F EW fun cdv A outer s H E B=>
    (by (refine zf (je 1 B.nd (jo (zc 0) zg)) ?_);(refine zf (wk (vq B.C (zc 1) qd) (zr (jd (wy zh))) jj) ?_);(refine zf (wk (vq B.C (zc 1) qd) (zr (jd (wy (zb (qa zh) zh)))) jj) ?_);(refine zf (wk (vq B.C (zc 1) qd) (zr (jd (wy (zb (qa (zb (jo (zc 0) zg) zh)) zh)))) jj) ?_);(refine zf (wk (vq B.C (zc 1) qd) (zr (jd (jv (z0 F_gathered B.hr B.L (zb (jo (zc 0) zg) zh)) (z0 F_gathered B.hr B.L (zb (jo (zc 0) zg) zh))))) jj) ?_);(refine zf (wk (BZ (z0 F_is_barren B.hr B.L (zb (zc 0) zh))) (zr (jd (wy zh))) jj) ?_);(refine zf (je 2 B.nd (z0 F_gathered B.hr B.L (zb (jo (zc 0) zg) zh))) ?_);(refine zf (je 3 B.nd (z0 F_gathered B.hr B.L (zb (jo (zc 0) zg) zh))) ?_);(refine zf (je 4 B.nd (wy zh)) ?_);(refine zf (ox 2 B.pw B.hc (gk 5 B.nd) (zr (EV 4 (NY (fr:=["first"]) B.C B.hr B.hc (DB (zc 3)) (fun cl Ca s2 H2 fp B=>(tm B.C (cy B.C N_sorted (jv (zc 1) (zc 0))))))))) ?_);exact zr (jd (zc 4)))
abbrev aq:Stmt:=top 1
theorem FG:FnScope ["kind"] ["kind"] (zq aq):=⟨rfl,rfl,rfl,by decide +kernel,rfl,by decide +kernel,by decide +kernel⟩
theorem Ft(M:MF mg)(F:Fun K "bundles" "bundles" aq f fd)(F_gathered:FnF (CX1 P w) P w K mg base cv n "gathered" 1 (jh n))(N_sorted:mg "sorted" =none):FnOk P w K mg base (CX1 P w) (n+1) f fd ["kind"] (spD cv 1 (wg (n+1))):=
  j7 M F FG fun cdv A outer s H E B=>
    (zr (jd (cy B.C N_sorted (z0 F_gathered B.hr B.L (zb (zc 0) zh)))))
abbrev e8:Stmt:=top 15
theorem Ie:FnScope ["one","other","ones","others"] ["one","other"] (zq e8):=⟨rfl,rfl,rfl,by decide +kernel,rfl,by decide +kernel,by decide +kernel⟩
theorem HQ(M:MF mg)(F:Fun K "judged" "judged" e8 f fd)(F_parting_sizes:FnF (CX1 P w) P w K mg base cv n "parting_sizes" 2 (wj n))(F_row_to_plain:FnF (CX1 P w) P w K mg base cv n "row_to_plain" 1 (qk n))(F_bundles:FnF (CX1 P w) P w K mg base cv n "bundles" 1 (wg n)):FnOk P w K mg base (CX1 P w) (n+1) f fd ["one","other"] (spD cv 2 (jy (n+1))):=
  j7 M F Ie fun cdv A outer s H E B=>
    (by (refine zf (je 2 B.nd (z0 F_bundles B.hr B.L (zb (zc 0) zh))) ?_);(refine zf (je 3 B.nd (z0 F_bundles B.hr B.L (zb (zc 1) zh))) ?_);(refine zf (wk (vq B.C (zc 2) (zc 3)) (zr (jd (qa (zb qd (zb (z0 F_row_to_plain B.hr B.L (zb (zc 0) zh)) (zb (z0 F_row_to_plain B.hr B.L (zb (zc 1) zh)) zh)))))) jj) ?_);exact zr (jd (qa (zb qd (zb (z0 F_parting_sizes B.hr B.L (zb (zc 2) (zb (zc 3) zh))) zh)))))
abbrev xn:Stmt:=top 31
theorem Ak:FnScope ["kind","left","right","found","one","other"] ["kind"] (zq xn):=⟨rfl,rfl,rfl,by decide +kernel,rfl,by decide +kernel,by decide +kernel⟩
theorem Al(M:MF mg)(F:Fun K "_law_bundles" "_law_bundles" xn f fd)(F_law_bundles:FnF (CX1 P w) P w K mg base cv n "_law_bundles" 1 (zx n))(N_sorted:mg "sorted" =none):FnOk P w K mg base (CX1 P w) (n+1) f fd ["kind"] (spD cv 1 (zx (n+1))):=
  j7 M F Ak fun cdv A outer s H E B=>
    (by (refine zf (wk (vq B.C (av B.C (zc 0)) zg) (zr (jd (xr (wy (zb (qa zh) zh)) (NF B.C (NW B.C (jo (zc 0) zg) qd))))) jj) ?_);(refine zf (wk (vq B.C (av B.C (zc 0)) zg) (zr (jd (wy (zb (qa (zb (jo (zc 0) zg) zh)) zh)))) jj) ?_);(refine zf (je 1 B.nd (z0 F_law_bundles B.hr B.L (zb (jo (zc 0) zg) zh))) ?_);(refine zf (je 2 B.nd (z0 F_law_bundles B.hr B.L (zb (jo (zc 0) zg) zh))) ?_);(refine zf (wk (vq B.C (jo (zc 0) zg) qd) (zr (jd (cy B.C N_sorted (jv (zc 1) (zc 2))))) jj) ?_);(refine zf (je 3 B.nd (wy zh)) ?_);(refine zf (ox 1 B.pw B.hc (gk 4 B.nd) (zr (ox 2 B.pw B.hc (gk 5 B.nd) (zr (m9 3 (tm B.C (cy B.C N_sorted (jv (zc 4) (zc 5))))))))) ?_);exact zr (jd (cy B.C N_sorted (zc 3))))
abbrev ux:Stmt:=top 23
theorem EZ:FnScope ["cell","k","bound","stir"] ["cell","k","bound"] (zq ux):=⟨rfl,rfl,rfl,by decide +kernel,rfl,by decide +kernel,by decide +kernel⟩
theorem D4(M:MF mg)(F:Fun K "_law_draw" "_law_draw" ux f fd):FnOk P w K mg base (CX1 P w) (n+1) f fd ["cell","k","bound"] (spD cv 3 (vw (n+1))):=
  j7 M F EZ fun cdv A outer s H E B=>
    (by (refine zf (je 3 B.nd (fx (jv (jv (fx (zc 0) zg) zg) (xr (zc 1) zg)) zg)) ?_);(refine zf (je 3 B.nd (fx (xr (fx (xr (zc 3) (zc 3)) zg) zg) zg)) ?_);(refine zf (je 3 B.nd (fx (xr (fx (xr (zc 3) (zc 3)) zg) zg) zg)) ?_);exact zr (jd (fx (JJ (zc 3) zg) (zc 2))))
abbrev uy:Stmt:=top 24
theorem EF:FnScope ["cell","leaves","k","which","left","word"] ["cell","leaves","k"] (zq uy):=⟨rfl,rfl,rfl,by decide +kernel,rfl,by decide +kernel,by decide +kernel⟩
theorem EN(M:MF mg)(F:Fun K "_law_kind" "_law_kind" uy f fd)(F_law_kind:FnF (CX1 P w) P w K mg base cv n "_law_kind" 3 (q5 n))(F_law_draw:FnF (CX1 P w) P w K mg base cv n "_law_draw" 3 (vw n)):FnOk P w K mg base (CX1 P w) (n+1) f fd ["cell","leaves","k"] (spD cv 3 (q5 (n+1))):=
  j7 M F EF fun cdv A outer s H E B=>
    (by (refine zf (wk (HP B.C (zc 1) zg) (by (refine zf (je 3 B.nd (z0 F_law_draw B.hr B.L (zb (zc 0) (zb (xr zg (zc 2)) (zb zg zh))))) ?_);(refine zf (wk (vq B.C (zc 3) zg) (zr (jd (qa (zb qd zh)))) jj) ?_);(refine zf (wk (HP B.C (zc 3) zg) (zr (jd (qa (zb qd zh)))) jj) ?_);exact zr (jd (qa (zb qd (zb (fx (zc 3) zg) zh))))) jj) ?_);(refine zf (je 4 B.nd (jv zg (z0 F_law_draw B.hr B.L (zb (zc 0) (zb (jv (xr zg (zc 2)) zg) (zb (Gw (zc 1) zg) zh)))))) ?_);(refine zf (je 5 B.nd (jo (wy (zb qd (zb qd zh))) (z0 F_law_draw B.hr B.L (zb (zc 0) (zb (jv (xr zg (zc 2)) zg) (zb zg zh)))))) ?_);exact zr (jd (qa (zb (zc 5) (zb (z0 F_law_kind B.hr B.L (zb (zc 0) (zb (zc 4) (zb (xr zg (zc 2)) zh)))) (zb (z0 F_law_kind B.hr B.L (zb (zc 0) (zb (Gw (zc 1) (zc 4)) (zb (jv (xr zg (zc 2)) zg) zh)))) zh))))))
abbrev u6:Stmt:=top 21
theorem D9:FnScope ["cell","found","factor","mixed"] ["cell"] (zq u6):=⟨rfl,rfl,rfl,by decide +kernel,rfl,by decide +kernel,by decide +kernel⟩
theorem Eu(M:MF mg)(F:Fun K "_law_stir" "_law_stir" u6 f fd):FnOk P w K mg base (CX1 P w) (n+1) f fd ["cell"] (spD cv 1 (xz (n+1))):=
  j7 M F D9 fun cdv A outer s H E B=>
    (by (refine zf (je 1 B.nd zg) ?_);(refine zf (AI B.pw B.hc (DB (wy (zb zg (zb zg (zb zg (zb zg zh)))))) (gk 2 B.nd) (by (refine zf (je 3 B.nd (fx (jv (xr (zc 0) (zc 2)) zg) zg)) ?_);(refine zf (je 3 B.nd (fx (xr (fx (xr (zc 3) (zc 3)) zg) zg) zg)) ?_);exact zr (je 1 B.nd (jv (xr (zc 1) (O3 zg zg)) (JJ (zc 3) zg))))) ?_);exact zr (jd (zc 1)))
abbrev u0:Stmt:=top 22
theorem EQ:FnScope ["script","k"] ["script","k"] (zq u0):=⟨rfl,rfl,rfl,by decide +kernel,rfl,by decide +kernel,by decide +kernel⟩
theorem DD(M:MF mg)(F:Fun K "_law_cell" "_law_cell" u0 f fd)(F_law_stir:FnF (CX1 P w) P w K mg base cv n "_law_stir" 1 (xz n)):FnOk P w K mg base (CX1 P w) (n+1) f fd ["script","k"] (spD cv 2 (zy (n+1))):=
  j7 M F EQ fun cdv A outer s H E B=>
    (by (refine zf (wk (HP B.C (zc 1) (av B.C (zc 0))) (zr (jd (z0 F_law_stir B.hr B.L (zb (jo (zc 0) (zc 1)) zh)))) jj) ?_);exact zr (jd (z0 F_law_stir B.hr B.L (zb zg zh))))
abbrev g8:Stmt:=top 33
theorem Bo:FnScope ["kind","cell","k"] ["kind","cell","k"] (zq g8):=⟨rfl,rfl,rfl,by decide +kernel,rfl,by decide +kernel,by decide +kernel⟩
theorem Bl(M:MF mg)(F:Fun K "_law_leafed" "_law_leafed" g8 f fd)(F_law_leafed:FnF (CX1 P w) P w K mg base cv n "_law_leafed" 3 (jt n))(F_law_draw:FnF (CX1 P w) P w K mg base cv n "_law_draw" 3 (vw n)):FnOk P w K mg base (CX1 P w) (n+1) f fd ["kind","cell","k"] (spD cv 3 (jt (n+1))):=
  j7 M F Bo fun cdv A outer s H E B=>
    (by (refine zf (wk (HP B.C (av B.C (zc 0)) zg) (by (refine zf (wk (vq B.C (z0 F_law_draw B.hr B.L (zb (zc 1) (zb (zc 2) (zb zg zh)))) zg) (zr (jd (jo (wy (zb (qa (zb qd zh)) (zb (qa (zb qd (zb (z0 F_law_draw B.hr B.L (zb (zc 1) (zb (jv (zc 2) zg) (zb zg zh)))) zh))) zh))) (z0 F_law_draw B.hr B.L (zb (zc 1) (zb (jv (zc 2) zg) (zb zg zh))))))) jj) ?_);exact zr (jd (zc 0))) jj) ?_);exact zr (jd (qa (zb (jo (zc 0) zg) (zb (z0 F_law_leafed B.hr B.L (zb (jo (zc 0) zg) (zb (zc 1) (zb (xr zg (zc 2)) zh)))) (zb (z0 F_law_leafed B.hr B.L (zb (jo (zc 0) zg) (zb (zc 1) (zb (jv (xr zg (zc 2)) zg) zh)))) zh))))))
abbrev u4:Stmt:=top 26
theorem DL:FnScope ["kind","path","side"] ["kind","path"] (zq u4):=⟨rfl,rfl,rfl,by decide +kernel,rfl,by decide +kernel,by decide +kernel⟩
theorem Eg(M:MF mg)(F:Fun K "_law_part" "_law_part" u4 f fd):FnOk P w K mg base (CX1 P w) (n+1) f fd ["kind","path"] (spD cv 2 (jp (n+1))):=
  j7 M F DL fun cdv A outer s H E B=>
    (by (refine zf (ox 1 B.pw B.hc (gk 2 B.nd) (zr (je 0 B.nd (jo (zc 0) (jv zg (zc 2)))))) ?_);exact zr (jd (zc 0)))
abbrev ua:Stmt:=top 25
theorem C5:FnScope ["kind","found","waiting","path"] ["kind"] (zq ua):=⟨rfl,rfl,rfl,by decide +kernel,rfl,by decide +kernel,by decide +kernel⟩
theorem Dk(M:MF mg)(F:Fun K "_law_paths" "_law_paths" ua f fd)(F_law_part:FnF (CX1 P w) P w K mg base cv n "_law_part" 2 (jp n)):FnOk P w K mg base (CX1 P w) (n+1) f fd ["kind"] (spD cv 1 (qm (n+1))):=
  j7 M F C5 fun cdv A outer s H E B=>
    (by (refine zf (je 1 B.nd (wy zh)) ?_);(refine zf (je 2 B.nd (wy (zb (qa zh) zh))) ?_);(refine zf (CZ B.pw (Cz B.C (zc 2) (wy zh)) (by (refine zf (O1 3 2 B.nd) ?_);(refine zf (m9 1 (zc 3)) ?_);exact zr (wk (vq B.C (av B.C (z0 F_law_part B.hr B.L (zb (zc 0) (zb (zc 3) zh)))) zg) (zr (EV 2 (wy (zb (jv (zc 3) (qa (zb zg zh))) (zb (jv (zc 3) (qa (zb zg zh))) zh))))) jj))) ?_);exact zr (jd (zc 1)))
abbrev ah:Stmt:=top 28
theorem F4:FnScope ["kind","path","piece","inner"] ["kind","path","piece"] (zq ah):=⟨rfl,rfl,rfl,by decide +kernel,rfl,by decide +kernel,by decide +kernel⟩
theorem Fv(M:MF mg)(F:Fun K "_law_put" "_law_put" ah f fd)(F_law_put:FnF (CX1 P w) P w K mg base cv n "_law_put" 3 (vh n)):FnOk P w K mg base (CX1 P w) (n+1) f fd ["kind","path","piece"] (spD cv 3 (vh (n+1))):=
  j7 M F F4 fun cdv A outer s H E B=>
    (by (refine zf (wk (vq B.C (zc 1) (qa zh)) (zr (jd (zc 2))) jj) ?_);(refine zf (je 3 B.nd (z0 F_law_put B.hr B.L (zb (jo (zc 0) (jv zg (jo (zc 1) zg))) (zb (PF (zc 1) (NI zg) NK) (zb (zc 2) zh))))) ?_);(refine zf (wk (vq B.C (jo (zc 1) zg) zg) (zr (jd (qa (zb (jo (zc 0) zg) (zb (zc 3) (zb (jo (zc 0) zg) zh)))))) jj) ?_);exact zr (jd (qa (zb (jo (zc 0) zg) (zb (jo (zc 0) zg) (zb (zc 3) zh))))))
abbrev uz:Stmt:=top 27
theorem Ej:FnScope ["kind","word","k","m"] ["kind","word"] (zq uz):=⟨rfl,rfl,rfl,by decide +kernel,rfl,by decide +kernel,by decide +kernel⟩
theorem D8(M:MF mg)(F:Fun K "_law_here" "_law_here" uz f fd):FnOk P w K mg base (CX1 P w) (n+1) f fd ["kind","word"] (spD cv 2 (wo (n+1))):=
  j7 M F Ej fun cdv A outer s H E B=>
    (by (refine zf (wk (HP B.C (av B.C (zc 0)) zg) (zr (jd BD)) jj) ?_);(refine zf (je 2 B.nd (jo (zc 0) zg)) ?_);(refine zf (je 3 B.nd (jo (zc 0) zg)) ?_);(refine zf (wk (vq B.C (zc 1) qd) (zr (jd (qa (zb (jo (zc 0) zg) (zb (zc 3) (zb (zc 2) zh)))))) jj) ?_);(refine zf (wk (L2.PW.pt (sd (vq B.C (zc 1) qd) (bx (vq B.C (jo (zc 2) zg) (jo (zc 0) zg))))) (zr (jd (qa (zb (jo (zc 0) zg) (zb (jo (zc 2) zg) (zb (qa (zb (jo (zc 0) zg) (zb (jo (zc 2) zg) (zb (zc 3) zh)))) zh)))))) jj) ?_);(refine zf (wk (L2.PW.pt (sd (vq B.C (zc 1) qd) (sd (vq B.C (jo (zc 0) zg) qd) (bx (vq B.C (jo (zc 3) zg) qd))))) (zr (jd (qa (zb qd (zb (qa (zb qd (zb (zc 2) (zb (jo (zc 3) zg) zh)))) (zb (qa (zb qd (zb (zc 2) (zb (jo (zc 3) zg) zh)))) zh)))))) jj) ?_);(refine zf (wk (L2.PW.pt (sd (vq B.C (zc 1) qd) (sd (vq B.C (jo (zc 0) zg) qd) (bx (vq B.C (jo (zc 2) zg) qd))))) (zr (jd (qa (zb qd zh)))) jj) ?_);(refine zf (wk (L2.PW.pt (sd (vq B.C (zc 1) qd) (bx (Ps B.C (qa (zb (jo (zc 0) zg) (zb (jo (zc 2) zg) zh))) (qa (zb (qa (zb qd (zb qd zh))) (zb (qa (zb qd (zb qd zh))) zh))))))) (zr (jd (zc 3))) jj) ?_);exact zr (jd BD))
abbrev fg:Stmt:=top 29
theorem Bk:FnScope ["kind","word","path","piece"] ["kind","word","path"] (zq fg):=⟨rfl,rfl,rfl,by decide +kernel,rfl,by decide +kernel,by decide +kernel⟩
theorem Bt(M:MF mg)(F:Fun K "_law_turned" "_law_turned" fg f fd)(F_law_put:FnF (CX1 P w) P w K mg base cv n "_law_put" 3 (vh n))(F_law_here:FnF (CX1 P w) P w K mg base cv n "_law_here" 2 (wo n))(F_law_part:FnF (CX1 P w) P w K mg base cv n "_law_part" 2 (jp n))(F_law_paths:FnF (CX1 P w) P w K mg base cv n "_law_paths" 1 (qm n)):FnOk P w K mg base (CX1 P w) (n+1) f fd ["kind","word","path"] (spD cv 3 (jw (n+1))):=
  j7 M F Bk fun cdv A outer s H E B=>
    (by (refine zf (wk (LS B.C (zc 2) (z0 F_law_paths B.hr B.L (zb (zc 0) zh))) (zr (jd BD)) jj) ?_);(refine zf (je 3 B.nd (z0 F_law_here B.hr B.L (zb (z0 F_law_part B.hr B.L (zb (zc 0) (zb (zc 2) zh))) (zb (zc 1) zh)))) ?_);(refine zf (wk (OS B.C (zc 3) BD) (zr (jd BD)) jj) ?_);exact zr (jd (z0 F_law_put B.hr B.L (zb (zc 0) (zb (zc 2) (zb (zc 3) zh))))))
abbrev yj:Stmt:=top 30
theorem im:FnScope ["kind","found","path","word"] ["kind"] (zq yj):=⟨rfl,rfl,rfl,by decide +kernel,rfl,by decide +kernel,by decide +kernel⟩
theorem ik(M:MF mg)(F:Fun K "_law_all_turnings" "_law_all_turnings" yj f fd)(F_law_here:FnF (CX1 P w) P w K mg base cv n "_law_here" 2 (wo n))(F_law_part:FnF (CX1 P w) P w K mg base cv n "_law_part" 2 (jp n))(F_law_paths:FnF (CX1 P w) P w K mg base cv n "_law_paths" 1 (qm n)):FnOk P w K mg base (CX1 P w) (n+1) f fd ["kind"] (spD cv 1 (qi (n+1))):=
  j7 M F im fun cdv A outer s H E B=>
    (by (refine zf (je 1 B.nd (wy zh)) ?_);(refine zf (AI B.pw B.hc (DB (z0 F_law_paths B.hr B.L (zb (zc 0) zh))) (gk 2 B.nd) (zr (AI B.pw B.hc (DB (wy (zb qd (zb qd (zb qd (zb qd zh)))))) (gk 3 B.nd) (zr (wk (Oe B.C (z0 F_law_here B.hr B.L (zb (z0 F_law_part B.hr B.L (zb (zc 0) (zb (zc 2) zh))) (zb (zc 3) zh))) BD) (zr (m9 1 (qa (zb (zc 3) (zb (zc 2) zh))))) jj))))) ?_);exact zr (jd (zc 1)))
abbrev f6:Stmt:=top 32
theorem Dp:FnScope ["script","first","kind","k","some","word","path"] ["script","first","kind"] (zq f6):=⟨rfl,rfl,rfl,by decide +kernel,rfl,by decide +kernel,by decide +kernel⟩
theorem De(M:MF mg)(F:Fun K "_law_other" "_law_other" f6 f fd)(F_law_paths:FnF (CX1 P w) P w K mg base cv n "_law_paths" 1 (qm n))(F_law_turned:FnF (CX1 P w) P w K mg base cv n "_law_turned" 3 (jw n))(F_law_cell:FnF (CX1 P w) P w K mg base cv n "_law_cell" 2 (zy n))(F_law_all_turnings:FnF (CX1 P w) P w K mg base cv n "_law_all_turnings" 1 (qi n)):FnOk P w K mg base (CX1 P w) (n+1) f fd ["script","first","kind"] (spD cv 3 (wf (n+1))):=
  j7 M F Dp fun cdv A outer s H E B=>
    (by (refine zf (AI B.pw B.hc (OA B.C (fx (z0 F_law_cell B.hr B.L (zb (zc 0) (zb (zc 1) zh))) zg)) (gk 3 B.nd) (by (refine zf (je 4 B.nd (z0 F_law_all_turnings B.hr B.L (zb (zc 2) zh))) ?_);exact zr (wk (L2.PW.pt (sd (Cz B.C (zc 4) (wy zh)) (bx (HP B.C (av B.C (z0 F_law_paths B.hr B.L (zb (zc 2) zh))) zg)))) (by (refine zf (Js (Je 5 6 B.hc B.nd) (jo (zc 4) (fx (z0 F_law_cell B.hr B.L (zb (zc 0) (zb (jv (jv (zc 1) zg) (zc 3)) zh))) (av B.C (zc 4))))) ?_);exact zr (je 2 B.nd (z0 F_law_turned B.hr B.L (zb (zc 2) (zb (zc 5) (zb (zc 6) zh)))))) jj))) ?_);exact zr (jd (zc 2)))
abbrev dk:Stmt:=top 34
theorem NM:FnScope ["script","one","other","third","word"] ["script"] (zq dk):=⟨rfl,rfl,rfl,by decide +kernel,rfl,by decide +kernel,by decide +kernel⟩
theorem IO(M:MF mg)(F:Fun K "law" "law" dk f fd)(F_judged:FnF (CX1 P w) P w K mg base cv n "judged" 2 (jy n))(F_law_bundles:FnF (CX1 P w) P w K mg base cv n "_law_bundles" 1 (zx n))(F_law_kind:FnF (CX1 P w) P w K mg base cv n "_law_kind" 3 (q5 n))(F_law_cell:FnF (CX1 P w) P w K mg base cv n "_law_cell" 2 (zy n))(F_law_leafed:FnF (CX1 P w) P w K mg base cv n "_law_leafed" 3 (jt n))(F_law_other:FnF (CX1 P w) P w K mg base cv n "_law_other" 3 (wf n)):FnOk P w K mg base (CX1 P w) (n+1) f fd ["script"] (spD cv 1 (BJ (n+1))):=
  j7 M F NM fun cdv A outer s H E B=>
    (by (refine zf (je 1 B.nd (z0 F_law_kind B.hr B.L (zb (z0 F_law_cell B.hr B.L (zb (zc 0) (zb zg zh))) (zb (jv zg (fx (z0 F_law_cell B.hr B.L (zb (zc 0) (zb zg zh))) zg)) (zb zg zh))))) ?_);(refine zf (je 2 B.nd (z0 F_law_other B.hr B.L (zb (zc 0) (zb zg (zb (zc 1) zh))))) ?_);(refine zf (wk (OM B.C (fx (JJ (z0 F_law_cell B.hr B.L (zb (zc 0) (zb zg zh))) zg) zg) zg) (zr (je 2 B.nd (z0 F_law_leafed B.hr B.L (zb (zc 2) (zb (z0 F_law_cell B.hr B.L (zb (zc 0) (zb zg zh))) (zb zg zh)))))) jj) ?_);(refine zf (je 3 B.nd (z0 F_law_kind B.hr B.L (zb (z0 F_law_cell B.hr B.L (zb (zc 0) (zb zg zh))) (zb (jv zg (fx (z0 F_law_cell B.hr B.L (zb (zc 0) (zb zg zh))) zg)) (zb zg zh))))) ?_);(refine zf (je 4 B.nd (jo (z0 F_judged B.hr B.L (zb (zc 1) (zb (zc 2) zh))) zg)) ?_);(refine zf (wk (Cz B.C (jo (z0 F_judged B.hr B.L (zb (qa (zb qd (zb (zc 1) (zb (zc 3) zh)))) (zb (qa (zb qd (zb (zc 3) (zb (zc 2) zh)))) zh))) zg) (zc 4)) (zr (jd Ol)) jj) ?_);(refine zf (wk (L2.PW.pt (sd (Cz B.C (z0 F_law_bundles B.hr B.L (zb (zc 3) zh)) (wy zh)) (bx (Cz B.C (jo (z0 F_judged B.hr B.L (zb (qa (zb qd (zb (zc 3) (zb (zc 1) zh)))) (zb (qa (zb qd (zb (zc 2) (zb (zc 3) zh)))) zh))) zg) (zc 4))))) (zr (jd Ol)) jj) ?_);(refine zf (wk (Cz B.C (jo (z0 F_judged B.hr B.L (zb (zc 1) (zb (zc 1) zh))) zg) qd) (zr (jd Ol)) jj) ?_);exact zr (jd (NW B.C (jo (z0 F_judged B.hr B.L (zb (qa (zb qd (zb (zc 1) (zb (zc 2) zh)))) (zb (qa (zb qd (zb (zc 2) (zb (zc 1) zh)))) zh))) zg) qd)))
end
end KT
namespace KT
open PySem
section
variable{ρ ρ':Rho}{l m:Nat}{d x y:PyData}{c:Nat}{f g:FE}{a b:FS}
theorem Kr{i j:Int}(h:CMulD i j):i0 (.int i) (.int j)=some (.int (i * j)):=if_pos h
theorem NC{i j:Int}(h:0 < j)(h2:j.natAbs < lim):Ig (.int i) (.int j)=some (.int (i / j)):=if_pos ⟨h,h2⟩
theorem Ad{i j:Int}(h:0 < j):A7 (.int i) (.int j)=some (.int (i % j)):=if_pos h
theorem Bx{i j:Int}(h:j.natAbs < 2 ^ 64):CMulD i j:=.inr (.inl h)
theorem L7{i j:Int}(h:i.natAbs < 2 ^ 64):CMulD i j:=.inl h
theorem G1(l:Nat)(i:Int):asg l (.int i)=some (.loc (.int i)):=rfl
theorem GN(l:Nat)(i:Str):asg l (.str i)=some (.loc (.str i)):=rfl
theorem o7{l:Nat}{d:PyData}(h:lf d=true):asg l d=some (.loc d):=if_pos h
theorem f8{ds:List PyData}(h:lfs ds=true):asg 2 (.list ds)=some (.own ds):=by simp [asg,lf,h]
end
theorem CM(i j:Int):dEq (.int i) (.int j)=some (.bool (i == j)):=rfl
theorem Bm(i j:Str):dEq (.str i) (.str j)=some (.bool (i == j)):=rfl
theorem MQ(i j:Str):dNe (.str i) (.str j)=some (.bool (!(i == j))):=rfl
theorem p8(i j:Int):uj (.int i) (.int j)=some (.int (i+j)):=rfl
theorem M6(i j:Int):Ix (.int i) (.int j)=some (.int (i - j)):=rfl
theorem z7{a b:FS}{ρ ρ':Rho}(h:a ρ=some (.next ρ')):ze a b ρ=b ρ':=by unfold ze;rw [h]
theorem KR{a b:FS}{ρ:Rho}{d:PyData}(h:a ρ=some (.ret d)):ze a b ρ=some (.ret d):=by unfold ze;rw [h]
theorem g9{n:Nat}{b:FS}{ds:List PyData}{d:PyData}(h:b (ds.map (fun d=>some (.par d))++List.replicate (n - ds.length) none)=some (.ret d)):qt n b ds=some (.ok d):=by unfold qt;rw [h]
def pev:List Int→Int→Int
  | [],_=>0
  | c::cs,x=>c+x * pev cs x
def pdv(r:Int):List Int→List Int
  | []=>[]
  | [_]=>[]
  | _::c::cs=>pev (c::cs) r::pdv r (c::cs)
theorem Gm(r:Int):∀ (c:Int) (cs:List Int),(pdv r (c::cs)).length=cs.length
  | _,[]=>rfl
  | _,c::cs=>by simp [pdv,Gm r c cs]
theorem Kf(r x:Int):∀ cs:List Int,pev cs x=pev cs r+(x - r) * pev (pdv r cs) x
  | []=>by simp [pev,pdv]
  | [c]=>by simp [pev,pdv]
  | c::d::cs=>by
    have ih:=Kf r x (d::cs)
    show c+x * pev (d::cs) x=c+r * pev (d::cs) r+(x - r) * (pev (d::cs) r+x * pev (pdv r (d::cs)) x)
    rw [ih]
    generalize pev (d::cs) r=u
    generalize pev (pdv r (d::cs)) x=v
    have e1:x * (u+(x - r) * v)=x * u+x * ((x - r) * v):=Int.mul_add _ _ _
    have e2:(x - r) * (u+x * v)=(x - r) * u+(x - r) * (x * v):=Int.mul_add _ _ _
    have e3:(x - r) * u=x * u - r * u:=Int.sub_mul _ _ _
    have e4:x * ((x - r) * v)=(x - r) * (x * v):=Int.mul_left_comm _ _ _
    rw [e1,e2,e3,e4]
    omega
theorem EO(r:Int):∀ cs:List Int,(∀ c∈pdv r cs,c=0)→pev cs r=0→∀ c∈cs,c=0
  | [],_,_=>fun c h=>by cases h
  | [c],_,h=>fun d hd=>by
    simp only [List.mem_singleton] at hd
    subst hd
    simpa [pev] using h
  | c::d::cs,hz,h=>by
    have h0:pev (d::cs) r=0:=hz _ (by simp [pdv])
    have ih:=EO r (d::cs) (fun e he=>hz e (by simp only [pdv,List.mem_cons];exact .inr he)) h0
    have h1:c+r * pev (d::cs) r=0:=h
    rw [h0,Int.mul_zero,Int.add_zero] at h1
    intro e he
    rcases List.mem_cons.mp he with rfl | he
    · exact h1
    · exact ih e he
theorem Mn:∀ (rs cs:List Int),rs.Nodup→cs.length≤rs.length→(∀ r∈rs,pev cs r=0)→∀ c∈cs,c=0
  | [],cs,_,hl,_=>by
    have:cs=[]:=List.length_eq_zero_iff.mp (Nat.le_zero.mp hl)
    subst this
    intro c h;cases h
  | r::rs,[],_,_,_=>fun c h=>by cases h
  | r::rs,c::cs,hn,hl,hr=>by
    have h0:=hr r (by simp)
    refine EO r (c::cs) (Mn rs (pdv r (c::cs)) (List.nodup_cons.mp hn).2 (by rw [Gm];simpa using hl) fun x hx=>?_) h0
    have e:=Kf r x (c::cs)
    rw [hr x (List.mem_cons_of_mem _ hx),h0,Int.zero_add] at e
    rcases Int.mul_eq_zero.mp e.symm with z | z
    · exact absurd (show r∈rs by rw [show r=x by omega];exact hx) (List.nodup_cons.mp hn).1
    · exact z
theorem Hc(g h:Nat→Int)(x:Int):∀ ls:List Nat,pev (ls.map fun d=>g d+h d) x=pev (ls.map g) x+pev (ls.map h) x
  | []=>rfl
  | l::ls=>by
    simp only [List.map_cons,pev,Hc g h x ls,Int.mul_add]
    omega
theorem m8(x:Int):∀ ls:List Nat,pev (ls.map fun _=>(0:Int)) x=0
  | []=>rfl
  | l::ls=>by simp only [List.map_cons,pev,m8 x ls,Int.mul_zero,Int.add_zero]
theorem Fc(t x:Int):∀ (n a k:Nat),k < n→pev ((List.range' a n).map fun d=>if d=a+k then t else 0) x=t * x ^ k
  | 0,_,_,h=>by omega
  | n+1,a,0,_=>by
    have z:(List.range' (a+1) n).map (fun d=>if d=a+0 then t else 0)=(List.range' (a+1) n).map fun _=>(0:Int):=by
      apply List.map_congr_left
      intro d hd
      have:=(List.mem_range'_1.mp hd).1
      rw [if_neg (by omega)]
    simp only [List.range'_succ,List.map_cons,pev,z,m8]
    simp
  | n+1,a,k+1,h=>by
    have z:(List.range' (a+1) n).map (fun d=>if d=a+(k+1) then t else 0)=(List.range' (a+1) n).map fun d=>if d=a+1+k then t else 0:=by
      apply List.map_congr_left
      intro d hd
      rw [show a+(k+1)=a+1+k by omega]
    have ih:=Fc t x n (a+1) k (by omega)
    simp only [List.range'_succ,List.map_cons,pev,z,ih]
    rw [if_neg (by omega),Int.zero_add,Int.pow_succ]
    rw [Int.mul_left_comm,Int.mul_comm x]
theorem AG(k:List Int):kj [] k=none:=rfl
theorem kg(x:Ent)(ts:List Ent)(k:List Int):kj (x::ts) k=if x.1=k then some x.2 else kj ts k:=by
  unfold kj
  rw [List.find?_cons]
  by_cases h:x.1=k
  · simp [h]
  · simp [h]
theorem JL(ts us:List Ent)(k:List Int):kj (ts++us) k=(kj ts k).or (kj us k):=by
  induction ts with
  | nil=>rfl
  | cons x ts ih=>
    rw [List.cons_append,kg,kg,ih]
    split<;>rfl
theorem HH{ts:List Ent}{k:List Int}(h:(ts.any fun x=>decide (x.1=k))=false):kj ts k=none:=by
  induction ts with
  | nil=>rfl
  | cons x ts ih=>
    simp only [List.any_cons,Bool.or_eq_false_iff,decide_eq_false_iff_not] at h
    rw [kg,if_neg h.1,ih h.2]
theorem DM(ts:List Ent)(k r:List Int)(n:Int):kj (f7 ts k n) r=if k=r then some n else kj ts r:=by
  unfold f7
  by_cases h:(ts.any fun x=>decide (x.1=k))=true
  · rw [if_pos h]
    induction ts with
    | nil=>cases h
    | cons x ts ih=>
      rw [List.map_cons,kg,kg]
      by_cases e:x.1=k
      · rw [if_pos e]
        dsimp only
        by_cases e2:k=r
        · rw [if_pos (e.trans e2),if_pos e2]
        · rw [if_neg (fun z=>e2 (e.symm.trans z)),if_neg e2,if_neg (fun z=>e2 (e.symm.trans z))]
          have:∀ ts:List Ent,kj (ts.map fun x=>if x.1=k then (x.1,n) else x) r=kj ts r:=by
            intro ts
            induction ts with
            | nil=>rfl
            | cons y ts ih=>
              rw [List.map_cons,kg,kg,ih]
              by_cases e:y.1=k
              · rw [if_pos e]
                dsimp only
                rw [if_neg (fun z=>e2 (e.symm.trans z)),if_neg (fun z=>e2 (e.symm.trans z))]
              · rw [if_neg e]
          exact this ts
      · rw [if_neg e]
        have h':(ts.any fun x=>decide (x.1=k))=true:=by simpa [e] using h
        rw [ih h']
        by_cases e2:x.1=r
        · rw [if_pos e2,if_pos e2,if_neg (fun z=>e (e2.trans z.symm))]
        · rw [if_neg e2,if_neg e2]
  · rw [if_neg h]
    have h:(ts.any fun x=>decide (x.1=k))=false:=Bool.eq_false_iff.mpr h
    rw [JL,kg,AG]
    by_cases e:k=r
    · subst e
      rw [HH h,if_pos rfl];rfl
    · rw [if_neg e,if_neg e];cases kj ts r<;>rfl
def yh(ts:List Ent):List (List Int):=ts.map (·.1)
theorem Bd(ts:List Ent)(k:List Int)(n:Int):yh (f7 ts k n)=if k∈yh ts then yh ts else yh ts++[k]:=by
  have hm:(ts.any fun x=>decide (x.1=k))=true↔k∈yh ts:=by
    simp only [yh,List.any_eq_true,List.mem_map,decide_eq_true_eq]
  unfold f7
  by_cases h:(ts.any fun x=>decide (x.1=k))=true
  · rw [if_pos h,if_pos (hm.mp h)]
    simp only [yh,List.map_map]
    apply List.map_congr_left
    intro x _
    show (if x.1=k then (x.1,n) else x).1=x.1
    split<;>rfl
  · rw [if_neg h,if_neg (fun z=>h (hm.mpr z))]
    simp [yh]
theorem BE{ts:List Ent}{k:List Int}{n:Int}(h:(yh ts).Nodup):(yh (f7 ts k n)).Nodup:=by
  rw [Bd]
  split
  · exact h
  · rename_i hk
    rw [List.nodup_append]
    exact ⟨h,by simp,fun a ha b hb z=>by
      have:b=k:=by simpa using hb
      subst this;subst z;exact hk ha⟩
theorem JM{ts:List Ent}{k:List Int}{n:Int}(h:kj ts k=some n):(k,n)∈ts:=by
  induction ts with
  | nil=>cases h
  | cons y ts ih=>
    rw [kg] at h
    split at h
    · rename_i e
      cases h
      subst e
      exact List.mem_cons_self
    · exact List.mem_cons_of_mem _ (ih h)
theorem GD:∀ (ts acc:List Ent),(yh (acc++ts)).Nodup→ts.foldl (fun acc x=>f7 acc x.1 x.2) acc=acc++ts
  | [],acc,_=>by simp
  | x::ts,acc,h=>by
    have hk:x.1∉yh acc:=by
      simp only [yh,List.map_append,List.map_cons,List.nodup_append] at h
      intro z
      exact h.2.2 x.1 z x.1 (by simp) rfl
    have hp:f7 acc x.1 x.2=acc++[x]:=by
      unfold f7
      rw [if_neg]
      intro z
      apply hk
      simpa [yh] using z
    rw [List.foldl_cons,hp,GD ts (acc++[x]) (by simpa using h)]
    simp
theorem HG{ts:List Ent}(h:(yh ts).Nodup):dictOf ts=ts:=by
  have:=GD ts [] (by simpa using h)
  simpa [dictOf] using this
def nz(ts:List Ent):List Ent:=ts.filter fun x=>!(x.2 == 0)
theorem Ar{ts:List Ent}(h:(yh ts).Nodup):(yh (nz ts)).Nodup:=List.Nodup.sublist (List.Sublist.map _ List.filter_sublist) h
theorem Mq{ts:List Ent}:∀ x∈nz ts,x.2≠0:=fun x hx=>by
  have:=(List.mem_filter.mp hx).2
  simpa using this
theorem K4{ts:List Ent}(h:nz ts=[])(k:List Int):(kj ts k).getD 0=0:=by
  cases e:kj ts k with
  | none=>rfl
  | some n=>
    have hm:=JM e
    show n=0
    by_cases hn:n=0
    · exact hn
    · have:(k,n)∈nz ts:=List.mem_filter.mpr ⟨hm,by simpa using hn⟩
      rw [h] at this
      cases this
def Rs(r:List Int):Prop:=r.Pairwise (· ≤·)
def ct(i:Int)(k:List Int):Nat:=k.countP fun n=>decide (n=i)
def rst(i:Int)(k:List Int):List Int:=k.filter fun n=>!(n == i)
theorem Ev(i:Int)(k:List Int):ct i k=k.count i:=by
  unfold ct List.count
  congr 1
theorem JY(i:Int)(k:List Int):ct i k≤k.length:=List.countP_le_length
theorem LE(i:Int)(k:List Int):(rst i k).length≤k.length:=List.length_filter_le _ _
theorem ND{i:Int}{k:List Int}(h:Rs k):Rs (rst i k):=h.filter _
theorem JW{i:Int}{k m:List Int}(hk:Rs k)(hm:Rs m)(h1:rst i k=rst i m)(h2:ct i k=ct i m):k=m:=by
  refine List.Perm.eq_of_pairwise (le:=fun a b:Int=>a≤b) (fun a b _ _ x y=>Int.le_antisymm x y) hk hm (List.perm_iff_count.mpr fun a=>?_)
  by_cases e:a=i
  · subst e
    rw [← Ev,← Ev,h2]
  · have p:(fun n:Int=>!(n == i)) a=true:=by simpa using e
    have e1:=List.count_filter (p:=fun n:Int=>!(n == i)) (a:=a) (l:=k) p
    have e2:=List.count_filter (p:=fun n:Int=>!(n == i)) (a:=a) (l:=m) p
    rw [← e1,← e2]
    exact congrArg (List.count a) h1
def al(i s:Int)(acc:List Ent)(x:Ent):List Ent:=f7 acc (rst i x.1) ((kj acc (rst i x.1)).getD 0+x.2 * s ^ ct i x.1)
def wv(i s:Int)(r:List Int):List Ent→Int
  | []=>0
  | x::ts=>(if rst i x.1=r then x.2 * s ^ ct i x.1 else 0)+wv i s r ts
theorem GO(i s:Int)(r:List Int):∀ (ts acc:List Ent),(kj (ts.foldl (al i s) acc) r).getD 0=(kj acc r).getD 0+wv i s r ts
  | [],acc=>by simp [wv]
  | x::ts,acc=>by
    rw [List.foldl_cons,GO i s r ts,wv]
    unfold al
    rw [DM]
    by_cases e:rst i x.1=r
    · rw [if_pos e,if_pos e,e]
      simp only [Option.getD_some]
      omega
    · rw [if_neg e,if_neg e]
      omega
def cf(i:Int)(r:List Int):List Ent→Nat→Int
  | [],_=>0
  | x::ts,d=>(if rst i x.1=r∧ct i x.1=d then x.2 else 0)+cf i r ts d
theorem Kc(i s:Int)(r:List Int)(n:Nat):∀ ts:List Ent,(∀ x∈ts,ct i x.1 < n)→pev ((List.range' 0 n).map (cf i r ts)) s=wv i s r ts
  | [],_=>m8 s _
  | x::ts,h=>by
    have e:(List.range' 0 n).map (cf i r (x::ts))=(List.range' 0 n).map fun d=>(if rst i x.1=r∧ct i x.1=d then x.2 else 0)+cf i r ts d:=rfl
    rw [e,Hc,Kc i s r n ts (fun y hy=>h y (List.mem_cons_of_mem _ hy)),wv]
    congr 1
    by_cases q:rst i x.1=r
    · rw [if_pos q]
      have hu:=Fc x.2 s n 0 (ct i x.1) (h x List.mem_cons_self)
      rw [← hu]
      congr 1
      apply List.map_congr_left
      intro d _
      rw [Nat.zero_add]
      by_cases z:d=ct i x.1
      · rw [if_pos z,if_pos ⟨q,z.symm⟩]
      · rw [if_neg z,if_neg (fun w=>z w.2.symm)]
    · rw [if_neg q]
      have z:(List.range' 0 n).map (fun d=>if rst i x.1=r∧ct i x.1=d then x.2 else 0)=(List.range' 0 n).map fun _=>(0:Int):=by
        apply List.map_congr_left
        intro d _
        rw [if_neg (fun w=>q w.1)]
      rw [z,m8]
structure Good(ts:List Ent):Prop where
  nd:(yh ts).Nodup
  ne:∀ x∈ts,x.2≠0
  ris:∀ x∈ts,Rs x.1
  len:∀ x∈ts,x.1.length≤20
theorem J2{i:Int}{r:List Int}{d:Nat}:∀ {ts:List Ent},(∀ x∈ts,¬ (rst i x.1=r∧ct i x.1=d))→cf i r ts d=0
  | [],_=>rfl
  | x::ts,h=>by
    rw [cf,if_neg (h x List.mem_cons_self),J2 fun y hy=>h y (List.mem_cons_of_mem _ hy)]
    rfl
def wz(i s:Int)(ts:List Ent):List Ent:=nz (ts.foldl (al i s) [])
theorem DK{ts:List Ent}(i:Int)(g:Good ts)(hne:ts≠[]):∃ s:Nat,s≤20∧wz i (s:Int) ts≠[]:=by
  refine Classical.byContradiction fun hno=>?_
  have hall:∀ s:Nat,s≤20→wz i (s:Int) ts=[]:=fun s hs=>Classical.byContradiction fun hw=>hno ⟨s,hs,hw⟩
  match ts,hne,g,hall with
  | x::ts,_,g,hall=>
    have hz:∀ s:Nat,s≤20→wv i (s:Int) (rst i x.1) (x::ts)=0:=fun s hs=>by
      have h1:=K4 (hall s hs) (rst i x.1)
      rw [GO] at h1
      simpa [AG] using h1
    have hc:∀ y∈x::ts,ct i y.1 < 21:=fun y hy=>Nat.lt_succ_of_le (Nat.le_trans (JY i y.1) (g.len y hy))
    have key:=Mn ((List.range 21).map fun (n:Nat)=>(n:Int)) ((List.range' 0 21).map (cf i (rst i x.1) (x::ts))) (by decide) (by simp) (fun r hr=>by
      obtain ⟨n,hn,rfl⟩:=List.mem_map.mp hr
      rw [Kc i _ _ 21 _ hc]
      exact hz n (by have:=List.mem_range.mp hn;omega))
    have h0:=key (cf i (rst i x.1) (x::ts) (ct i x.1)) (List.mem_map.mpr ⟨ct i x.1,List.mem_range'_1.mpr ⟨Nat.zero_le _,by have:=hc x List.mem_cons_self;omega⟩,rfl⟩)
    rw [cf,if_pos ⟨rfl,rfl⟩,J2,Int.add_zero] at h0
    · exact g.ne x List.mem_cons_self h0
    · intro y hy ⟨e1,e2⟩
      have:y.1=x.1:=JW (g.ris y (List.mem_cons_of_mem _ hy)) (g.ris x List.mem_cons_self) e1 e2
      have nd:=g.nd
      simp only [yh,List.map_cons,List.nodup_cons] at nd
      exact nd.1 (List.mem_map.mpr ⟨y,hy,this⟩)
theorem Ag(i s:Int):∀ (ts acc:List Ent),(yh acc).Nodup→(yh (ts.foldl (al i s) acc)).Nodup∧∀ k∈yh (ts.foldl (al i s) acc),k∈yh acc∨∃ x∈ts,k=rst i x.1
  | [],acc,h=>⟨h,fun k hk=>.inl hk⟩
  | x::ts,acc,h=>by
    obtain ⟨h1,h2⟩:=Ag i s ts (al i s acc x) (BE h)
    refine ⟨h1,fun k hk=>?_⟩
    rcases h2 k hk with z | ⟨y,hy,e⟩
    · unfold al at z
      rw [Bd] at z
      split at z
      · exact .inl z
      · rcases List.mem_append.mp z with z | z
        · exact .inl z
        · exact .inr ⟨x,List.mem_cons_self,by simpa using z⟩
    · exact .inr ⟨y,List.mem_cons_of_mem _ hy,e⟩
theorem Lo{ts:List Ent}(i s:Int)(g:Good ts):Good (wz i s ts):=by
  obtain ⟨h1,h2⟩:=Ag i s ts [] List.nodup_nil
  have key:∀ x∈wz i s ts,∃ y∈ts,x.1=rst i y.1:=fun x hx=>by
    rcases h2 x.1 (List.mem_map.mpr ⟨x,(List.mem_filter.mp hx).1,rfl⟩) with z | z
    · cases z
    · exact z
  refine ⟨Ar h1,Mq,fun x hx=>?_,fun x hx=>?_⟩
  · obtain ⟨y,hy,e⟩:=key x hx
    rw [e];exact ND (g.ris y hy)
  · obtain ⟨y,hy,e⟩:=key x hx
    rw [e];exact Nat.le_trans (LE i y.1) (g.len y hy)
theorem t7(ts:List Ent)(k:List Int)(n:Int):(f7 ts k n).length≤ts.length+1:=by
  unfold f7
  split<;>simp
theorem CG(i s:Int):∀ (ts acc:List Ent),(ts.foldl (al i s) acc).length≤acc.length+ts.length
  | [],acc=>by simp
  | x::ts,acc=>by
    have h1:=CG i s ts (al i s acc x)
    have h2:(al i s acc x).length≤acc.length+1:=t7 _ _ _
    simp only [List.foldl_cons,List.length_cons]
    omega
theorem NE(i s:Int)(ts:List Ent):(wz i s ts).length≤ts.length:=by
  have:=CG i s ts []
  have h2:(wz i s ts).length≤(ts.foldl (al i s) []).length:=List.length_filter_le _ _
  simp only [List.length_nil] at this
  omega
def xk(n:Int)(acc:List Ent)(k:List Int):List Ent:=f7 acc k ((kj acc k).getD 0+n)
theorem Be(n:Int)(r:List Int):∀ (ks:List (List Int)) (acc:List Ent),(kj (ks.foldl (xk n) acc) r).getD 0=(kj acc r).getD 0+n * (ks.count r:Nat)
  | [],acc=>by simp
  | k::ks,acc=>by
    rw [List.foldl_cons,Be n r ks,List.count_cons]
    unfold xk
    rw [DM]
    by_cases e:k=r
    · subst e
      rw [if_pos rfl,if_pos (beq_self_eq_true k)]
      simp only [Option.getD_some]
      push_cast
      rw [Int.mul_add]
      omega
    · rw [if_neg e,if_neg (by simpa using e)]
      rfl
theorem b8(n:Int):∀ (ks:List (List Int)) (acc:List Ent),(yh acc).Nodup→(yh (ks.foldl (xk n) acc)).Nodup∧∀ k∈yh (ks.foldl (xk n) acc),k∈yh acc∨k∈ks
  | [],acc,h=>⟨h,fun k hk=>.inl hk⟩
  | x::ks,acc,h=>by
    obtain ⟨h1,h2⟩:=b8 n ks (xk n acc x) (BE h)
    refine ⟨h1,fun k hk=>?_⟩
    rcases h2 k hk with z | z
    · unfold xk at z
      rw [Bd] at z
      split at z
      · exact .inl z
      · rcases List.mem_append.mp z with z | z
        · exact .inl z
        · exact .inr (by have:k=x:=by simpa using z
                         subst this;exact List.mem_cons_self)
    · exact .inr (List.mem_cons_of_mem _ z)
theorem df(n:Int):∀ (ks:List (List Int)) (acc:List Ent),(ks.foldl (xk n) acc).length≤acc.length+ks.length
  | [],acc=>by simp
  | x::ks,acc=>by
    have h1:=df n ks (xk n acc x)
    have h2:(xk n acc x).length≤acc.length+1:=t7 _ _ _
    simp only [List.foldl_cons,List.length_cons]
    omega
def dfr(xs ys:List (List Int)):List Ent:=nz (ys.foldl (xk (-1)) (xs.foldl (xk 1) []))
theorem Jk{xs ys:List (List Int)}(hx:∀ x∈xs,Rs x∧x.length≤20)(hy:∀ x∈ys,Rs x∧x.length≤20):Good (dfr xs ys):=by
  obtain ⟨h1,h2⟩:=b8 1 xs [] List.nodup_nil
  obtain ⟨h3,h4⟩:=b8 (-1) ys (xs.foldl (xk 1) []) h1
  have key:∀ x∈dfr xs ys,Rs x.1∧x.1.length≤20:=fun x hx'=>by
    rcases h4 x.1 (List.mem_map.mpr ⟨x,(List.mem_filter.mp hx').1,rfl⟩) with z | z
    · rcases h2 x.1 z with z | z
      · cases z
      · exact hx _ z
    · exact hy _ z
  exact ⟨Ar h3,Mq,fun x h=>(key x h).1,fun x h=>(key x h).2⟩
theorem KD{xs ys:List (List Int)}(h:dfr xs ys=[]):xs.Perm ys:=by
  refine List.perm_iff_count.mpr fun a=>?_
  have h1:=K4 h a
  rw [Be,Be] at h1
  simp only [AG,Option.getD_none] at h1
  omega
theorem LV(xs ys:List (List Int)):(dfr xs ys).length≤xs.length+ys.length:=by
  have h1:=df 1 xs []
  have h2:=df (-1) ys (xs.foldl (xk 1) [])
  have h3:(dfr xs ys).length≤(ys.foldl (xk (-1)) (xs.foldl (xk 1) [])).length:=List.length_filter_le _ _
  simp only [List.length_nil] at h1
  omega
theorem N4(k:List Int):lf (.tuple (k.map .int))=true:=by simp [lf,AN]
theorem BB{tf:PyData→Option Rho}{tst elt:FE}{env ρ1:Rho}{d x:PyData}{ds:List PyData}{l l':Nat}(h1:tf d=some ρ1)(h2:tst (ρ1++env)=some (.ok l (.bool true)))(h3:elt (ρ1++env)=some (.ok l' x))(hl:lf x=true):
    yd tf tst elt env (d::ds)=(yd tf tst elt env ds).map (x::·):=by
  rw [yd,h1]
  dsimp only
  rw [h2]
  dsimp only
  rw [h3]
  dsimp only
  rw [if_pos hl]
theorem Cb{tf:PyData→Option Rho}{tst elt:FE}{env ρ1:Rho}{d:PyData}{ds:List PyData}{l:Nat}(h1:tf d=some ρ1)(h2:tst (ρ1++env)=some (.ok l (.bool false))):
    yd tf tst elt env (d::ds)=yd tf tst elt env ds:=by
  rw [yd,h1]
  dsimp only
  rw [h2]
theorem Hf:∀ ts:List Ent,yd tc2 (eNe (za 1) (eC (.int 0))) (zm [(za 0),(za 1)]) [] (ts.map ve)=some ((nz ts).map ve)
  | []=>rfl
  | (k,n)::ts=>by
    have ih:=Hf ts
    have h1:lf (ve (k,n))=true:=by simp [ve,lf,lfs,AN]
    have ht:tc2 (ve (k,n))=some [some (.par (.tuple (k.map .int))),some (.par (.int n))]:=rfl
    have hc:eNe (za 1) (eC (.int 0)) ([some (.par (.tuple (k.map .int))),some (.par (.int n))]++[])=some (.ok 2 (.bool (!(n == 0)))):=rfl
    have he:zm [(za 0),(za 1)] ([some (.par (.tuple (k.map .int))),some (.par (.int n))]++[])=some (.ok 0 (ve (k,n))):=rfl
    rw [List.map_cons]
    cases q:(n == 0) with
    | true=>
      rw [q] at hc
      rw [Cb ht hc,ih]
      simp [nz,q]
    | false=>
      rw [q] at hc
      rw [BB ht hc he h1,ih]
      simp [nz,q]
theorem A5(n:Nat){ts:List Ent}(hn:(yh ts).Nodup)(hl:ts.length≤big):qr (n+1) [jn ts]=some (.ok (jn (nz ts))):=by
  show qt 1 u3 [jn ts]=_
  refine g9 ?_
  show zu (GG (ge (i5 (za 0)) [] tc2 (eNe (za 1) (eC (.int 0))) (zm [(za 0),(za 1)]))) [some (.par (jn ts))]=_
  have h1:i5 (za 0) [some (.par (jn ts))]=some (.ok 0 (ts.map ve)):=by
    simp [i5,za,i7]
  have h2:ge (i5 (za 0)) [] tc2 (eNe (za 1) (eC (.int 0))) (zm [(za 0),(za 1)]) [some (.par (jn ts))]=some (.ok 2 (.list ((nz ts).map ve))):=by
    unfold ge
    rw [h1]
    dsimp only
    rw [if_pos (by simpa using hl)]
    simp only [List.map_nil,Hf,Option.map_some]
  have hz:(nz ts).length≤big:=Nat.le_trans (List.length_filter_le _ _) hl
  have h3:G7 (.list ((nz ts).map ve))=some (jn (nz ts)):=by
    unfold G7
    dsimp only
    rw [if_pos (by simpa using hz),BV,Option.map_some,HG (Ar hn)]
  simp [zu,GG,e1,h2,zk,zi,h3]
theorem EG(i:Int):∀ k:List Int,yd tc1 (eNe (za 0) (za 1)) (za 0) [some (.par (.int i))] (k.map .int)=some ((rst i k).map .int)
  | []=>rfl
  | n::k=>by
    have ih:=EG i k
    have hc:eNe (za 0) (za 1) ([some (.par (.int n))]++[some (.par (.int i))])=some (.ok 2 (.bool (!(n == i)))):=rfl
    have he:za 0 ([some (.par (.int n))]++[some (.par (.int i))])=some (.ok 0 (.int n)):=rfl
    rw [List.map_cons]
    cases q:(n == i) with
    | true=>
      rw [q] at hc
      rw [Cb (tf:=tc1) rfl hc,ih]
      simp [rst,q]
    | false=>
      rw [q] at hc
      rw [BB (tf:=tc1) rfl hc he rfl,ih]
      simp [rst,q]
theorem EK(s:Int)(hs:s.natAbs < 2 ^ 64)(r0 r1 r3 r4 r5 r6:Option Slot):∀ (ds:List PyData) (v:Int) (r8:Option Slot),
    ∃ r8',q8 (zw 8) (zn 7 (vc (za 7) (za 2))) ds [r0,r1,some (.par (.int s)),r3,r4,r5,r6,some (.loc (.int v)),r8]=some (.next [r0,r1,some (.par (.int s)),r3,r4,r5,r6,some (.loc (.int (v * s ^ ds.length))),r8'])
  | [],v,r8=>⟨r8,by simp [q8]⟩
  | d::ds,v,r8=>by
    obtain ⟨r8',h⟩:=EK s hs r0 r1 r3 r4 r5 r6 ds (v * s) (some (.loc d))
    refine ⟨r8',?_⟩
    have hm:i0 (.int v) (.int s)=some (.int (v * s)):=Kr (Bx hs)
    have hb:zn 7 (vc (za 7) (za 2)) [r0,r1,some (.par (.int s)),r3,r4,r5,r6,some (.loc (.int v)),some (.loc d)]=some (.next [r0,r1,some (.par (.int s)),r3,r4,r5,r6,some (.loc (.int (v * s))),some (.loc d)]):=by
      simp [zn,vc,e2,za,zk,zi,hm,G1]
    simp only [q8,zw,List.set_cons_succ,List.set_cons_zero,hb,h,List.length_cons]
    congr 6
    rw [Int.pow_succ,Int.mul_comm (s ^ ds.length) s,← Int.mul_assoc]
def CP:FS:=(ze (zn 6 (xc (ge (uk (za 4)) [1] tc1 (eNe (za 0) (za 1)) (za 0)))) (ze (zn 7 (za 5)) (ze (kz (iR1 (lu (za 4) (za 1))) (zw 8) (zn 7 (vc (za 7) (za 2)))) (fm false 3 6 (za 7)))))
theorem Ly(i s:Int)(hs:s.natAbs < 2 ^ 64)(r0 r6 r7 r8:Option Slot)(acc:List Ent)(ha:acc.length < big)(k:List Int)(n:Int)(hk:k.length≤20):
    ∃ r6' r7' r8',CP [r0,some (.par (.int i)),some (.par (.int s)),some (.dct acc),some (.loc (.tuple (k.map .int))),some (.loc (.int n)),r6,r7,r8]=some (.next [r0,some (.par (.int i)),some (.par (.int s)),some (.dct (al i s acc (k,n))),some (.loc (.tuple (k.map .int))),some (.loc (.int n)),r6',r7',r8']):=by
  have hb:big=100000:=rfl
  have h1:zn 6 (xc (ge (uk (za 4)) [1] tc1 (eNe (za 0) (za 1)) (za 0))) [r0,some (.par (.int i)),some (.par (.int s)),some (.dct acc),some (.loc (.tuple (k.map .int))),some (.loc (.int n)),r6,r7,r8]=some (.next [r0,some (.par (.int i)),some (.par (.int s)),some (.dct acc),some (.loc (.tuple (k.map .int))),some (.loc (.int n)),some (.loc (.tuple ((rst i k).map .int))),r7,r8]):=by
    have e1:uk (za 4) [r0,some (.par (.int i)),some (.par (.int s)),some (.dct acc),some (.loc (.tuple (k.map .int))),some (.loc (.int n)),r6,r7,r8]=some (.ok 2 (k.map .int)):=by
      simp [uk,za,AN]
    have e2:ge (uk (za 4)) [1] tc1 (eNe (za 0) (za 1)) (za 0) [r0,some (.par (.int i)),some (.par (.int s)),some (.dct acc),some (.loc (.tuple (k.map .int))),some (.loc (.int n)),r6,r7,r8]=some (.ok 2 (.list ((rst i k).map .int))):=by
      unfold ge
      rw [e1]
      dsimp only
      rw [if_pos (by simp only [List.length_map];omega)]
      have e3:([1].map fun j=>bo ([r0,some (Slot.par (.int i)),some (.par (.int s)),some (.dct acc),some (.loc (.tuple (k.map .int))),some (.loc (.int n)),r6,r7,r8]:Rho)[j]?)=[some (.par (.int i))]:=rfl
      rw [e3,EG]
      rfl
    have e4:dn (.list ((rst i k).map .int))=some (.tuple ((rst i k).map .int)):=by simp [dn,AN]
    simp [zn,xc,KT.e1,e2,zk,zi,e4,o7 (N4 (rst i k))]
  have h2:zn 7 (za 5) [r0,some (.par (.int i)),some (.par (.int s)),some (.dct acc),some (.loc (.tuple (k.map .int))),some (.loc (.int n)),some (.loc (.tuple ((rst i k).map .int))),r7,r8]=some (.next [r0,some (.par (.int i)),some (.par (.int s)),some (.dct acc),some (.loc (.tuple (k.map .int))),some (.loc (.int n)),some (.loc (.tuple ((rst i k).map .int))),some (.loc (.int n)),r8]):=by
    simp [zn,za,zi,G1]
  have h3:iR1 (lu (za 4) (za 1)) [r0,some (.par (.int i)),some (.par (.int s)),some (.dct acc),some (.loc (.tuple (k.map .int))),some (.loc (.int n)),some (.loc (.tuple ((rst i k).map .int))),some (.loc (.int n)),r8]=some (.ok 2 (bh (ct i k))):=by
    have e1:lu (za 4) (za 1) [r0,some (.par (.int i)),some (.par (.int s)),some (.dct acc),some (.loc (.tuple (k.map .int))),some (.loc (.int n)),some (.loc (.tuple ((rst i k).map .int))),some (.loc (.int n)),r8]=some (.ok 2 (.int (ct i k:Nat))):=by
      simp [lu,za,zk,y9,ct]
    have hc:=JY i k
    simp only [iR1,e1]
    rw [if_pos (by omega)]
    rfl
  obtain ⟨r8',h4⟩:=EK s hs r0 (some (.par (.int i))) (some (.dct acc)) (some (.loc (.tuple (k.map .int)))) (some (.loc (.int n))) (some (.loc (.tuple ((rst i k).map .int)))) (bh (ct i k)) n r8
  have hl:(bh (ct i k)).length=ct i k:=by simp [bh]
  rw [hl] at h4
  refine ⟨some (.loc (.tuple ((rst i k).map .int))),some (.loc (.int (n * s ^ ct i k))),r8',?_⟩
  unfold CP
  rw [z7 h1,z7 h2]
  have h5:kz (iR1 (lu (za 4) (za 1))) (zw 8) (zn 7 (vc (za 7) (za 2))) [r0,some (.par (.int i)),some (.par (.int s)),some (.dct acc),some (.loc (.tuple (k.map .int))),some (.loc (.int n)),some (.loc (.tuple ((rst i k).map .int))),some (.loc (.int n)),r8]=some (.next [r0,some (.par (.int i)),some (.par (.int s)),some (.dct acc),some (.loc (.tuple (k.map .int))),some (.loc (.int n)),some (.loc (.tuple ((rst i k).map .int))),some (.loc (.int (n * s ^ ct i k))),r8']):=by
    simp only [kz,h3]
    exact h4
  rw [z7 h5]
  simp [fm,za,y9,zi,ha,al]
theorem Mo(i s:Int)(hs:s.natAbs < 2 ^ 64)(r0:Option Slot):∀ (ts acc:List Ent) (r4 r5 r6 r7 r8:Option Slot),(∀ x∈ts,x.1.length≤20)→acc.length+ts.length < big→
    ∃ r4' r5' r6' r7' r8',q8 (xw 4 5) CP (ts.map ve) [r0,some (.par (.int i)),some (.par (.int s)),some (.dct acc),r4,r5,r6,r7,r8]=some (.next [r0,some (.par (.int i)),some (.par (.int s)),some (.dct (ts.foldl (al i s) acc)),r4',r5',r6',r7',r8'])
  | [],acc,r4,r5,r6,r7,r8,_,_=>⟨r4,r5,r6,r7,r8,rfl⟩
  | (k,n)::ts,acc,r4,r5,r6,r7,r8,hk,hl=>by
    simp only [List.length_cons] at hl
    obtain ⟨r6',r7',r8',h1⟩:=Ly i s hs r0 r6 r7 r8 acc (by omega) k n (hk _ List.mem_cons_self)
    have h2:(al i s acc (k,n)).length≤acc.length+1:=t7 _ _ _
    obtain ⟨a,b,c,d,e,h3⟩:=Mo i s hs r0 ts (al i s acc (k,n)) _ _ r6' r7' r8' (fun x hx=>hk x (List.mem_cons_of_mem _ hx)) (by omega)
    refine ⟨a,b,c,d,e,?_⟩
    rw [List.map_cons,q8]
    show (match CP [r0,some (.par (.int i)),some (.par (.int s)),some (.dct acc),some (.loc (.tuple (k.map .int))),some (.loc (.int n)),r6,r7,r8] with
      | some (.next ρ2)=>q8 (xw 4 5) CP (ts.map ve) ρ2
      | some (.cont ρ2)=>q8 (xw 4 5) CP (ts.map ve) ρ2
      | some (.brk ρ2)=>some (.next ρ2)
      | r=>r)=_
    rw [h1]
    exact h3
theorem LF(n:Nat)(i s:Int)(hs:s.natAbs < 2 ^ 64){ts:List Ent}(g:∀ x∈ts,x.1.length≤20)(hl:ts.length < big):qy (n+2) [jn ts,.int i,.int s]=some (.ok (jn (wz i s ts))):=by
  show qt 9 (rj (qr (n+1))) [jn ts,.int i,.int s]=_
  refine g9 ?_
  obtain ⟨a,b,c,d,e,h⟩:=Mo i s hs (some (.par (jn ts))) ts [] none none none none none g (by simpa using hl)
  have h0:Aa 3 [some (.par (jn ts)),some (.par (.int i)),some (.par (.int s)),none,none,none,none,none,none]=some (.next [some (.par (jn ts)),some (.par (.int i)),some (.par (.int s)),some (.dct []),none,none,none,none,none]):=rfl
  have h1:Dy 0 (xw 4 5) CP [some (.par (jn ts)),some (.par (.int i)),some (.par (.int s)),some (.dct []),none,none,none,none,none]=some (.next [some (.par (jn ts)),some (.par (.int i)),some (.par (.int s)),some (.dct (ts.foldl (al i s) [])),a,b,c,d,e]):=by
    show ((p9 (jn ts)).bind fun ts'=>q8 (xw 4 5) CP (ts'.map ve) _)=_
    rw [i7]
    exact h
  have hn:=(Ag i s ts [] List.nodup_nil).1
  have hle:=CG i s ts []
  have h2:=A5 n hn (by simp only [List.length_nil] at hle;omega)
  show (ze (Aa 3) (ze (Dy 0 (xw 4 5) CP) (zu (zd (qr (n+1)) [(za 3)])))) [some (.par (jn ts)),some (.par (.int i)),some (.par (.int s)),none,none,none,none,none,none]=_
  rw [z7 h0,z7 h1]
  have e3:za 3 [some (.par (jn ts)),some (.par (.int i)),some (.par (.int s)),some (.dct (ts.foldl (al i s) [])),a,b,c,d,e]=some (.ok 1 (jn (ts.foldl (al i s) []))):=rfl
  simp [zu,zd,zo,e3,zv,h2,j8,zi,wz]
theorem II(neg:Bool)(r0 r1:Option Slot):∀ (ks:List (List Int)) (acc:List Ent) (r3:Option Slot),acc.length+ks.length < big→
    ∃ r3',q8 (zw 3) (fm neg 2 3 (eC (.int 1))) (ks.map zl) [r0,r1,some (.dct acc),r3]=some (.next [r0,r1,some (.dct (ks.foldl (xk (if neg then -1 else 1)) acc)),r3'])
  | [],acc,r3,_=>⟨r3,rfl⟩
  | k::ks,acc,r3,hl=>by
    simp only [List.length_cons] at hl
    have h2:(xk (if neg then -1 else 1) acc k).length≤acc.length+1:=t7 _ _ _
    obtain ⟨a,h3⟩:=II neg r0 r1 ks (xk (if neg then -1 else 1) acc k) (some (.loc (zl k))) (by omega)
    refine ⟨a,?_⟩
    have h1:fm neg 2 3 (eC (.int 1)) [r0,r1,some (.dct acc),some (.loc (zl k))]=some (.next [r0,r1,some (.dct (xk (if neg then -1 else 1) acc k)),some (.loc (zl k))]):=by
      simp only [fm,za,zl,List.getElem?_cons_succ,List.getElem?_cons_zero,y9,eC,zi]
      rw [if_pos (by omega)]
      rfl
    rw [List.map_cons,q8]
    show (match fm neg 2 3 (eC (.int 1)) [r0,r1,some (.dct acc),some (.loc (zl k))] with
      | some (.next ρ2)=>q8 (zw 3) (fm neg 2 3 (eC (.int 1))) (ks.map zl) ρ2
      | some (.cont ρ2)=>q8 (zw 3) (fm neg 2 3 (eC (.int 1))) (ks.map zl) ρ2
      | some (.brk ρ2)=>some (.next ρ2)
      | r=>r)=_
    rw [h1]
    exact h3
theorem Mg(n:Nat)(xs ys:List (List Int))(hl:xs.length+ys.length < big):yc (n+2) [.list (xs.map zl),.list (ys.map zl)]=some (.ok (jn (dfr xs ys))):=by
  show qt 4 (mn (qr (n+1))) [.list (xs.map zl),.list (ys.map zl)]=_
  refine g9 ?_
  obtain ⟨a,h1⟩:=II false (some (.par (.list (xs.map zl)))) (some (.par (.list (ys.map zl)))) xs [] none (by simp only [List.length_nil];omega)
  have hle:=df 1 xs []
  simp only [List.length_nil] at hle
  obtain ⟨b,h2⟩:=II true (some (.par (.list (xs.map zl)))) (some (.par (.list (ys.map zl)))) ys (xs.foldl (xk 1) []) a (by omega)
  have hk:=b8 1 xs [] List.nodup_nil
  have hk2:=b8 (-1) ys _ hk.1
  have hle2:=df (-1) ys (xs.foldl (xk 1) [])
  have h3:=A5 n hk2.1 (by omega)
  have h0:Aa 2 [some (.par (.list (xs.map zl))),some (.par (.list (ys.map zl))),none,none]=some (.next [some (.par (.list (xs.map zl))),some (.par (.list (ys.map zl))),some (.dct []),none]):=rfl
  have f1:yw 0 (zw 3) (fm false 2 3 (eC (.int 1))) [some (.par (.list (xs.map zl))),some (.par (.list (ys.map zl))),some (.dct []),none]=some (.next [some (.par (.list (xs.map zl))),some (.par (.list (ys.map zl))),some (.dct (xs.foldl (xk 1) [])),a]):=by
    show (if lfs (xs.map zl)=true then _ else _)=_
    rw [if_pos (on xs)]
    exact h1
  have f2:yw 1 (zw 3) (fm true 2 3 (eC (.int 1))) [some (.par (.list (xs.map zl))),some (.par (.list (ys.map zl))),some (.dct (xs.foldl (xk 1) [])),a]=some (.next [some (.par (.list (xs.map zl))),some (.par (.list (ys.map zl))),some (.dct (ys.foldl (xk (-1)) (xs.foldl (xk 1) []))),b]):=by
    show (if lfs (ys.map zl)=true then _ else _)=_
    rw [if_pos (on ys)]
    exact h2
  show (ze (Aa 2) (ze (yw 0 (zw 3) (fm false 2 3 (eC (.int 1)))) (ze (yw 1 (zw 3) (fm true 2 3 (eC (.int 1)))) (zu (zd (qr (n+1)) [(za 2)]))))) [some (.par (.list (xs.map zl))),some (.par (.list (ys.map zl))),none,none]=_
  rw [z7 h0,z7 f1,z7 f2]
  have e3:za 2 [some (.par (.list (xs.map zl))),some (.par (.list (ys.map zl))),some (.dct (ys.foldl (xk (-1)) (xs.foldl (xk 1) []))),b]=some (.ok 1 (jn (ys.foldl (xk (-1)) (xs.foldl (xk 1) [])))):=rfl
  simp [zu,zd,zo,e3,zv,h3,j8,zi,dfr]
def JS:FE:=(eEq (G8 (za 6)) (eC (.int 0)))
def J6(g:FC):FS:=(ze (zn 5 (qc (za 5) (eC (.int 1)))) (zn 6 (zd g [(za 2),(za 4),(za 5)])))
theorem Dt(ts:List Ent):asg 2 (jn ts)=some (.loc (jn ts)):=rfl
theorem LZ(r0 r1 r2 r3 r4 r5:Option Slot)(ts:List Ent):JS [r0,r1,r2,r3,r4,r5,some (.loc (jn ts))]=some (.ok 2 (.bool (decide (ts=[])))):=by
  have h:GU (jn ts)=some (.int ts.length):=by
    unfold GU
    rw [i7];rfl
  have h0:((ts.length:Int) == 0)=decide (ts=[]):=by
    cases ts with
    | nil=>rfl
    | cons x ts=>
      have:((((x::ts).length:Nat):Int) == 0)=false:=by simp only [List.length_cons,beq_eq_false_iff_ne];omega
      rw [this];simp
  simp only [JS,eEq,e2,G8,e1,za,eC,zk,List.getElem?_cons_succ,List.getElem?_cons_zero,h,Option.map_some,CM,h0]
  rfl
theorem EJ(g:FC)(i:Int){ts:List Ent}(hg:∀ s:Nat,s≤20→g [jn ts,.int i,.int (s:Int)]=some (.ok (jn (wz i s ts))))(S:Nat)(hS:S≤20)(hw:wz i (S:Int) ts≠[])(r0 r1 r3:Option Slot):
    ∀ (d s n:Nat),s+d=S→d < n→∃ s':Nat,s'≤20∧wz i (s':Int) ts≠[]∧ya JS (J6 g) n [r0,r1,some (.loc (jn ts)),r3,some (.loc (.int i)),some (.loc (.int (s:Int))),some (.loc (jn (wz i (s:Int) ts)))]=
      some (.next [r0,r1,some (.loc (jn ts)),r3,some (.loc (.int i)),some (.loc (.int (s':Int))),some (.loc (jn (wz i (s':Int) ts)))])
  | d,s,0,_,h=>by omega
  | d,s,n+1,hd,h=>by
    rw [ya,LZ]
    by_cases e:wz i (s:Int) ts=[]
    · have hd0:d≠0:=fun z=>by
        have:s=S:=by omega
        rw [this] at e;exact hw e
      obtain ⟨d',rfl⟩:∃ d',d=d'+1:=⟨d - 1,by omega⟩
      obtain ⟨s',h1,h2,h3⟩:=EJ g i hg S hS hw r0 r1 r3 d' (s+1) n (by omega) (by omega)
      refine ⟨s',h1,h2,?_⟩
      have hb:J6 g [r0,r1,some (.loc (jn ts)),r3,some (.loc (.int i)),some (.loc (.int (s:Int))),some (.loc (jn (wz i (s:Int) ts)))]=some (.next [r0,r1,some (.loc (jn ts)),r3,some (.loc (.int i)),some (.loc (.int ((s+1:Nat):Int))),some (.loc (jn (wz i ((s+1:Nat):Int) ts)))]):=by
        have hc:=hg (s+1) (by omega)
        have c1:zn 5 (qc (za 5) (eC (.int 1))) [r0,r1,some (.loc (jn ts)),r3,some (.loc (.int i)),some (.loc (.int (s:Int))),some (.loc (jn (wz i (s:Int) ts)))]=some (.next [r0,r1,some (.loc (jn ts)),r3,some (.loc (.int i)),some (.loc (.int ((s+1:Nat):Int))),some (.loc (jn (wz i (s:Int) ts)))]):=rfl
        unfold J6
        rw [z7 c1]
        simp only [zn,zd,zo,za,List.getElem?_cons_succ,List.getElem?_cons_zero,zv,hc,j8,zi]
        show (asg 2 (jn (wz i ((s+1:Nat):Int) ts))).map _=_
        rw [Dt];rfl
      simp only [e,decide_true,zi]
      rw [e] at hb
      rw [hb]
      exact h3
    · refine ⟨s,by omega,e,?_⟩
      simp only [e,decide_false,zi]
def Dn(g:FC):FS:=(ze (zn 5 (eC (.int 0))) (ze (zn 6 (zd g [(za 2),(za 4),(za 5)])) (ze (bi JS (J6 g)) (ze (EX 2 6) (vk 3 (za 5))))))
def wzs(ts:List Ent):List (Int×Nat)→List Ent
  | []=>ts
  | p::ps=>wzs (wz p.1 (p.2:Int) ts) ps
theorem LW(n:Nat)(i:Int){ts:List Ent}(gd:Good ts)(hne:ts≠[])(hl:ts.length < big)(r0 r1 r5 r6:Option Slot)(acc:List PyData)(ha:acc.length < big):
    ∃ s:Nat,s≤20∧wz i (s:Int) ts≠[]∧∃ r5' r6',Dn (qy (n+2)) [r0,r1,some (.loc (jn ts)),some (.own acc),some (.loc (.int i)),r5,r6]=some (.next [r0,r1,some (.loc (jn (wz i (s:Int) ts))),some (.own (acc++[.int (s:Int)])),some (.loc (.int i)),r5',r6']):=by
  obtain ⟨S,hS,hw⟩:=DK i gd hne
  have hg:∀ s:Nat,s≤20→qy (n+2) [jn ts,.int i,.int (s:Int)]=some (.ok (jn (wz i s ts))):=fun s hs=>LF n i s (by omega) gd.len hl
  obtain ⟨s,h1,h2,h3⟩:=EJ (qy (n+2)) i hg S hS hw r0 r1 (some (.own acc)) S 0 wFuel (by omega) (by have:wFuel=100000:=rfl;omega)
  refine ⟨s,h1,h2,some (.loc (.int (s:Int))),some (.loc (jn (wz i (s:Int) ts))),?_⟩
  have c1:zn 5 (eC (.int 0)) [r0,r1,some (.loc (jn ts)),some (.own acc),some (.loc (.int i)),r5,r6]=some (.next [r0,r1,some (.loc (jn ts)),some (.own acc),some (.loc (.int i)),some (.loc (.int ((0:Nat):Int))),r6]):=rfl
  have c2:zn 6 (zd (qy (n+2)) [(za 2),(za 4),(za 5)]) [r0,r1,some (.loc (jn ts)),some (.own acc),some (.loc (.int i)),some (.loc (.int ((0:Nat):Int))),r6]=some (.next [r0,r1,some (.loc (jn ts)),some (.own acc),some (.loc (.int i)),some (.loc (.int ((0:Nat):Int))),some (.loc (jn (wz i ((0:Nat):Int) ts)))]):=by
    have hc:=hg 0 (by omega)
    simp only [zn,zd,zo,za,List.getElem?_cons_succ,List.getElem?_cons_zero,zv,hc,j8,zi]
    show (asg 2 (jn (wz i ((0:Nat):Int) ts))).map _=_
    rw [Dt];rfl
  have c3:bi JS (J6 (qy (n+2))) [r0,r1,some (.loc (jn ts)),some (.own acc),some (.loc (.int i)),some (.loc (.int ((0:Nat):Int))),some (.loc (jn (wz i ((0:Nat):Int) ts)))]=_:=h3
  unfold Dn
  rw [z7 c1,z7 c2,z7 c3]
  have c4:EX 2 6 [r0,r1,some (.loc (jn ts)),some (.own acc),some (.loc (.int i)),some (.loc (.int (s:Int))),some (.loc (jn (wz i (s:Int) ts)))]=some (.next [r0,r1,some (.loc (jn (wz i (s:Int) ts))),some (.own acc),some (.loc (.int i)),some (.loc (.int (s:Int))),some (.loc (jn (wz i (s:Int) ts)))]):=rfl
  rw [z7 c4]
  show (if (lf (.int (s:Int)) && decide (acc.length < big))=true then _ else none)=_
  rw [if_pos (by simp [lf,ha])]
  rfl
theorem Mv(n:Nat)(r0 r1:Option Slot):∀ (is:List Int) (ts:List Ent) (acc:List PyData) (r4 r5 r6:Option Slot),Good ts→ts≠[]→ts.length < big→acc.length+is.length < big→
    ∃ ss:List Nat,ss.length=is.length∧(∀ s∈ss,s≤20)∧wzs ts (is.zip ss)≠[]∧∃ r4' r5' r6',q8 (zw 4) (Dn (qy (n+2))) (is.map .int) [r0,r1,some (.loc (jn ts)),some (.own acc),r4,r5,r6]=
      some (.next [r0,r1,some (.loc (jn (wzs ts (is.zip ss)))),some (.own (acc++ss.map fun (s:Nat)=>.int (s:Int))),r4',r5',r6'])
  | [],ts,acc,r4,r5,r6,_,hne,_,_=>⟨[],rfl,(fun s h=>by cases h),hne,r4,r5,r6,by simp [q8,wzs]⟩
  | i::is,ts,acc,r4,r5,r6,gd,hne,hl,ha=>by
    simp only [List.length_cons] at ha
    obtain ⟨s,h1,h2,a,b,h3⟩:=LW n i gd hne hl r0 r1 r5 r6 acc (by omega)
    have hl2:=NE i (s:Int) ts
    obtain ⟨ss,k1,k2,k3,c,d,e,k4⟩:=Mv n r0 r1 is (wz i (s:Int) ts) (acc++[.int (s:Int)]) (some (.loc (.int i))) a b (Lo i s gd) h2 (by omega) (by simp only [List.length_append,List.length_singleton];omega)
    refine ⟨s::ss,by simp [k1],fun x hx=>?_,k3,c,d,e,?_⟩
    · rcases List.mem_cons.mp hx with rfl | hx
      · exact h1
      · exact k2 x hx
    · rw [List.map_cons,q8]
      show (match Dn (qy (n+2)) [r0,r1,some (.loc (jn ts)),some (.own acc),some (.loc (.int i)),r5,r6] with
        | some (.next ρ2)=>q8 (zw 4) (Dn (qy (n+2))) (is.map .int) ρ2
        | some (.cont ρ2)=>q8 (zw 4) (Dn (qy (n+2))) (is.map .int) ρ2
        | some (.brk ρ2)=>some (.next ρ2)
        | r=>r)=_
      rw [h3]
      show q8 (zw 4) (Dn (qy (n+2))) (is.map .int) _=_
      rw [k4]
      simp [wzs]
theorem Fg(n:Nat)(xs ys:List (List Int))(hl:xs.length+ys.length < 1000)(hx:∀ x∈xs,Rs x∧x.length≤20)(hy:∀ x∈ys,Rs x∧x.length≤20)(hp:¬ xs.Perm ys):
    ∃ ss:List Nat,ss.length=4∧(∀ s∈ss,s≤20)∧wzs (dfr xs ys) ([0,1,2,3].zip ss)≠[]∧wj (n+3) [.list (xs.map zl),.list (ys.map zl)]=some (.ok (.tuple (ss.map fun (s:Nat)=>.int (s:Int)))):=by
  have hb:big=100000:=rfl
  have gd:=Jk hx hy
  have hne:dfr xs ys≠[]:=fun z=>hp (KD z)
  have hdl:=LV xs ys
  have hd:=Mg n xs ys (by omega)
  obtain ⟨ss,h1,h2,h3,a,b,c,h4⟩:=Mv n (some (.par (.list (xs.map zl)))) (some (.par (.list (ys.map zl)))) [0,1,2,3] (dfr xs ys) [] none none none gd hne (by omega) (by simp only [List.length_nil,List.length_cons];omega)
  refine ⟨ss,h1,h2,h3,?_⟩
  show qt 7 (ax (qy (n+2)) (yc (n+2))) [.list (xs.map zl),.list (ys.map zl)]=_
  refine g9 ?_
  have c1:zn 2 (zd (yc (n+2)) [(za 0),(za 1)]) [some (.par (.list (xs.map zl))),some (.par (.list (ys.map zl))),none,none,none,none,none]=some (.next [some (.par (.list (xs.map zl))),some (.par (.list (ys.map zl))),some (.loc (jn (dfr xs ys))),none,none,none,none]):=by
    simp only [zn,zd,zo,za,List.getElem?_cons_succ,List.getElem?_cons_zero,zv,hd,j8,zi]
    show (asg 2 (jn (dfr xs ys))).map _=_
    rw [Dt];rfl
  have c2:zn 3 (qp []) [some (.par (.list (xs.map zl))),some (.par (.list (ys.map zl))),some (.loc (jn (dfr xs ys))),none,none,none,none]=some (.next [some (.par (.list (xs.map zl))),some (.par (.list (ys.map zl))),some (.loc (jn (dfr xs ys))),some (.own []),none,none,none]):=rfl
  have c3:kz (iC [.int 0,.int 1,.int 2,.int 3]) (zw 4) (Dn (qy (n+2))) [some (.par (.list (xs.map zl))),some (.par (.list (ys.map zl))),some (.loc (jn (dfr xs ys))),some (.own []),none,none,none]=some (.next [some (.par (.list (xs.map zl))),some (.par (.list (ys.map zl))),some (.loc (jn (wzs (dfr xs ys) ([0,1,2,3].zip ss)))),some (.own (ss.map fun (s:Nat)=>.int (s:Int))),a,b,c]):=by
    simp only [kz,iC]
    exact h4
  show (ze (zn 2 (zd (yc (n+2)) [(za 0),(za 1)])) (ze (zn 3 (qp [])) (ze (kz (iC [.int 0,.int 1,.int 2,.int 3]) (zw 4) (Dn (qy (n+2)))) (zu (xc (za 3)))))) [some (.par (.list (xs.map zl))),some (.par (.list (ys.map zl))),none,none,none,none,none]=_
  rw [z7 c1,z7 c2,z7 c3]
  have hlf:lfs (ss.map fun (s:Nat)=>PyData.int (s:Int))=true:=by
    have:=AN (ss.map fun (s:Nat)=>(s:Int))
    rwa [List.map_map] at this
  have e3:za 3 [some (.par (.list (xs.map zl))),some (.par (.list (ys.map zl))),some (.loc (jn (wzs (dfr xs ys) ([0,1,2,3].zip ss)))),some (.own (ss.map fun (s:Nat)=>.int (s:Int))),a,b,c]=some (.ok 1 (.list (ss.map fun (s:Nat)=>.int (s:Int)))):=rfl
  have e4:dn (.list (ss.map fun (s:Nat)=>PyData.int (s:Int)))=some (.tuple (ss.map fun (s:Nat)=>PyData.int (s:Int))):=by
    unfold dn
    dsimp only
    rw [if_pos hlf]
  have e5:lf (.tuple (ss.map fun (s:Nat)=>PyData.int (s:Int)))=true:=by simpa [lf] using hlf
  simp only [zu,xc,e1,e3,zk,e4,Option.map_some,zi,e5,Bool.true_or,if_true]
def smf(f:Nat→Nat):List Nat→Nat
  | []=>0
  | c::cs=>f c+smf f cs
theorem Ai{f g:Nat→Nat}(c0:Nat):∀ cs:List Nat,(∀ c∈cs,c≠c0→f c=g c)→smf f cs+cs.count c0 * g c0=smf g cs+cs.count c0 * f c0
  | [],_=>by simp [smf]
  | c::cs,h=>by
    have ih:=Ai c0 cs (fun d hd=>h d (List.mem_cons_of_mem _ hd))
    simp only [smf,List.count_cons]
    by_cases e:c=c0
    · subst e
      simp only [beq_self_eq_true,if_true,Nat.add_mul,Nat.one_mul]
      omega
    · have:(c == c0)=false:=by simpa using e
      simp only [this,Bool.false_eq_true,if_false,Nat.add_zero,h c List.mem_cons_self e]
      omega
def BM(cs as:List Nat):List Nat:=cs.flatMap fun c=>as.map fun a=>c+a
theorem rn(c n:Nat):∀ as:List Nat,(as.map fun a=>c+a).count n=if c≤n then as.count (n - c) else 0
  | []=>by simp
  | a::as=>by
    rw [List.map_cons,List.count_cons,rn c n as,List.count_cons]
    by_cases h:c≤n
    · rw [if_pos h,if_pos h]
      by_cases e:c+a=n
      · have:a=n - c:=by omega
        rw [if_pos (by simpa using e),if_pos (by simpa using this)]
      · have:¬ a=n - c:=by omega
        simp [e,this]
    · rw [if_neg h,if_neg h]
      have:¬ c+a=n:=by omega
      simp [this]
theorem ck(n:Nat)(as:List Nat):∀ cs:List Nat,(BM cs as).count n=smf (fun c=>if c≤n then as.count (n - c) else 0) cs
  | []=>rfl
  | c::cs=>by
    have:BM (c::cs) as=(as.map fun a=>c+a)++BM cs as:=rfl
    rw [this,List.count_append,rn,ck n as cs]
    rfl
theorem ME:∀ cs:List Nat,cs≠[]→∃ c∈cs,∀ d∈cs,c≤d
  | [],h=>absurd rfl h
  | [c],_=>⟨c,List.mem_singleton.mpr rfl,fun d hd=>by rw [List.mem_singleton.mp hd];exact Nat.le_refl _⟩
  | c::d::cs,_=>by
    obtain ⟨m,hm,h⟩:=ME (d::cs) (by simp)
    by_cases e:c≤m
    · refine ⟨c,List.mem_cons_self,fun x hx=>?_⟩
      rcases List.mem_cons.mp hx with rfl | hx
      · exact Nat.le_refl _
      · exact Nat.le_trans e (h x hx)
    · refine ⟨m,List.mem_cons_of_mem _ hm,fun x hx=>?_⟩
      rcases List.mem_cons.mp hx with rfl | hx
      · omega
      · exact h x hx
theorem CN{cs as bs:List Nat}(hc:cs≠[])(h:(BM cs as).Perm (BM cs bs)):as.Perm bs:=by
  obtain ⟨c0,hm,hl⟩:=ME cs hc
  refine List.perm_iff_count.mpr fun m=>?_
  induction m using Nat.strongRecOn with
  | ind m ih=>
    have h1:=List.perm_iff_count.mp h (c0+m)
    rw [ck,ck] at h1
    have h2:=Ai (f:=fun c=>if c≤c0+m then as.count (c0+m - c) else 0) (g:=fun c=>if c≤c0+m then bs.count (c0+m - c) else 0) c0 cs (fun c hcm hne=>by
      have:=hl c hcm
      by_cases e:c≤c0+m
      · rw [if_pos e,if_pos e]
        exact ih (c0+m - c) (by omega)
      · rw [if_neg e,if_neg e])
    rw [h1] at h2
    have h3:=Nat.add_left_cancel h2
    simp only [Nat.le_add_right,if_true,Nat.add_sub_cancel_left] at h3
    exact (Nat.eq_of_mul_eq_mul_left (List.count_pos_iff.mpr hm) h3).symm
inductive Kd where
  | none
  | one
  | name (i:Int)
  | either (a b:Kd)
  | both (a b:Kd)
def enc:Kd→PyData
  | .none=>.tuple [.str "none"]
  | .one=>.tuple [.str "one"]
  | .name i=>.tuple [.str "name",.int i]
  | .either a b=>.tuple [.str "either",enc a,enc b]
  | .both a b=>.tuple [.str "both",enc a,enc b]
def Kd.leaves:Kd→Nat
  | .either a b=>a.leaves+b.leaves
  | .both a b=>a.leaves+b.leaves
  | _=>1
def Kd.Ok:Kd→Prop
  | .name i=>0≤i∧i≤3
  | .either a b=>a.Ok∧b.Ok
  | .both a b=>a.Ok∧b.Ok
  | _=>True
theorem Kd.pos:∀ k:Kd,1≤k.leaves
  | .none=>Nat.le_refl _
  | .one=>Nat.le_refl _
  | .name _=>Nat.le_refl _
  | .either a b=>by have:=a.pos;simp only [leaves];omega
  | .both a b=>by have:=a.pos;simp only [leaves];omega
theorem qv:∀ k:Kd,lf (enc k)=true
  | .none=>rfl
  | .one=>rfl
  | .name _=>rfl
  | .either a b=>by simp [enc,lf,lfs,qv a,qv b]
  | .both a b=>by simp [enc,lf,lfs,qv a,qv b]
theorem Ds:PyData.strOk "none" =true:=by decide +kernel
theorem Fk:PyData.strOk "one" =true:=by decide +kernel
theorem Gq:PyData.strOk "name" =true:=by decide +kernel
theorem n9:PyData.strOk "either" =true:=by decide +kernel
theorem Cs:PyData.strOk "both" =true:=by decide +kernel
theorem mz:∀ k:Kd,(enc k).canLay0=true
  | .none=>by simp [enc,PyData.canLay0,PyData.canLayAll0,Ds]
  | .one=>by simp [enc,PyData.canLay0,PyData.canLayAll0,Fk]
  | .name _=>by simp [enc,PyData.canLay0,PyData.canLayAll0,Gq]
  | .either a b=>by simp [enc,PyData.canLay0,PyData.canLayAll0,n9,mz a,mz b]
  | .both a b=>by simp [enc,PyData.canLay0,PyData.canLayAll0,Cs,mz a,mz b]
theorem b7:∀ k:Kd,(enc k).depth≤k.leaves
  | .none=>by simp [enc,PyData.depth,PyData.depthAll,Kd.leaves]
  | .one=>by simp [enc,PyData.depth,PyData.depthAll,Kd.leaves]
  | .name _=>by simp [enc,PyData.depth,PyData.depthAll,Kd.leaves]
  | .either a b=>by
    have:=b7 a;have:=b7 b;have:=a.pos;have:=b.pos
    simp [enc,PyData.depth,PyData.depthAll,Kd.leaves];omega
  | .both a b=>by
    have:=b7 a;have:=b7 b;have:=a.pos;have:=b.pos
    simp [enc,PyData.depth,PyData.depthAll,Kd.leaves];omega
theorem w01:(("either":Str) == "none")=false:=by decide +kernel
theorem w02:(("either":Str) == "one")=false:=by decide +kernel
theorem w03:(("either":Str) == "name")=false:=by decide +kernel
theorem w04:(("both":Str) == "none")=false:=by decide +kernel
theorem w05:(("both":Str) == "one")=false:=by decide +kernel
theorem w06:(("both":Str) == "name")=false:=by decide +kernel
theorem w07:(("both":Str) == "either")=false:=by decide +kernel
theorem w08:(("one":Str) == "none")=false:=by decide +kernel
theorem w09:(("name":Str) == "none")=false:=by decide +kernel
theorem w10:(("name":Str) == "one")=false:=by decide +kernel
theorem w11:(("none":Str) == "one")=false:=by decide +kernel
theorem w12:(("either":Str) == "both")=false:=by decide +kernel
theorem w13:(("none":Str) == "either")=false:=by decide +kernel
theorem w14:(("none":Str) == "both")=false:=by decide +kernel
theorem w15:(("one":Str) == "either")=false:=by decide +kernel
theorem w16:(("one":Str) == "both")=false:=by decide +kernel
theorem w17:(("name":Str) == "either")=false:=by decide +kernel
theorem w18:(("name":Str) == "both")=false:=by decide +kernel
theorem qo(l:List (List Int)):(ql xa l).Perm l:=by
  rw [show (xa:List Int→List Int→Bool)=HT.lexLt from funext fun a=>funext fun b=>am a b]
  exact xx (O:=rowOrd) l
theorem vd{l m:List (List Int)}(h:l.Perm m):ql xa l=ql xa m:=by
  rw [show (xa:List Int→List Int→Bool)=HT.lexLt from funext fun a=>funext fun b=>am a b]
  exact ug (O:=rowOrd) ((xx (O:=rowOrd) l).trans h) (uf (O:=rowOrd) l)
theorem AC(l:List (List Int)):ql xa (ql xa l)=ql xa l:=vd (qo l)
theorem xy(l:List Int):(ql ltI l).Perm l:=xx (O:=intOrd) l
theorem ml{l m:List Int}(h:l.Perm m):ql ltI l=ql ltI m:=ug (O:=intOrd) ((xx (O:=intOrd) l).trans h) (uf (O:=intOrd) l)
theorem HC(l:List Int):(ql ltI l).length=l.length:=(xy l).length_eq
theorem wa(l:List (List Int)):(ql xa l).length=l.length:=(qo l).length_eq
def yu(x:List Int)(ys:List (List Int)):List (List Int):=ys.map fun y=>ql ltI (x++y)
def ji(xs ys:List (List Int)):List (List Int):=xs.flatMap fun x=>yu x ys
theorem Cd(xs:List (List Int)):ji xs []=[]:=by
  induction xs with
  | nil=>rfl
  | cons x xs ih=>simpa [ji,yu] using ih
theorem j0(x:List Int)(xs ys:List (List Int)):ji (x::xs) ys=yu x ys++ji xs ys:=rfl
theorem gq(xs ys:List (List Int)):(ji xs ys).length=xs.length * ys.length:=by
  induction xs with
  | nil=>simp [ji]
  | cons x xs ih=>rw [j0,List.length_append,ih,List.length_cons,Nat.succ_mul,Nat.add_comm];simp [yu]
theorem ag{xs xs' ys ys':List (List Int)}(hx:xs.Perm xs')(hy:ys.Perm ys'):(ji xs ys).Perm (ji xs' ys'):=by
  refine (hx.flatMap_right _).trans ?_
  show (ji xs' ys).Perm _
  clear hx
  induction xs' with
  | nil=>exact .refl _
  | cons x xs ih=>rw [j0,j0];exact (hy.map _).append ih
def lb:Kd→List (List Int)
  | .none=>[]
  | .one=>[[]]
  | .name i=>[[i]]
  | .either a b=>ql xa (lb a++lb b)
  | .both a b=>ql xa (ji (lb a) (lb b))
def brn:Kd→Bool
  | .none=>true
  | .one=>false
  | .name _=>false
  | .either a b=>brn a && brn b
  | .both a b=>brn a || brn b
def ga:Kd→List (List Int)
  | .none=>[]
  | .one=>[[]]
  | .name i=>[[i]]
  | .either a b=>ga a++ga b
  | .both a b=>if (brn a || brn b)=true then [] else ji (ga a) (ga b)
theorem iw:∀ k:Kd,brn k=true→lb k=[]
  | .none,_=>rfl
  | .one,h=>by cases h
  | .name _,h=>by cases h
  | .either a b,h=>by
    simp only [brn,Bool.and_eq_true] at h
    simp [lb,iw a h.1,iw b h.2,ql]
  | .both a b,h=>by
    simp only [brn,Bool.or_eq_true] at h
    rcases h with h | h
    · simp [lb,iw a h,ji,ql]
    · simp [lb,iw b h,Cd,ql]
theorem au:∀ k:Kd,(ga k).Perm (lb k)
  | .none=>.refl _
  | .one=>.refl _
  | .name _=>.refl _
  | .either a b=>((au a).append (au b)).trans (qo _).symm
  | .both a b=>by
    simp only [ga]
    split
    · rename_i h
      rw [iw (.both a b) (by simpa [brn] using h)]
    · exact (ag (au a) (au b)).trans (qo _).symm
theorem b9:∀ k:Kd,ql xa (lb k)=lb k
  | .none=>rfl
  | .one=>rfl
  | .name _=>rfl
  | .either a b=>AC _
  | .both a b=>AC _
theorem Mi(k:Kd):ql xa (ga k)=lb k:=(vd (au k)).trans (b9 k)
theorem Nr(k:Kd):(ga k).length=(lb k).length:=(au k).length_eq
def uh(n:Nat):Nat:=[0,1,2,3,4,6,9,12,18].getD n 0
theorem Hu:∀ a∈List.range 9,∀ b∈List.range 9,(a+b≤8∧1≤a∧1≤b)→uh a+uh b≤uh (a+b)∧uh a * uh b≤uh (a+b):=by decide
theorem BA(a:Nat)(ha:a≤8)(b:Nat)(hb:b≤8)(h:a+b≤8)(h1:1≤a)(h2:1≤b):uh a+uh b≤uh (a+b)∧uh a * uh b≤uh (a+b):=Hu a (List.mem_range.mpr (by omega)) b (List.mem_range.mpr (by omega)) ⟨h,h1,h2⟩
theorem E6(a:Nat)(h:a≤8):uh a≤18:=(by decide:∀ a,a < 9→uh a≤18) a (by omega)
theorem oh:∀ k:Kd,k.leaves≤8→(lb k).length≤uh k.leaves
  | .none,_=>by decide
  | .one,_=>by decide
  | .name _,_=>Nat.le_refl 1
  | .either a b,h=>by
    simp only [Kd.leaves] at h ⊢
    have pa:=a.pos;have pb:=b.pos
    have ha:=oh a (by omega);have hb:=oh b (by omega)
    have:=(BA a.leaves (by omega) b.leaves (by omega) h pa pb).1
    simp only [lb,wa,List.length_append];omega
  | .both a b,h=>by
    simp only [Kd.leaves] at h ⊢
    have pa:=a.pos;have pb:=b.pos
    have ha:=oh a (by omega);have hb:=oh b (by omega)
    have:=(BA a.leaves (by omega) b.leaves (by omega) h pa pb).2
    simp only [lb,wa,gq]
    exact Nat.le_trans (Nat.mul_le_mul ha hb) this
def Fit:Kd→Prop
  | .either a b=>Fit a∧Fit b∧(lb a).length+(lb b).length≤18
  | .both a b=>Fit a∧Fit b∧(lb a).length * (lb b).length≤18
  | _=>True
theorem io:∀ (k:Kd),Fit k→(lb k).length≤18
  | .none,_=>by simp [lb]
  | .one,_=>by simp [lb]
  | .name _,_=>by simp [lb]
  | .either a b,h=>by simp only [lb,wa,List.length_append];exact h.2.2
  | .both a b,h=>by simp only [lb,wa,gq];exact h.2.2
theorem El(k:Kd)(h:Fit k):(ga k).length≤18:=by rw [Nr];exact io k h
theorem IU:∀ (k:Kd),k.leaves≤8→Fit k
  | .none,_=>trivial
  | .one,_=>trivial
  | .name _,_=>trivial
  | .either a b,h=>by
    have h0:=Nat.le_trans (oh _ h) (E6 _ h)
    simp only [lb,wa,List.length_append] at h0
    simp only [Kd.leaves] at h
    exact ⟨IU a (by omega),IU b (by omega),h0⟩
  | .both a b,h=>by
    have h0:=Nat.le_trans (oh _ h) (E6 _ h)
    simp only [lb,wa,gq] at h0
    simp only [Kd.leaves] at h
    exact ⟨IU a (by omega),IU b (by omega),h0⟩
theorem og{xs ys:List (List Int)}{r:List Int}(h:r∈ji xs ys):∃ x∈xs,∃ y∈ys,r=ql ltI (x++y):=by
  unfold ji yu at h
  rw [List.mem_flatMap] at h
  obtain ⟨x,hx,h⟩:=h
  rw [List.mem_map] at h
  obtain ⟨y,hy,rfl⟩:=h
  exact ⟨x,hx,y,hy,rfl⟩
theorem be:∀ (k:Kd) (r:List Int),r∈lb k→r.length≤k.leaves
  | .none,r,h=>by cases h
  | .one,r,h=>by simp only [lb,List.mem_singleton] at h;subst h;simp [Kd.leaves]
  | .name _,r,h=>by simp only [lb,List.mem_singleton] at h;subst h;simp [Kd.leaves]
  | .either a b,r,h=>by
    have h':=(qo _).mem_iff.mp h
    simp only [Kd.leaves]
    rcases List.mem_append.mp h' with h' | h'
    · have:=be a r h';omega
    · have:=be b r h';omega
  | .both a b,r,h=>by
    obtain ⟨x,hx,y,hy,rfl⟩:=og ((qo _).mem_iff.mp h)
    have:=be a x hx;have:=be b y hy
    simp only [Kd.leaves,HC,List.length_append];omega
theorem IB(k:Kd)(r:List Int)(h:r∈ga k):r.length≤k.leaves:=be k r ((au k).mem_iff.mp h)
def we(rs:List (List Int)):PyData:=.list (rs.map zl)
theorem cg{rs:List (List Int)}(h:rs.length < 64):dSorted (we rs)=some (we (ql xa rs)):=FK h
theorem DF(x y:List Int)(h:x.length+y.length≤big):uj (zl x) (zl y)=some (zl (x++y)):=by
  simp [uj,zl,AN,h]
theorem A9{x:List Int}(h:x.length < 64):dSorted (zl x)=some (.list ((ql ltI x).map .int)):=Gb h
theorem DE(x:List Int):dn (.list (x.map .int))=some (zl x):=by simp [dn,AN,zl]
theorem cm:∀ (xs ys:List PyData),lfs (xs++ys)=(lfs xs && lfs ys)
  | [],ys=>by simp [lfs]
  | x::xs,ys=>by simp [lfs,cm xs ys,Bool.and_assoc]
def encP(p:List Int):PyData:=.tuple (p.map .int)
theorem xj:∀ p:List Int,lfs (p.map .int)=true
  | []=>rfl
  | _::p=>by simp [lfs,lf,xj p]
theorem my:∀ p:List Int,PyData.canLayAll0 (p.map .int)=true
  | []=>rfl
  | _::p=>by simp [PyData.canLayAll0,PyData.canLay0,my p]
theorem km(p:List Int):(encP p).canLay0=true:=by simp [encP,PyData.canLay0,my]
theorem qw(p:List Int):lf (encP p)=true:=by simp [encP,lf,xj]
theorem BG:∀ xs:List (List Int),PyData.canLayAll0 (xs.map encP)=true
  | []=>rfl
  | x::xs=>by simp [PyData.canLayAll0,km];exact BG xs
theorem BN:∀ xs:List (List Int),lfs (xs.map encP)=true
  | []=>rfl
  | x::xs=>by simp [lfs,qw];exact BN xs
theorem wd(p:List Int)(i:Int)(h:p.length≤90000):uj (encP p) (.tuple [.int i])=some (encP (p++[i])):=by
  have hb:p.length+1≤big:=by unfold big;omega
  simp [uj,encP,xj,lfs,lf,hb]
theorem IK(xs:List PyData)(h:PyData.canLayAll0 xs=true):dNe (.list xs) (.list [])=some (.bool (!xs.isEmpty)):=by
  have h1:ai (.list xs) (.list [])=true:=by
    simp [ai,PyData.canLay0,h,PyData.canLayAll0,PyData.depth,PyData.depthAll]
  cases xs<;>simp [dNe,vt,h1,PyData.eqv,PyData.eqvAll]
def wc:Kd→Int→Option Kd
  | .either a b,s=>if s=0 then some a else if s=1 then some b else none
  | .both a b,s=>if s=0 then some a else if s=1 then some b else none
  | _,_=>none
def qf:Kd→List Int→Option Kd
  | k,[]=>some k
  | k,s::p=>(wc k s).bind fun c=>qf c p
theorem at0(x:PyData)(xs:List PyData):atP (x::xs) 0=some x:=by simp [atP,ixP]
theorem at1(x y:PyData)(xs:List PyData):atP (x::y::xs) 1=some y:=by
  unfold atP ixP
  rw [if_pos (by decide),if_pos (by simp only [List.length_cons];omega)];rfl
theorem at2(x y z:PyData)(xs:List PyData):atP (x::y::z::xs) 2=some z:=by
  unfold atP ixP
  rw [if_pos (by decide),if_pos (by simp only [List.length_cons];omega)];rfl
def hd:Kd→Str
  | .none=>"none"
  | .one=>"one"
  | .name _=>"name"
  | .either _ _=>"either"
  | .both _ _=>"both"
theorem F3(k:Kd):dIx (enc k) (.int 0)=some (.str (hd k)):=by cases k<;>exact at0 _ _
theorem M1(k:Kd):PyData.strOk (hd k)=true:=by cases k<;>simp only [hd,Ds,Fk,Gq,n9,Cs]
def inn:Kd→Bool
  | .either _ _=>true
  | .both _ _=>true
  | _=>false
theorem LQ{k:Kd}(h:inn k=true):∃ a b,enc k= .tuple [.str (hd k),enc a,enc b]∧(∀ s,wc k s=if s=0 then some a else if s=1 then some b else none)∧k.leaves=a.leaves+b.leaves:=by
  cases k with
  | either a b=>exact ⟨a,b,rfl,fun s=>rfl,rfl⟩
  | both a b=>exact ⟨a,b,rfl,fun s=>rfl,rfl⟩
  | none=>cases h
  | one=>cases h
  | name _=>cases h
theorem Ib{k:Kd}(h:inn k=false)(s:Int):wc k s=none:=by cases k<;>first | rfl | cases h
theorem Di{k c:Kd}{s:Int}(h:wc k s=some c):dIx (enc k) (.int (1+s))=some (enc c)∧inn k=true∧(s=0∨s=1)∧c.leaves < k.leaves:=by
  have hi:inn k=true:=by
    cases hi:inn k with
    | true=>rfl
    | false=>rw [Ib hi] at h;cases h
  obtain ⟨a,b,e,hs,hl⟩:=LQ hi
  rw [hs] at h
  rw [e]
  have pa:=a.pos
  have pb:=b.pos
  split at h
  · rename_i h0
    cases h;subst h0
    exact ⟨at1 _ _ _,hi,.inl rfl,by omega⟩
  · split at h
    · rename_i h1
      cases h;subst h1
      exact ⟨at2 _ _ _ _,hi,.inr rfl,by omega⟩
    · cases h
theorem o3:∀ (p q:List Int) (k:Kd),qf k (p++q)=(qf k p).bind fun k'=>qf k' q
  | [],q,k=>by simp [qf]
  | s::p,q,k=>by
    simp only [List.cons_append,qf]
    cases wc k s with
    | none=>rfl
    | some c=>simp only [Option.bind_some];exact o3 p q c
theorem BP:∀ (q:List Int) (k k':Kd),qf k q=some k'→q.length+k'.leaves≤k.leaves
  | [],k,k',h=>by simp only [qf] at h;cases h;simp
  | s::q,k,k',h=>by
    simp only [qf] at h
    cases hs:wc k s with
    | none=>rw [hs] at h;cases h
    | some c=>
      rw [hs] at h
      have:=BP q c k' h
      have:=(Di hs).2.2.2
      simp only [List.length_cons]
      omega
theorem mf{tg:FT}{body:FS}{d:PyData}{ds:List PyData}{ρ ρ1 ρ2:Rho}(h1:tg d ρ=some ρ1)(h2:body ρ1=some (.next ρ2)):q8 tg body (d::ds) ρ=q8 tg body ds ρ2:=by simp [q8,h1,h2]
def AD:Kd→Option Kd
  | .either a b=>some (.either b a)
  | .both a b=>some (.both b a)
  | _=>none
def bn:Kd→Option Kd
  | .either (.either a b) c=>some (.either a (.either b c))
  | .both (.both a b) c=>some (.both a (.both b c))
  | _=>none
def g7:Kd→Option Kd
  | .both a (.either b c)=>some (.either (.both a b) (.both a c))
  | _=>none
def Ae:Kd→Option Kd
  | .either .none b=>some b
  | .both .none _=>some .none
  | .both .one b=>some b
  | _=>none
def ww(w:Str)(k:Kd):Option Kd:=
  if (w == "swap")=true then AD k else if (w == "group")=true then bn k else if (w == "spread")=true then g7 k else if (w == "drop")=true then Ae k else none
def kc:Kd→List Int→Kd→Kd
  | _,[],x=>x
  | .either a b,s::p,x=>if s=0 then .either (kc a p x) b else .either a (kc b p x)
  | .both a b,s::p,x=>if s=0 then .both (kc a p x) b else .both a (kc b p x)
  | k,_::_,_=>k
def wb(k:Kd)(w:Str)(p:List Int):Option Kd:=(qf k p).bind fun x=>(ww w x).map (kc k p)
theorem v04:(("group":Str) == "swap")=false:=by decide +kernel
theorem v05:(("group":Str) == "spread")=false:=by decide +kernel
theorem v06:(("group":Str) == "drop")=false:=by decide +kernel
theorem v07:(("spread":Str) == "swap")=false:=by decide +kernel
theorem v08:(("spread":Str) == "group")=false:=by decide +kernel
theorem v09:(("spread":Str) == "drop")=false:=by decide +kernel
theorem v10:(("drop":Str) == "swap")=false:=by decide +kernel
theorem v11:(("drop":Str) == "group")=false:=by decide +kernel
theorem v12:(("drop":Str) == "spread")=false:=by decide +kernel
theorem C7{w v:Str}(h:(w == v)=true):w=v:=by simpa using h
theorem IW(w:Str):w= "swap"∨w= "group"∨w= "spread"∨w= "drop"∨((w == "swap")=false∧(w == "group")=false∧(w == "spread")=false∧(w == "drop")=false):=by
  cases h1:w == "swap" with
  | true=>exact .inl (C7 h1)
  | false=>
    cases h2:w == "group" with
    | true=>exact .inr (.inl (C7 h2))
    | false=>
      cases h3:w == "spread" with
      | true=>exact .inr (.inr (.inl (C7 h3)))
      | false=>
        cases h4:w == "drop" with
        | true=>exact .inr (.inr (.inr (.inl (C7 h4))))
        | false=>exact .inr (.inr (.inr (.inr ⟨rfl,rfl,rfl,rfl⟩)))
theorem e7(k:Kd):ww "swap" k=AD k:=by simp [ww]
theorem i9(k:Kd):ww "group" k=bn k:=by simp only [ww,v04];simp
theorem dh(k:Kd):ww "spread" k=g7 k:=by simp only [ww,v07,v08];simp
theorem ue(k:Kd):ww "drop" k=Ae k:=by simp only [ww,v10,v11,v12];simp
theorem Cu(w:Str)(k:Kd)(h:(w == "swap")=false∧(w == "group")=false∧(w == "spread")=false∧(w == "drop")=false):ww w k=none:=by simp [ww,h.1,h.2.1,h.2.2.1,h.2.2.2]
theorem H0(w:Str)(k:Kd)(h:inn k=false):ww w k=none:=by
  unfold ww
  cases k<;>first | (cases h;done) | (simp only [AD,bn,g7,Ae];(split<;>try rfl);(split<;>try rfl);(split<;>try rfl);(split<;>rfl))
theorem L5(A:FE)(ρ ρ':Rho):zu A ρ≠some (.next ρ'):=by
  unfold zu zi
  split<;>first | (simp;done) | (dsimp only;split<;>simp)
theorem u9{c A:FE}{T:FS}{ρ:Rho}{l:Nat}(h:c ρ=some (.ok l (.bool true))):ze (sIf c (zu A) zj) T ρ=zu A ρ:=by
  have hn:=L5 A ρ
  simp only [ze,sIf,h,zi]
theorem jf{c A:FE}{T:FS}{ρ:Rho}{l:Nat}(h:c ρ=some (.ok l (.bool false))):ze (sIf c (zu A) zj) T ρ=T ρ:=by
  simp only [ze,sIf,h,zi,zj]
theorem mr{a b:FE}{ρ:Rho}{l:Nat}(h:a ρ=some (.ok l (.bool false))):kf a b ρ=some (.ok 2 (.bool false)):=by simp only [kf,h,zk]
theorem xu{a b:FE}{ρ:Rho}{l:Nat}(h:a ρ=some (.ok l (.bool true))):kf a b ρ=b ρ:=by simp only [kf,h,zk]
theorem orT{a b:FE}{ρ:Rho}{l:Nat}(h:a ρ=some (.ok l (.bool true))):eOr a b ρ=some (.ok 2 (.bool true)):=by simp only [eOr,h,zk]
theorem orF{a b:FE}{ρ:Rho}{l:Nat}(h:a ρ=some (.ok l (.bool false))):eOr a b ρ=b ρ:=by simp only [eOr,h,zk]
theorem eqT{a b:FE}{ρ:Rho}{l m:Nat}{x y:Str}(ha:a ρ=some (.ok l (.str x)))(hb:b ρ=some (.ok m (.str y))){r:Bool}(h:(x == y)=r):eEq a b ρ=some (.ok 2 (.bool r)):=by
  simp only [eEq,e2,ha,hb,zk,Bm,h,Option.map,if_true]
theorem ixT{a:FE}{ρ:Rho}{l:Nat}{x y:PyData}{i:Int}(ha:a ρ=some (.ok l x))(h:dIx x (.int i)=some y):eIx a (eC (.int i)) ρ=some (.ok (min l 2) y):=by
  simp only [eIx,e2,ha,eC,zk,h,Option.map,Bool.false_eq_true,if_false]
theorem HY{a:FE}{ρ:Rho}{l:Nat}{x:PyData}(ha:a ρ=some (.ok l x))(hl:lf x=true):zu a ρ=some (.ret x):=by
  simp only [zu,ha,zi,hl,Bool.true_or,if_true]
theorem Em{a b c:FE}{ρ:Rho}{l m n:Nat}{x y z:PyData}(ha:a ρ=some (.ok l x))(hb:b ρ=some (.ok m y))(hc:c ρ=some (.ok n z)):zm [a,b,c] ρ=some (.ok (min l (min m (min n 2))) (.tuple [x,y,z])):=by
  simp only [zm,zo,ha,hb,hc,zv]
def yf(w:Str)(p:List Int):PyData:=.tuple [.str w,encP p]
theorem Pj(x:PyData)(xs:List PyData):dIx (.tuple (x::xs)) (.int 0)=some x:=at0 x xs
theorem Fw(x y:PyData)(xs:List PyData):dIx (.tuple (x::y::xs)) (.int 1)=some y:=at1 x y xs
theorem F7(x y z:PyData)(xs:List PyData):dIx (.tuple (x::y::z::xs)) (.int 2)=some z:=at2 x y z xs
theorem oy:∀ (k:Kd) (r:List Int),r∈lb k→ql ltI r=r
  | .none,r,h=>by simp [lb] at h
  | .one,r,h=>by simp only [lb,List.mem_singleton] at h;subst h;rfl
  | .name i,r,h=>by simp only [lb,List.mem_singleton] at h;subst h;rfl
  | .either a b,r,h=>by
    rw [lb,(qo _).mem_iff,List.mem_append] at h
    rcases h with h | h
    · exact oy a r h
    · exact oy b r h
  | .both a b,r,h=>by
    rw [lb,(qo _).mem_iff] at h
    obtain ⟨x,_,y,_,rfl⟩:=og h
    exact ml (xy _)
theorem Ih(xs xs' ys:List (List Int)):ji (xs++xs') ys=ji xs ys++ji xs' ys:=by simp [ji]
theorem r9(y:List Int)(ys:List (List Int)):∀ xs:List (List Int),(ji xs (y::ys)).Perm (xs.map (fun x=>ql ltI (x++y))++ji xs ys)
  | []=>.refl _
  | x::xs=>by
    rw [j0,j0,List.map_cons,List.cons_append]
    refine List.Perm.cons _ ?_
    show (yu x ys++ji xs (y::ys)).Perm _
    refine ((r9 y ys xs).append_left _).trans ?_
    rw [← List.append_assoc,← List.append_assoc]
    exact List.perm_append_comm.append_right _
theorem Bg(xs ys:List (List Int)):∀ zs:List (List Int),(ji zs (xs++ys)).Perm (ji zs xs++ji zs ys)
  | []=>.refl _
  | z::zs=>by
    rw [j0,j0,j0]
    have e:yu z (xs++ys)=yu z xs++yu z ys:=by simp [yu]
    rw [e,List.append_assoc,List.append_assoc]
    refine List.Perm.append_left _ ?_
    refine ((Bg xs ys zs).append_left _).trans ?_
    rw [← List.append_assoc,← List.append_assoc]
    exact List.perm_append_comm.append_right _
theorem ap:∀ xs ys:List (List Int),(ji xs ys).Perm (ji ys xs)
  | [],ys=>by rw [Cd];exact .refl _
  | x::xs,ys=>by
    rw [j0]
    refine .trans ?_ (r9 x xs ys).symm
    have e:yu x ys=ys.map (fun y=>ql ltI (y++x)):=List.map_congr_left fun y _=>ml List.perm_append_comm
    rw [e]
    exact (ap xs ys).append_left _
theorem HN(x y z:List Int):ql ltI (ql ltI (x++y)++z)=ql ltI (x++ql ltI (y++z)):=by
  refine ml ?_
  refine ((xy (x++y)).append_right z).trans ?_
  rw [List.append_assoc]
  exact ((xy (y++z)).symm.append_left x)
theorem si(ys zs:List (List Int)):∀ xs:List (List Int),ji (ji xs ys) zs=ji xs (ji ys zs)
  | []=>rfl
  | x::xs=>by
    rw [j0,j0,Ih,si ys zs xs]
    congr 1
    induction ys with
    | nil=>rfl
    | cons y ys ih=>
      show yu (ql ltI (x++y)) zs++ji (yu x ys) zs=yu x (yu y zs++ji ys zs)
      rw [ih]
      have e:yu x (yu y zs++ji ys zs)=yu x (yu y zs)++yu x (ji ys zs):=by simp [yu]
      rw [e]
      congr 1
      simp only [yu,List.map_map]
      exact List.map_congr_left fun z _=>HN x y z
theorem Kh(ys:List (List Int))(h:∀ r∈ys,ql ltI r=r):yu [] ys=ys:=by
  unfold yu
  conv=>rhs;rw [← List.map_id ys]
  exact List.map_congr_left fun y hy=>h y hy
theorem Me{x y:Kd}(h:AD x=some y):lb y=lb x:=by
  cases x<;>simp only [AD,reduceCtorEq,Option.some.injEq] at h<;>subst h
  · exact vd List.perm_append_comm
  · exact vd (ap _ _)
theorem IS{x y:Kd}(h:bn x=some y):lb y=lb x:=by
  unfold bn at h
  split at h<;>simp only [reduceCtorEq,Option.some.injEq] at h<;>subst h
  · rename_i a b c
    refine vd ?_
    refine (((qo (lb b++lb c)).append_left (lb a)).trans ?_)
    rw [← List.append_assoc]
    exact (qo (lb a++lb b)).symm.append_right (lb c)
  · rename_i a b c
    refine vd ?_
    refine (ag (.refl _) (qo (ji (lb b) (lb c)))).trans ?_
    rw [← si]
    exact ag (qo (ji (lb a) (lb b))).symm (.refl _)
theorem Ir{x y:Kd}(h:g7 x=some y):lb y=lb x:=by
  unfold g7 at h
  split at h<;>simp only [reduceCtorEq,Option.some.injEq] at h
  subst h
  rename_i a b c
  refine vd ?_
  refine ((qo _).append (qo _)).trans ?_
  refine (Bg (lb b) (lb c) (lb a)).symm.trans ?_
  exact ag (.refl _) (qo (lb b++lb c)).symm
theorem Li{x y:Kd}(h:Ae x=some y):lb y=lb x:=by
  unfold Ae at h
  split at h<;>simp only [reduceCtorEq,Option.some.injEq] at h<;>subst h
  · exact (b9 _).symm
  · rfl
  · rename_i b
    show lb b=ql xa (ji [[]] (lb b))
    have e:ji [[]] (lb b)=lb b:=by
      show yu [] (lb b)++[]=lb b
      rw [List.append_nil,Kh _ (oy b)]
    rw [e,b9]
theorem Lh{w:Str}{x y:Kd}(h:ww w x=some y):lb y=lb x:=by
  unfold ww at h
  split at h
  · exact Me h
  · split at h
    · exact IS h
    · split at h
      · exact Ir h
      · split at h
        · exact Li h
        · cases h
theorem AH:∀ (p:List Int) (k x y:Kd),qf k p=some x→lb y=lb x→lb (kc k p y)=lb k
  | [],k,x,y,h,e=>by cases h;simpa [kc] using e
  | s::p,k,x,y,h,e=>by
    simp only [qf] at h
    cases hs:wc k s with
    | none=>rw [hs] at h;cases h
    | some c=>
      rw [hs] at h
      have h':qf c p=some x:=h
      cases k with
      | either a b=>
        simp only [kc]
        by_cases z:s=0
        · subst z
          have:c=a:=by simpa [wc] using hs.symm
          subst this
          rw [if_pos rfl,lb,AH p c x y h' e,lb]
        · have:c=b:=by
            unfold wc at hs
            simp only [z,if_false] at hs
            split at hs<;>simp at hs
            exact hs.symm
          subst this
          rw [if_neg z,lb,AH p c x y h' e,lb]
      | both a b=>
        simp only [kc]
        by_cases z:s=0
        · subst z
          have:c=a:=by simpa [wc] using hs.symm
          subst this
          rw [if_pos rfl,lb,AH p c x y h' e,lb]
        · have:c=b:=by
            unfold wc at hs
            simp only [z,if_false] at hs
            split at hs<;>simp at hs
            exact hs.symm
          subst this
          rw [if_neg z,lb,AH p c x y h' e,lb]
      | none=>simp [wc] at hs
      | one=>simp [wc] at hs
      | name i=>simp [wc] at hs
theorem K6{k k':Kd}{w:Str}{p:List Int}(h:wb k w p=some k'):lb k'=lb k:=by
  unfold wb at h
  cases hp:qf k p with
  | none=>rw [hp] at h;cases h
  | some x=>
    rw [hp] at h
    cases hw:ww w x with
    | none=>simp [hw] at h
    | some y=>
      simp only [Option.bind_some,hw,Option.map_some,Option.some.injEq] at h
      rw [← h]
      exact AH p k x y hp (Lh hw)
theorem AZ:∀ k:Kd,brn k=false→lb k≠[]
  | .none,h=>by cases h
  | .one,_=>by simp [lb]
  | .name _,_=>by simp [lb]
  | .either a b,h=>fun z=>by
    have l:=congrArg List.length z
    simp only [lb,wa,List.length_append,List.length_nil] at l
    simp only [brn,Bool.and_eq_false_iff] at h
    rcases h with h | h
    · exact AZ a h (List.length_eq_zero_iff.mp (by omega))
    · exact AZ b h (List.length_eq_zero_iff.mp (by omega))
  | .both a b,h=>fun z=>by
    have l:=congrArg List.length z
    simp only [lb,wa,gq,List.length_nil] at l
    simp only [brn,Bool.or_eq_false_iff] at h
    rcases Nat.mul_eq_zero.mp l with e | e
    · exact AZ a h.1 (List.length_eq_zero_iff.mp e)
    · exact AZ b h.2 (List.length_eq_zero_iff.mp e)
def wt:List Int→Nat
  | []=>0
  | x::xs=>1000 ^ x.toNat+wt xs
theorem K2:∀ x y:List Int,wt (x++y)=wt x+wt y
  | [],y=>by simp [wt]
  | a::x,y=>by simp only [List.cons_append,wt,K2 x y];omega
theorem L4{x y:List Int}(h:x.Perm y):wt x=wt y:=by
  induction h with
  | nil=>rfl
  | cons a _ ih=>simp only [wt,ih]
  | swap a b l=>simp only [wt];omega
  | trans _ _ h1 h2=>exact h1.trans h2
def In4(r:List Int):Prop:=∀ x∈r,x=0∨x=1∨x=2∨x=3
theorem o8:∀ r:List Int,In4 r→wt r=r.count 0+1000 * r.count 1+1000000 * r.count 2+1000000000 * r.count 3
  | [],_=>rfl
  | x::r,h=>by
    have ih:=o8 r (fun y hy=>h y (List.mem_cons_of_mem _ hy))
    simp only [wt,ih,List.count_cons]
    rcases h x List.mem_cons_self with rfl | rfl | rfl | rfl<;>simp<;>omega
theorem Kb{x y:List Int}(hx:In4 x)(hy:In4 y)(lx:x.length < 1000)(ly:y.length < 1000)(sx:ql ltI x=x)(sy:ql ltI y=y)(h:wt x=wt y):x=y:=by
  rw [o8 x hx,o8 y hy] at h
  have c:∀ (r:List Int) (a:Int),r.count a≤r.length:=fun r a=>List.count_le_length
  have x0:=c x 0;have x1:=c x 1;have x2:=c x 2;have x3:=c x 3
  have y0:=c y 0;have y1:=c y 1;have y2:=c y 2;have y3:=c y 3
  have p:x.Perm y:=List.perm_iff_count.mpr fun a=>by
    by_cases e0:a=0
    · subst e0;omega
    by_cases e1:a=1
    · subst e1;omega
    by_cases e2:a=2
    · subst e2;omega
    by_cases e3:a=3
    · subst e3;omega
    · rw [List.count_eq_zero.mpr (fun z=>?_),List.count_eq_zero.mpr (fun z=>?_)]
      · rcases hy a z with z | z | z | z
        · exact e0 z
        · exact e1 z
        · exact e2 z
        · exact e3 z
      · rcases hx a z with z | z | z | z
        · exact e0 z
        · exact e1 z
        · exact e2 z
        · exact e3 z
  rw [← sx,← sy]
  exact ml p
theorem Go(x:List Int):∀ ys:List (List Int),(yu x ys).map wt=(ys.map wt).map fun a=>wt x+a
  | []=>rfl
  | y::ys=>by
    have ih:=Go x ys
    have e:wt (ql ltI (x++y))=wt x+wt y:=(L4 (xy _)).trans (K2 x y)
    simp only [yu,List.map_cons,e] at ih ⊢
    rw [ih]
theorem AO(ys:List (List Int)):∀ xs:List (List Int),(ji xs ys).map wt=BM (xs.map wt) (ys.map wt)
  | []=>rfl
  | x::xs=>by
    have ih:=AO ys xs
    rw [j0,List.map_append,Go,ih]
    rfl
theorem AB{a:List Int}:∀ {A:List (List Int)},(∀ x∈A,wt x=wt a→x=a)→(A.map wt).count (wt a)=A.count a
  | [],_=>rfl
  | x::A,h=>by
    have ih:=AB (A:=A) (fun y hy=>h y (List.mem_cons_of_mem _ hy))
    rw [List.map_cons,List.count_cons,List.count_cons,ih]
    by_cases e:x=a
    · subst e;simp
    · have:¬ wt x=wt a:=fun z=>e (h x List.mem_cons_self z)
      simp [e,this]
def F6(A:List (List Int)):Prop:=∀ r∈A,In4 r∧r.length < 1000∧ql ltI r=r
theorem Ld{A B:List (List Int)}(hA:F6 A)(hB:F6 B)(h:(A.map wt).Perm (B.map wt)):A.Perm B:=by
  refine List.perm_iff_count.mpr fun a=>?_
  by_cases ha:a∈A∨a∈B
  · have na:In4 a∧a.length < 1000∧ql ltI a=a:=ha.elim (hA a) (hB a)
    have e1:=AB (a:=a) (A:=A) fun x hx e=>Kb (hA x hx).1 na.1 (hA x hx).2.1 na.2.1 (hA x hx).2.2 na.2.2 e
    have e2:=AB (a:=a) (A:=B) fun x hx e=>Kb (hB x hx).1 na.1 (hB x hx).2.1 na.2.1 (hB x hx).2.2 na.2.2 e
    rw [← e1,← e2]
    exact List.perm_iff_count.mp h _
  · rw [List.count_eq_zero.mpr (fun z=>ha (.inl z)),List.count_eq_zero.mpr (fun z=>ha (.inr z))]
theorem CW{C A B:List (List Int)}(hC:C≠[])(hA:F6 A)(hB:F6 B)(h:(ji C A).Perm (ji C B)):A.Perm B:=by
  refine Ld hA hB (CN (cs:=C.map wt) (by simpa using hC) ?_)
  rw [← AO,← AO]
  exact h.map wt
theorem CL{a b:Kd}(h:(lb a).Perm (lb b)):lb a=lb b:=by
  rw [← b9 a,← b9 b]
  exact vd h
theorem Fo(a b c:Kd):lb (.either a c)=lb (.either c b)↔lb a=lb b:=by
  simp only [lb]
  constructor
  · intro h
    have p:(lb a++lb c).Perm (lb c++lb b):=(qo _).symm.trans (h ▸ qo _)
    have q:(lb c++lb a).Perm (lb c++lb b):=List.perm_append_comm.trans p
    exact CL ((List.perm_append_left_iff _).mp q)
  · intro h
    rw [h]
    exact vd List.perm_append_comm
theorem Kq{a b c:Kd}(hc:lb c≠[])(hA:F6 (lb a))(hB:F6 (lb b)):lb (.both c a)=lb (.both b c)↔lb a=lb b:=by
  simp only [lb]
  constructor
  · intro h
    have p:(ji (lb c) (lb a)).Perm (ji (lb b) (lb c)):=(qo _).symm.trans (h ▸ qo _)
    exact CL (CW hc hA hB (p.trans (ap _ _)))
  · intro h
    rw [h]
    exact vd (ap _ _)
theorem E7(a b:Kd):lb (.either a b)=lb (.either b a):=by
  simp only [lb]
  exact vd List.perm_append_comm
theorem Bc:∀ (k:Kd),k.Ok→∀ r∈lb k,In4 r
  | .none,_,r,h=>by cases h
  | .one,_,r,h=>by
    simp only [lb,List.mem_singleton] at h
    subst h
    intro x hx;cases hx
  | .name i,o,r,h=>by
    simp only [lb,List.mem_singleton] at h
    subst h
    intro x hx
    have e:x=i:=by simpa using hx
    have o:0≤i∧i≤3:=o
    subst e
    omega
  | .either a b,o,r,h=>by
    rcases List.mem_append.mp ((qo _).mem_iff.mp h) with h | h
    · exact Bc a o.1 r h
    · exact Bc b o.2 r h
  | .both a b,o,r,h=>by
    obtain ⟨x,hx,y,hy,rfl⟩:=og ((qo _).mem_iff.mp h)
    intro z hz
    rcases List.mem_append.mp ((xy _).mem_iff.mp hz) with hz | hz
    · exact Bc a o.1 x hx z hz
    · exact Bc b o.2 y hy z hz
theorem Gx{k:Kd}(o:k.Ok)(hl:k.leaves < 1000):F6 (lb k):=fun r hr=>⟨Bc k o r hr,Nat.lt_of_le_of_lt (be k r hr) hl,oy k r hr⟩
def bk:List Int→Kd
  | []=>.one
  | [n]=>.name n
  | n::m::ns=>.both (.name n) (bk (m::ns))
def pk:List (List Int)→Kd
  | []=>.none
  | [r]=>bk r
  | r::s::rs=>.either (bk r) (pk (s::rs))
def Ris(r:List Int):Prop:=r.Pairwise intOrd.kle
theorem JD{r:List Int}(h:Ris r):ql ltI r=r:=(ug (O:=intOrd) (List.Perm.refl r) h).symm
theorem Ji(r:List Int):Ris (ql ltI r):=uf (O:=intOrd) r
theorem Gz:∀ r:List Int,Ris r→lb (bk r)=[r]
  | [],_=>rfl
  | [n],_=>rfl
  | n::m::ns,h=>by
    have h':Ris (m::ns):=List.Pairwise.of_cons h
    have e:ql ltI ([n]++(m::ns))=n::m::ns:=JD h
    show ql xa (ji [[n]] (lb (bk (m::ns))))=_
    rw [Gz (m::ns) h']
    show ql xa [ql ltI ([n]++(m::ns))]=_
    rw [e];rfl
theorem Mw:∀ rs:List (List Int),(∀ r∈rs,Ris r)→lb (pk rs)=ql xa rs
  | [],_=>rfl
  | [r],h=>by show lb (bk r)=_;rw [Gz r (h r (List.mem_cons_self ..))];rfl
  | r::s::rs,h=>by
    show ql xa (lb (bk r)++lb (pk (s::rs)))=_
    rw [Gz r (h r (List.mem_cons_self ..)),Mw (s::rs) fun x hx=>h x (List.mem_cons_of_mem _ hx)]
    exact vd ((qo (s::rs)).cons r)
def nE:Kd→Nat
  | .either a b=>nE a+nE b
  | .both a b=>nE a * nE b
  | _=>1
def sE:Kd→Nat
  | .either a b=>sE a+sE b
  | .both a b=>sE a * nE b+sE b * nE a
  | _=>1
theorem dq:∀ k:Kd,1≤nE k
  | .none=>Nat.le_refl _
  | .one=>Nat.le_refl _
  | .name _=>Nat.le_refl _
  | .either a b=>by have:=dq a;simp only [nE];omega
  | .both a b=>Nat.mul_le_mul (dq a) (dq b)
theorem vi:∀ k:Kd,k.leaves≤sE k
  | .none=>Nat.le_refl _
  | .one=>Nat.le_refl _
  | .name _=>Nat.le_refl _
  | .either a b=>by have:=vi a;have:=vi b;simp only [sE,Kd.leaves];omega
  | .both a b=>by
    have h1:=vi a;have h2:=vi b
    have h3:sE a * 1≤sE a * nE b:=Nat.mul_le_mul_left _ (dq b)
    have h4:sE b * 1≤sE b * nE a:=Nat.mul_le_mul_left _ (dq a)
    simp only [sE,Kd.leaves]
    omega
theorem Nk(w:Str)(x y:Kd)(h:ww w x=some y):nE y≤nE x∧sE y≤sE x:=by
  rcases IW w with rfl | rfl | rfl | rfl | hno
  · rw [e7] at h
    cases x<;>simp [AD] at h<;>subst h<;>simp only [nE,sE]
    · omega
    · exact ⟨Nat.le_of_eq (Nat.mul_comm _ _),by omega⟩
  · rw [i9] at h
    unfold bn at h
    split at h<;>cases h<;>simp only [nE,sE]
    · omega
    · simp only [Nat.mul_add,Nat.add_mul,Nat.mul_assoc,Nat.mul_comm,Nat.mul_left_comm]
      omega
  · rw [dh] at h
    unfold g7 at h
    split at h<;>cases h
    simp only [nE,sE,Nat.mul_add,Nat.add_mul,Nat.mul_assoc,Nat.mul_comm,Nat.mul_left_comm]
    omega
  · rw [ue] at h
    unfold Ae at h
    split at h<;>cases h<;>simp only [nE,sE]
    · omega
    · have:=dq (by assumption)
      omega
    · omega
  · rw [Cu w x hno] at h;cases h
theorem Ew:∀ (p:List Int) (k x y:Kd),qf k p=some x→nE y≤nE x→sE y≤sE x→nE (kc k p y)≤nE k∧sE (kc k p y)≤sE k
  | [],k,x,y,h,h1,h2=>by simp only [qf] at h;cases h;simp only [kc];exact ⟨h1,h2⟩
  | s::p,k,x,y,h,h1,h2=>by
    simp only [qf] at h
    cases k with
    | either a b=>
      simp only [wc] at h
      simp only [kc]
      by_cases h0:s=0
      · rw [if_pos h0] at h ⊢
        have:=Ew p a x y h h1 h2
        simp only [nE,sE];omega
      · rw [if_neg h0] at h ⊢
        split at h
        · have:=Ew p b x y h h1 h2
          simp only [nE,sE];omega
        · cases h
    | both a b=>
      simp only [wc] at h
      simp only [kc]
      by_cases h0:s=0
      · rw [if_pos h0] at h ⊢
        have q:=Ew p a x y h h1 h2
        simp only [nE,sE]
        exact ⟨Nat.mul_le_mul_right _ q.1,Nat.add_le_add (Nat.mul_le_mul_right _ q.2) (Nat.mul_le_mul_left _ q.1)⟩
      · rw [if_neg h0] at h ⊢
        split at h
        · have q:=Ew p b x y h h1 h2
          simp only [nE,sE]
          exact ⟨Nat.mul_le_mul_left _ q.1,Nat.add_le_add (Nat.mul_le_mul_left _ q.1) (Nat.mul_le_mul_right _ q.2)⟩
        · cases h
    | none=>cases h
    | one=>cases h
    | name _=>cases h
theorem ix{k k':Kd}{w:Str}{p:List Int}(h:wb k w p=some k'):∃ x y,qf k p=some x∧ww w x=some y∧k'=kc k p y:=by
  unfold wb at h
  cases e:qf k p with
  | none=>rw [e] at h;cases h
  | some x=>
    rw [e] at h
    simp only [Option.bind_some] at h
    cases ey:ww w x with
    | none=>rw [ey] at h;cases h
    | some y=>rw [ey] at h;cases h;exact ⟨x,y,rfl,ey,rfl⟩
theorem Jz{k k':Kd}{w:Str}{p:List Int}(h:wb k w p=some k'):nE k'≤nE k∧sE k'≤sE k:=by
  obtain ⟨x,y,h1,h2,rfl⟩:=ix h
  have:=Nk w x y h2
  exact Ew p k x y h1 this.1 this.2
def TN:Nat→Nat
  | 1=>1 | 2=>2 | 3=>3 | 4=>4 | 5=>6 | 6=>9 | 7=>12 | _=>0
def TS:Nat→Nat
  | 1=>1 | 2=>2 | 3=>4 | 4=>8 | 5=>14 | 6=>24 | 7=>40 | _=>0
theorem tab:∀ i:Fin 8,∀ j:Fin 8,1≤i.val→1≤j.val→i.val+j.val≤7→TN i.val+TN j.val≤TN (i.val+j.val)∧TN i.val * TN j.val≤TN (i.val+j.val)∧TS i.val+TS j.val≤TS (i.val+j.val)∧TS i.val * TN j.val+TS j.val * TN i.val≤TS (i.val+j.val):=by decide
theorem E2:∀ k:Kd,k.leaves≤7→nE k≤TN k.leaves∧sE k≤TS k.leaves
  | .none,_=>⟨Nat.le_refl _,Nat.le_refl _⟩
  | .one,_=>⟨Nat.le_refl _,Nat.le_refl _⟩
  | .name _,_=>⟨Nat.le_refl _,Nat.le_refl _⟩
  | .either a b,h=>by
    have pa:=a.pos;have pb:=b.pos
    simp only [Kd.leaves] at h ⊢
    obtain ⟨a1,a2⟩:=E2 a (by omega)
    obtain ⟨b1,b2⟩:=E2 b (by omega)
    have t:=tab ⟨a.leaves,by omega⟩ ⟨b.leaves,by omega⟩ pa pb h
    simp only at t
    simp only [nE,sE]
    omega
  | .both a b,h=>by
    have pa:=a.pos;have pb:=b.pos
    simp only [Kd.leaves] at h ⊢
    obtain ⟨a1,a2⟩:=E2 a (by omega)
    obtain ⟨b1,b2⟩:=E2 b (by omega)
    have t:=tab ⟨a.leaves,by omega⟩ ⟨b.leaves,by omega⟩ pa pb h
    simp only at t
    simp only [nE,sE]
    have m1:=Nat.mul_le_mul a1 b1
    have m2:=Nat.mul_le_mul a2 b1
    have m3:=Nat.mul_le_mul b2 a1
    exact ⟨Nat.le_trans m1 t.2.1,Nat.le_trans (Nat.add_le_add m2 m3) t.2.2.2⟩
abbrev TRow:=List (Str×List Int)
def goK:Kd→TRow→Option Kd
  | k,[]=>some k
  | k,t::r=>(wb k t.1 t.2).bind fun c=>goK c r
def pfx(p:List Int)(r:TRow):TRow:=r.map fun t=>(t.1,p++t.2)
def jg(p:List Int)(r:TRow):List PyData:=r.map fun t=>yf t.1 (p++t.2)
theorem yn(p q:List Int)(r:TRow):jg p (pfx q r)=jg (p++q) r:=by
  simp only [jg,pfx,List.map_map]
  exact List.map_congr_left fun t _=>by simp [List.append_assoc]
theorem yb(p:List Int)(r s:TRow):jg p (r++s)=jg p r++jg p s:=by simp [jg]
theorem w8(p:List Int)(r:TRow):(jg p r).length=r.length:=by simp [jg]
theorem gz(p:List Int)(r:TRow):(pfx p r).length=r.length:=by simp [pfx]
theorem JI:∀ (r q:TRow) (k:Kd),goK k (r++q)=(goK k r).bind fun c=>goK c q
  | [],q,k=>rfl
  | t::r,q,k=>by
    simp only [List.cons_append,goK]
    cases wb k t.1 t.2 with
    | none=>rfl
    | some c=>exact JI r q c
theorem vj{r q:TRow}{k c d:Kd}(h:goK k r=some c)(h2:goK c q=some d):goK k (r++q)=some d:=by rw [JI,h];exact h2
theorem Kw{w:Str}{p:List Int}{k c:Kd}(h:wb k w p=some c):goK k [(w,p)]=some c:=by simp [goK,h]
theorem dj{w:Str}{k c:Kd}(h:ww w k=some c):wb k w []=some c:=by simp [wb,qf,h,kc]
theorem fh{w:Str}{k c:Kd}(h:ww w k=some c):goK k [(w,[])]=some c:=Kw (dj h)
theorem se:∀ (r:TRow) (k c:Kd),goK k r=some c→lb c=lb k
  | [],k,c,h=>by cases h;rfl
  | t::r,k,c,h=>by
    simp only [goK] at h
    cases e:wb k t.1 t.2 with
    | none=>rw [e] at h;cases h
    | some d=>rw [e] at h;exact (se r d c h).trans (K6 e)
theorem K5:∀ (r:TRow) (k c:Kd),goK k r=some c→sE c≤sE k
  | [],k,c,h=>by cases h;exact Nat.le_refl _
  | t::r,k,c,h=>by
    simp only [goK] at h
    cases e:wb k t.1 t.2 with
    | none=>rw [e] at h;cases h
    | some d=>rw [e] at h;exact Nat.le_trans (K5 r d c h) (Jz e).2
def opK:Bool→Kd→Kd→Kd
  | true,a,b=>.either a b
  | false,a,b=>.both a b
def opU:Bool→Kd
  | true=>.none
  | false=>.one
theorem Nl(e:Bool)(a b:Kd)(w:Str)(p:List Int):wb (opK e a b) w (0::p)=(wb a w p).map (opK e · b):=by
  cases e<;>simp only [wb,opK,qf,wc,if_true,Option.bind_some,kc]<;>cases qf a p<;>simp [Function.comp_def]
theorem NH(e:Bool)(a b:Kd)(w:Str)(p:List Int):wb (opK e a b) w (1::p)=(wb b w p).map (opK e a ·):=by
  cases e<;>simp only [wb,opK,qf,wc,(by decide:¬ (1:Int)=0),if_false,if_true,Option.bind_some,kc]<;>cases qf b p<;>simp [Function.comp_def]
theorem OE(e:Bool)(b:Kd):∀ (r:TRow) (a:Kd),goK (opK e a b) (pfx [0] r)=(goK a r).map (opK e · b)
  | [],a=>rfl
  | t::r,a=>by
    show (wb (opK e a b) t.1 (0::t.2)).bind (fun c=>goK c (pfx [0] r))=((wb a t.1 t.2).bind fun c=>goK c r).map (opK e · b)
    rw [Nl]
    cases wb a t.1 t.2 with
    | none=>rfl
    | some c=>exact OE e b r c
theorem Pa(e:Bool)(a:Kd):∀ (r:TRow) (b:Kd),goK (opK e a b) (pfx [1] r)=(goK b r).map (opK e a ·)
  | [],b=>rfl
  | t::r,b=>by
    show (wb (opK e a b) t.1 (1::t.2)).bind (fun c=>goK c (pfx [1] r))=((wb b t.1 t.2).bind fun c=>goK c r).map (opK e a ·)
    rw [NH]
    cases wb b t.1 t.2 with
    | none=>rfl
    | some c=>exact Pa e a r c
theorem Hy(e:Bool){a a' b:Kd}{r:TRow}(h:goK a r=some a'):goK (opK e a b) (pfx [0] r)=some (opK e a' b):=by rw [OE,h];rfl
theorem FX(e:Bool){a b b':Kd}{r:TRow}(h:goK b r=some b'):goK (opK e a b) (pfx [1] r)=some (opK e a b'):=by rw [Pa,h];rfl
theorem tv(e:Bool)(a b:Kd):ww "swap" (opK e a b)=some (opK e b a):=by rw [e7];cases e<;>rfl
theorem IZ(e:Bool)(a b c:Kd):ww "group" (opK e (opK e a b) c)=some (opK e a (opK e b c)):=by rw [i9];cases e<;>rfl
theorem tu(e:Bool)(b:Kd):ww "drop" (opK e (opU e) b)=some b:=by rw [ue];cases e<;>rfl
def xb{α:Type}(e:Bool)(f:α→Kd):List α→Kd
  | []=>opU e
  | [x]=>f x
  | x::y::r=>opK e (f x) (xb e f (y::r))
theorem oi{α:Type}(e:Bool)(f:α→Kd)(x:α){l:List α}(h:l≠[]):xb e f (x::l)=opK e (f x) (xb e f l):=by
  cases l with
  | nil=>exact absurd rfl h
  | cons y r=>rfl
theorem s9:∀ r:List Int,bk r=xb false .name r
  | []=>rfl
  | [n]=>rfl
  | n::m::ns=>by rw [bk,s9 (m::ns)];rfl
theorem tj:∀ r:List (List Int),pk r=xb true bk r
  | []=>rfl
  | [n]=>rfl
  | n::m::ns=>by rw [pk,tj (m::ns)];rfl
inductive Tr where
  | nil
  | bun (l:List Int)
  | nod (a b:Tr)
def qu:Tr→PyData
  | .nil=>.list []
  | .bun l=>zl l
  | .nod a b=>.list [qu a,qu b]
def trK:Tr→Kd
  | .nil=>.none
  | .bun l=>bk l
  | .nod a b=>.either (trK a) (trK b)
def uo:Tr→Prop
  | .nil=>False
  | .bun l=>Ris l
  | .nod a b=>uo a∧uo b
def nb:Tr→Nat
  | .nil=>0
  | .bun _=>1
  | .nod a b=>nb a+nb b
theorem vz:∀ T:Tr,uo T→1≤nb T
  | .nil,h=>h.elim
  | .bun _,_=>Nat.le_refl _
  | .nod a b,h=>by have:=vz a h.1;simp only [nb];omega
theorem B9:∀ T:Tr,uo T→(lb (trK T)).length=nb T
  | .nil,h=>h.elim
  | .bun l,h=>by simp only [trK,Gz l h];rfl
  | .nod a b,h=>by simp only [trK,lb,wa,List.length_append,B9 a h.1,B9 b h.2,nb]
theorem AJ:∀ T:Tr,(qu T).canLay0=true
  | .nil=>rfl
  | .bun l=>km l
  | .nod a b=>by simp [qu,PyData.canLay0,PyData.canLayAll0,AJ a,AJ b]
theorem Ga:∀ l:List Int,l.length≤(bk l).leaves
  | []=>Nat.zero_le _
  | [n]=>Nat.le_refl _
  | n::m::ns=>by have:=Ga (m::ns);simp only [bk,Kd.leaves,List.length_cons] at *;omega
theorem yq(p q:List Int)(w:Str)(r:TRow):jg p ((w,q)::r)=yf w (p++q)::jg p r:=rfl
theorem NL{n:Nat}(h:n≤50000):n < big:=Nat.lt_of_le_of_lt h (by decide)
theorem O8{n:Nat}(h:n≤90000):n≤wFuel:=Nat.le_trans h (by decide)
def mgL:FE:=(Ks (eIx (za 6) (eC (.int 0))) (eIx (za 5) (eC (.int 0))))
def mgC:FE:=(eOr (eGt (wm (za 5)) (eC (.int 1))) mgL)
def mgS:FS:=(ze (qx 3 (zm [(eC (.str "swap")),(za 7)])) (ze (nk 8 5) (ze (nk 5 6) (nk 6 8))))
def mgG:FS:=(ze (qx 3 (zm [(eC (.str "group")),(za 7)])) (ze (lw 4 5) (zn 7 (qc (za 7) (zm [(eC (.int 1))])))))
def mgB:FS:=(sIf mgL mgS mgG)
def mgE:FS:=(ze (bi mgC mgB) (vp 3 (qc (qc (za 4) (za 5)) (za 6))))
def mgR(s0 s1 s2:Option Slot)(ds D L R:List PyData)(h:PyData)(x8:Option Slot):Rho:=[s0,s1,s2,some (.lent ds),some (.own D),some (.own L),some (.own R),some (.loc h),x8]
section
variable(s0 s1 s2 x8:Option Slot)(ds D L R:List PyData)(a b h:PyData)
theorem My{t:Bool}(hl:Fb b a=some (.bool t)):mgL (mgR s0 s1 s2 ds D (a::L) (b::R) h x8)=some (.ok 2 (.bool t)):=by
  have e1:(eIx (za 6) (eC (.int 0))) (mgR s0 s1 s2 ds D (a::L) (b::R) h x8)=some (.ok 1 b):=by simp [eIx,e2,za,eC,mgR,zk,dIx,atP,ixP]
  have e2':(eIx (za 5) (eC (.int 0))) (mgR s0 s1 s2 ds D (a::L) (b::R) h x8)=some (.ok 1 a):=by simp [eIx,e2,za,eC,mgR,zk,dIx,atP,ixP]
  unfold mgL Ks
  unfold e2
  rw [e1,e2']
  simp only [zk,hl]
  rfl
theorem JE:(eGt (wm (za 5)) (eC (.int 1))) (mgR s0 s1 s2 ds D (a::L) R h x8)=some (.ok 2 (.bool (!L.isEmpty))):=by
  simp only [eGt,e2,wm,e1,za,eC,mgR,zk,ce,List.getElem?_cons_succ,List.getElem?_cons_zero,Option.map_some,dGt,List.length_cons,if_true]
  cases L<;>simp<;>omega
theorem LY(hl:lf h=true)(hb:ds.length < big):mgS (mgR s0 s1 s2 ds D L R h x8)=some (.next (mgR s0 s1 s2 (ds++[.tuple [.str "swap",h]]) D R L h none)):=by
  simp [mgS,ze,qx,mgR,zm,zo,eC,za,zv,zi,lf,lfs,hl,hb,nk]
theorem JX(p:List Int)(hp:p.length≤90000)(hb:ds.length < big)(hD:D.length < big)(ha:lf a=true):
    mgG (mgR s0 s1 s2 ds D (a::L) R (encP p) x8)=some (.next (mgR s0 s1 s2 (ds++[yf "group" p]) (D++[a]) L R (encP (p++[1])) x8)):=by
  have e1:=wd p 1 hp
  have l1:=qw p
  have l2:=qw (p++[1])
  simp [mgG,ze,qx,mgR,zm,zo,eC,za,zv,zi,lf,lfs,l1,l2,hb,lw,hD,ha,zn,qc,e2,zk,e1,asg,yf]
end
structure MH{α:Type}(d:α→PyData)(lt:α→α→Bool)(P:α→Prop)(S:α→α→Prop):Prop where
  hlf:∀ x,lf (d x)=true
  hlt:∀ x y,P x→P y→Fb (d x) (d y)=some (.bool (lt x y))
  asym:∀ x y,P x→P y→lt x y=true→lt y x=false
  hS:∀ x y,P x→P y→lt y x=false→S x y
  tr:∀ x y z,S x y→S y z→S x z
section
variable{α:Type}(e:Bool){d:α→PyData}(κ:α→Kd){lt:α→α→Bool}{P:α→Prop}{S:α→α→Prop}
theorem GK(M:MH d lt P S):∀ l:List α,lfs (l.map d)=true
  | []=>rfl
  | x::l=>by simp [lfs,M.hlf x,GK M l]
def MR(d:α→PyData)(S:α→α→Prop)(N w:Nat)(l r:List α):Prop:=
  ∀ (s0 s1 s2 x8:Option Slot) (ds D:List PyData) (p:List Int) (fuel:Nat),2 * N+w+1≤fuel→ds.length+2 * N+w < big→p.length+N≤90000→D.length+N≤50000→lfs D=true→
    ∃ (row:TRow) (res:List α) (D' L' R':List PyData) (h':PyData) (x8':Option Slot),
      ya mgC mgB fuel (mgR s0 s1 s2 ds D (l.map d) (r.map d) (encP p) x8)=some (.next (mgR s0 s1 s2 (ds++jg p row) D' L' R' h' x8'))∧D'++L'++R'=D++res.map d∧lfs D'=true∧lfs L'=true∧lfs R'=true∧
      goK (opK e (xb e κ l) (xb e κ r)) row=some (xb e κ res)∧res.Perm (l++r)∧(l.Pairwise S→r.Pairwise S→res.Pairwise S)∧row.length≤2 * N+w
theorem Fp{c:FE}{b:FS}{ρ:Rho}{f l:Nat}(h:c ρ=some (.ok l (.bool false))):ya c b (f+1) ρ=some (.next ρ):=by simp only [ya,h,zi]
theorem Ez{c:FE}{b:FS}{ρ ρ':Rho}{f l:Nat}(h:c ρ=some (.ok l (.bool true)))(hb:b ρ=some (.next ρ')):ya c b (f+1) ρ=ya c b f ρ':=by simp only [ya,h,zi,hb]
theorem P6{c:FE}{a b:FS}{ρ:Rho}{l:Nat}(h:c ρ=some (.ok l (.bool true))):sIf c a b ρ=a ρ:=by simp only [sIf,h,zi]
theorem PQ{c:FE}{a b:FS}{ρ:Rho}{l:Nat}(h:c ρ=some (.ok l (.bool false))):sIf c a b ρ=b ρ:=by simp only [sIf,h,zi]
theorem Ow(M:MH d lt P S)(N:Nat)(ih:∀ l r:List α,l.length+r.length≤N→l≠[]→r≠[]→(∀ x∈l,P x)→(∀ x∈r,P x)→MR e κ d S N 1 l r)
    (x y:α) (l r:List α) (hN:(x::l).length+(y::r).length≤N+1) (hl:∀ z∈x::l,P z) (hr:∀ z∈y::r,P z) (hxy:lt y x=false):MR e κ d S (N+1) 0 (x::l) (y::r):=by
  intro s0 s1 s2 x8 ds D p fuel hf hds hp hD hDl
  obtain ⟨f,rfl⟩:∃ f,fuel=f+1:=⟨fuel - 1,by omega⟩
  have px:P x:=hl x (List.mem_cons_self ..)
  have py:P y:=hr y (List.mem_cons_self ..)
  have sxy:S x y:=M.hS x y px py hxy
  have hlt:=M.hlt y x py px
  rw [hxy] at hlt
  have c1:=My s0 s1 s2 x8 ds D (l.map d) (r.map d) (d x) (d y) (encP p) hlt
  cases l with
  | nil=>
    refine ⟨[],x::y::r,D,[d x],(y::r).map d,encP p,x8,?_,by simp,hDl,by simp [lfs,M.hlf x],GK M _,rfl,.refl _,fun h1 h2=>?_,Nat.zero_le _⟩
    · rw [show ds++jg p []=ds by simp [jg]]
      refine Fp (l:=2) ?_
      have c2:=JE s0 s1 s2 x8 ds D [] ((y::r).map d) (d x) (encP p)
      exact (orF c2).trans c1
    · exact List.pairwise_cons.mpr ⟨fun z hz=>by
        rcases List.mem_cons.mp hz with rfl | hz
        · exact sxy
        · exact M.tr _ _ _ sxy ((List.pairwise_cons.mp h2).1 z hz),h2⟩
  | cons x2 l2=>
    have hb:ds.length < big:=by omega
    have g:=JX s0 s1 s2 x8 ds D ((x2::l2).map d) ((y::r).map d) (d x) p (by omega) hb (NL (by omega)) (M.hlf x)
    obtain ⟨row,res,D',L',R',h',x8',e1,e2,l1,l2',l3,e3,e4,e5,e6⟩:=ih (x2::l2) (y::r) (by simp only [List.length_cons] at hN ⊢;omega) (by simp) (by simp) (fun z hz=>hl z (List.mem_cons_of_mem _ hz)) hr
      s0 s1 s2 x8 (ds++[yf "group" p]) (D++[d x]) (p++[1]) f (by omega) (by simp only [List.length_append,List.length_singleton];omega) (by simp only [List.length_append,List.length_singleton];omega) (by simp only [List.length_append,List.length_singleton];omega) (by rw [cm,hDl];simp [lfs,M.hlf x])
    refine ⟨("group",[])::pfx [1] row,x::res,D',L',R',h',x8',?_,by rw [e2];simp,l1,l2',l3,?_,?_,fun h1 h2=>?_,by simp only [List.length_cons,gz];omega⟩
    · have c2:=JE s0 s1 s2 x8 ds D ((x2::l2).map d) ((y::r).map d) (d x) (encP p)
      have hcc:mgC (mgR s0 s1 s2 ds D ((x::x2::l2).map d) ((y::r).map d) (encP p) x8)=some (.ok 2 (.bool true)):=orT c2
      have hbb:mgB (mgR s0 s1 s2 ds D ((x::x2::l2).map d) ((y::r).map d) (encP p) x8)=some (.next (mgR s0 s1 s2 (ds++[yf "group" p]) (D++[d x]) ((x2::l2).map d) ((y::r).map d) (encP (p++[1])) x8)):=(PQ c1).trans g
      rw [Ez hcc hbb,e1]
      have:ds++jg p (("group",[])::pfx [1] row)=ds++[yf "group" p]++jg (p++[1]) row:=by
        rw [yq,yn,List.append_nil,List.append_assoc];rfl
      rw [this]
    · have hn:xb e κ (x::x2::l2)=opK e (κ x) (xb e κ (x2::l2)):=rfl
      have hres:res≠[]:=fun z=>by rw [z] at e4;exact absurd (e4.length_eq) (by simp)
      rw [hn,oi e κ x hres]
      show (wb _ "group" []).bind _=_
      rw [dj (IZ e (κ x) (xb e κ (x2::l2)) (xb e κ (y::r)))]
      exact FX e e3
    · exact e4.cons x
    · have q:=e5 (List.pairwise_cons.mp h1).2 h2
      refine List.pairwise_cons.mpr ⟨fun z hz=>?_,q⟩
      rcases List.mem_append.mp (e4.mem_iff.mp hz) with hz | hz
      · exact (List.pairwise_cons.mp h1).1 z hz
      · rcases List.mem_cons.mp hz with rfl | hz
        · exact sxy
        · exact M.tr _ _ _ sxy ((List.pairwise_cons.mp h2).1 z hz)
theorem Op(M:MH d lt P S):∀ (N:Nat) (l r:List α),l.length+r.length≤N→l≠[]→r≠[]→(∀ x∈l,P x)→(∀ x∈r,P x)→MR e κ d S N 1 l r
  | 0,l,r,h,h1,_,_,_=>absurd (List.length_eq_zero_iff.mp (by omega)) h1
  | N+1,l,r,h,h1,h2,hl,hr=>by
    obtain ⟨x,l',rfl⟩:=List.exists_cons_of_ne_nil h1
    obtain ⟨y,r',rfl⟩:=List.exists_cons_of_ne_nil h2
    have ih:=Op M N
    cases hxy:lt y x with
    | false=>
      intro s0 s1 s2 x8 ds D p fuel hf hds hp hD hDl
      obtain ⟨row,res,D',L',R',h',x8',e1,e2,l1,l2,l3,e3,e4,e5,e6⟩:=Ow e κ M N ih x y l' r' h hl hr hxy s0 s1 s2 x8 ds D p fuel (by omega) (by omega) hp hD hDl
      exact ⟨row,res,D',L',R',h',x8',e1,e2,l1,l2,l3,e3,e4,e5,by omega⟩
    | true=>
      have px:P x:=hl x (List.mem_cons_self ..)
      have py:P y:=hr y (List.mem_cons_self ..)
      have hyx:lt x y=false:=M.asym y x py px hxy
      intro s0 s1 s2 x8 ds D p fuel hf hds hp hD hDl
      obtain ⟨f,rfl⟩:∃ f,fuel=f+1:=⟨fuel - 1,by omega⟩
      have hlt:=M.hlt y x py px
      rw [hxy] at hlt
      have c1:=My s0 s1 s2 x8 ds D (l'.map d) (r'.map d) (d x) (d y) (encP p) hlt
      have c2:=JE s0 s1 s2 x8 ds D (l'.map d) ((y::r').map d) (d x) (encP p)
      have hcc:mgC (mgR s0 s1 s2 ds D ((x::l').map d) ((y::r').map d) (encP p) x8)=some (.ok 2 (.bool true)):=by
        cases hb:(!(l'.map d).isEmpty) with
        | true=>rw [hb] at c2;exact orT c2
        | false=>rw [hb] at c2;exact (orF c2).trans c1
      have g:=LY s0 s1 s2 x8 ds D ((x::l').map d) ((y::r').map d) (encP p) (qw p) (by omega)
      obtain ⟨row,res,D',L',R',h',x8',e1,e2,l1,l2,l3,e3,e4,e5,e6⟩:=Ow e κ M N ih y x r' l' (by simp only [List.length_cons] at h ⊢;omega) hr hl hyx s0 s1 s2 none (ds++[yf "swap" p]) D p f (by omega) (by simp only [List.length_append,List.length_singleton];omega) hp hD hDl
      refine ⟨("swap",[])::row,res,D',L',R',h',x8',?_,e2,l1,l2,l3,?_,e4.trans List.perm_append_comm,fun a b=>e5 b a,by simp only [List.length_cons];omega⟩
      · have hbb:mgB (mgR s0 s1 s2 ds D ((x::l').map d) ((y::r').map d) (encP p) x8)=some (.next (mgR s0 s1 s2 (ds++[yf "swap" p]) D ((y::r').map d) ((x::l').map d) (encP p) none)):=(P6 c1).trans g
        rw [Ez hcc hbb]
        refine e1.trans ?_
        have:ds++jg p (("swap",[])::row)=ds++[yf "swap" p]++jg p row:=by
          rw [yq,List.append_nil,List.append_assoc];rfl
        rw [this]
      · show (wb _ "swap" []).bind _=_
        rw [dj (tv e _ _)]
        exact e3
def G6(X:PyData)(xs:List PyData):Prop:=X= .list xs∨X= .tuple xs
theorem G5{X:PyData}{xs:List PyData}(h:G6 X xs):ce X=some (.int xs.length):=by rcases h with rfl | rfl<;>rfl
theorem D7{X:PyData}{xs:List PyData}(h:G6 X xs)(hl:lfs xs=true):Hh X=some (.list xs):=by rcases h with rfl | rfl<;>simp [Hh,hl]
theorem oj(M:MH d lt P S)(n:Nat)(l r:List α)(X Y:PyData)(p:List Int)(ds:List PyData)(hX:G6 X (l.map d))(hY:G6 Y (r.map d))(hl:∀ x∈l,P x)(hr:∀ x∈r,P x)
    (hN:l.length+r.length≤40000) (hds:ds.length+2 * (l.length+r.length)+2 < big) (hp:p.length+(l.length+r.length)≤90000):
    ∃ (row:TRow) (res:List α),ju (n+1) [X,Y,encP p] ds=some (.list (res.map d),ds++jg p row)∧goK (opK e (xb e κ l) (xb e κ r)) row=some (xb e κ res)∧res.Perm (l++r)∧(l.Pairwise S→r.Pairwise S→res.Pairwise S)∧row.length≤2 * (l.length+r.length)+1:=by
  have lp:=qw p
  have ll:=GK M l
  have lr:=GK M r
  have hx:=G5 hX
  have hy:=G5 hY
  have hx2:=D7 hX ll
  have hy2:=D7 hY lr
  rw [List.length_map] at hx hy
  by_cases h1:l=[]
  · subst h1
    refine ⟨[("drop",[])],r,?_,fh (tu e _),.refl _,fun _ h=>h,by simp⟩
    have hb:ds.length < big:=by omega
    unfold ju
    simp [qj,bq,ze,sIf,eEq,e2,wm,e1,za,eC,zk,zi,hx,CM,qx,zm,zo,zv,lf,lfs,lp,hb,vp,ro,hy2,jg,yf]
  · by_cases h2:r=[]
    · subst h2
      refine ⟨[("swap",[]),("drop",[])],l,?_,?_,by simp,fun h _=>h,by have:=List.length_pos_iff.mpr h1;simp only [List.length_cons,List.length_nil];omega⟩
      · have hb:ds.length < big:=by omega
        have hb2:ds.length+1 < big:=by omega
        have hn:((l.length:Int) == 0)=false:=by simpa using h1
        unfold ju
        simp [qj,bq,ze,sIf,eEq,e2,wm,e1,za,eC,zk,zi,hx,hy,hn,CM,qx,zm,zo,zv,lf,lfs,lp,hb,hb2,vp,ro,hx2,jg,yf,zj]
      · exact vj (fh (tv e _ _)) (fh (tu e _))
    · have hn:((l.length:Int) == 0)=false:=by simpa using h1
      have hn2:((r.length:Int) == 0)=false:=by simpa using h2
      obtain ⟨row,res,D',L',R',h',x8',e1',e2',l1,l2,l3,e3,e4,e5,e6⟩:=Op e κ M (l.length+r.length) l r (Nat.le_refl _) h1 h2 hl hr (some (.par X)) (some (.par Y)) (some (.par (encP p))) none ds [] p wFuel (O8 (by omega)) (by omega) hp (by simp only [List.length_nil];omega) rfl
      refine ⟨row,res,?_,e3,e4,e5,e6⟩
      have hlen:=congrArg List.length e2'
      simp only [List.length_append,List.length_nil,List.length_map,e4.length_eq,Nat.zero_add] at hlen
      have hbig:(40000:Nat)≤big:=by decide
      have a1:uj (.list D') (.list L')=some (.list (D'++L')):=by
        have:D'.length+L'.length≤big:=by omega
        simp [uj,l1,l2,this]
      have a2:uj (.list (D'++L')) (.list R')=some (.list (res.map d)):=by
        have:(D'++L').length+R'.length≤big:=by rw [List.length_append];omega
        have q:lfs (D'++L')=true:=by rw [cm,l1,l2];rfl
        simp only [uj,l3,q,this,decide_true,Bool.and_true,if_true]
        rw [e2']
        simp
      have hW:bi mgC mgB (mgR (some (.par X)) (some (.par Y)) (some (.par (encP p))) ds [] (l.map d) (r.map d) (encP p) none)=some (.next (mgR (some (.par X)) (some (.par Y)) (some (.par (encP p))) (ds++jg p row) D' L' R' h' x8')):=e1'
      have hE:mgE (mgR (some (.par X)) (some (.par Y)) (some (.par (encP p))) ds [] (l.map d) (r.map d) (encP p) none)=some (.retL (.list (res.map d)) (ds++jg p row)):=by
        unfold mgE
        rw [z7 hW]
        simp [vp,mgR,qc,e2,za,zk,zi,a1,a2]
      have hb:bq [some (.par X),some (.par Y),some (.par (encP p)),some (.lent ds),none,none,none,none,none]=some (.retL (.list (res.map d)) (ds++jg p row)):=by
        refine Eq.trans ?_ hE
        unfold bq
        simp only [ze,sIf,eEq,e2,wm,e1,za,eC,zk,zi,hx,hy,hn,hn2,CM,zj,zn,qp,zo,zv,ro,hx2,hy2,List.getElem?_cons_succ,List.getElem?_cons_zero,Option.map_some,if_true,lfs,asg,lf,ll,lr,lp,List.set_cons_succ,List.set_cons_zero,Bool.false_eq_true,if_false,Nat.le_refl]
        rfl
      unfold ju qj
      show (match bq [some (.par X),some (.par Y),some (.par (encP p)),some (.lent ds),none,none,none,none,none] with | some (.retL d ds')=>some (d,ds') | _=>none)=_
      rw [hb]
end
end KT
namespace KT
open PySem PySem.Spec PyProof.Rows
mutual
theorem O7:∀ x y:PyData,PyData.eqv x y=PyData.eqv y x
  | .none,y=>by cases y<;>simp [PyData.eqv]
  | .bool a,y=>by cases y<;>simp [PyData.eqv]<;>exact Bool.beq_comm
  | .int a,y=>by cases y<;>simp [PyData.eqv]<;>exact Bool.beq_comm
  | .str a,y=>by cases y<;>simp [PyData.eqv];exact Bool.beq_comm
  | .dict a,y=>by cases y<;>simp [PyData.eqv]
  | .list a,y=>by
    cases y with
    | list b=>simp only [PyData.eqv];exact JR a b
    | _=>simp [PyData.eqv]
  | .tuple a,y=>by
    cases y with
    | tuple b=>simp only [PyData.eqv];exact JR a b
    | _=>simp [PyData.eqv]
theorem JR:∀ xs ys:List PyData,PyData.eqvAll xs ys=PyData.eqvAll ys xs
  | [],ys=>by cases ys<;>rfl
  | x::xs,ys=>by
    cases ys with
    | nil=>rfl
    | cons y ys=>simp only [PyData.eqvAll];rw [O7 x y,JR xs ys]
end
mutual
theorem Oy:∀ x y:PyData,ltD x y=some true→ltD y x=some true→False
  | .none,y,h1,h2=>by cases y<;>simp [ltD] at h1
  | .bool a,y,h1,h2=>by cases y<;>simp [ltD] at h1
  | .int a,y,h1,h2=>by
    cases y with
    | int b=>simp only [ltD,Option.some.injEq,decide_eq_true_eq] at h1 h2;omega
    | _=>simp [ltD] at h1
  | .str a,y,h1,h2=>by
    cases y with
    | str b=>simp only [ltD,Option.some.injEq,decide_eq_true_eq] at h1 h2;exact List.lt_asymm h1 h2
    | _=>simp [ltD] at h1
  | .dict a,y,h1,h2=>by cases y<;>simp [ltD] at h1
  | .list a,y,h1,h2=>by cases y<;>simp [ltD] at h1
  | .tuple a,y,h1,h2=>by
    cases y with
    | tuple b=>simp only [ltD] at h1 h2;exact Mp a b h1 h2
    | _=>simp [ltD] at h1
theorem Mp:∀ xs ys:List PyData,ig xs ys=some true→ig ys xs=some true→False
  | [],ys,h1,h2=>by cases ys<;>simp [ig] at h1 h2
  | x::xs,ys,h1,h2=>by
    cases ys with
    | nil=>simp [ig] at h1
    | cons y ys=>
      simp only [ig] at h1 h2
      rw [O7 y x] at h2
      by_cases c:PyData.eqv x y=true
      · rw [if_pos c] at h1 h2;exact Mp xs ys h1 h2
      · rw [if_neg c] at h1 h2;exact Oy x y h1 h2
end
theorem rk(u v:Str)(xs ys:List PyData)(h:u=v→∃ b,ig xs ys=some b):∃ b,ltD (.tuple (.str u::xs)) (.tuple (.str v::ys))=some b:=by
  simp only [ltD,ig]
  by_cases c:PyData.eqv (.str u) (.str v)=true
  · rw [if_pos c];exact h (by simpa [PyData.eqv] using c)
  · rw [if_neg c];exact ⟨_,rfl⟩
theorem IQ{a b c d:PyData}(h1:∃ t,ltD a c=some t)(h2:∃ t,ltD b d=some t):∃ t,ig [a,b] [c,d]=some t:=by
  simp only [ig]
  split
  · split
    · exact ⟨_,rfl⟩
    · exact h2
  · exact h1
theorem Ba:∀ x y:Kd,∃ b,ltD (enc x) (enc y)=some b
  | .none,y=>by cases y<;>exact rk _ _ _ _ fun h=>by first | exact ⟨_,rfl⟩ | exact absurd h (by decide +kernel)
  | .one,y=>by cases y<;>exact rk _ _ _ _ fun h=>by first | exact ⟨_,rfl⟩ | exact absurd h (by decide +kernel)
  | .name i,y=>by
    cases y with
    | name j=>
      refine rk _ _ _ _ fun _=>?_
      simp only [ig]
      split
      · exact ⟨_,rfl⟩
      · exact ⟨_,rfl⟩
    | _=>exact rk _ _ _ _ fun h=>absurd h (by decide +kernel)
  | .either a b,y=>by
    cases y with
    | either c d=>exact rk _ _ _ _ fun _=>IQ (Ba a c) (Ba b d)
    | _=>exact rk _ _ _ _ fun h=>absurd h (by decide +kernel)
  | .both a b,y=>by
    cases y with
    | both c d=>exact rk _ _ _ _ fun _=>IQ (Ba a c) (Ba b d)
    | _=>exact rk _ _ _ _ fun h=>absurd h (by decide +kernel)
def ltK(x y:Kd):Bool:=(ltD (enc x) (enc y)).getD false
theorem LA:MH enc ltK (fun k=>k.leaves≤60) (fun _ _=>True) where
  hlf:=qv
  hlt:=fun x y hx _=>by
    obtain ⟨b,e⟩:=Ba x y
    have h:(enc x).depth≤60:=Nat.le_trans (b7 x) hx
    simp [Fb,mz,h,ltK,e]
  asym:=fun x y _ _ h=>by
    obtain ⟨b,e⟩:=Ba x y
    obtain ⟨c,f⟩:=Ba y x
    simp only [ltK,e,f,Option.getD_some] at h ⊢
    subst h
    cases c with
    | false=>rfl
    | true=>exact (Oy _ _ e f).elim
  hS:=fun _ _ _ _ _=>trivial
  tr:=fun _ _ _ _ _=>trivial
theorem Lq:MH PyData.int ltI (fun _=>True) intOrd.kle where
  hlf:=fun _=>rfl
  hlt:=fun x y _ _=>by simp [Fb,PyData.canLay0,PyData.depth,ltD,ltI]
  asym:=fun x y _ _ h=>by simp [ltI] at *;omega
  hS:=fun x y _ _ h=>h
  tr:=fun x y z h1 h2=>KeyOrd.kle_trans h1 h2
theorem DZ:∀ a b:List Int,ig (a.map .int) (b.map .int)=some (xa a b)
  | [],[]=>rfl
  | [],_::_=>rfl
  | _::_,[]=>rfl
  | x::xs,y::ys=>by
    simp only [List.map_cons,ig,xa,PyData.eqv]
    by_cases h:x=y
    · subst h;simp [DZ xs ys]
    · simp [h,ltD]
theorem Et:∀ ns:List Int,PyData.depthAll (ns.map .int)=0
  | []=>rfl
  | n::ns=>by simp [PyData.depthAll,PyData.depth,Et ns]
theorem NJ:MH zl xa (fun _=>True) rowOrd.kle where
  hlf:=fun x=>qw x
  hlt:=fun x y _ _=>by
    have h1:(zl x).canLay0=true:=km x
    have h2:(zl y).canLay0=true:=km y
    have h3:(zl x).depth≤60:=by simp only [zl,PyData.depth];rw [Et];decide
    unfold Fb
    rw [h1,h2,decide_eq_true h3]
    simp [zl,ltD,DZ]
  asym:=fun x y _ _ h=>by
    rw [am] at *
    cases c:HT.lexLt y x with
    | false=>rfl
    | true=>have:=ph x y x h c;rw [li] at this;cases this
  hS:=fun x y _ _ h=>by rw [am] at h;exact h
  tr:=fun x y z h1 h2=>KeyOrd.kle_trans h1 h2
theorem D3(a b:PyData)(h:(PyData.list [a,b]).canLay0=true):dEq (.list [a,b]) (.list [])=some (.bool false):=by
  have h1:ai (.list [a,b]) (.list [])=true:=by
    simp only [ai,h,Bool.true_and]
    simp [PyData.canLay0,PyData.canLayAll0,PyData.depth,PyData.depthAll]
  simp [dEq,vt,h1,PyData.eqv,PyData.eqvAll]
theorem Jh:dEq (.list []) (.list [])=some (.bool true):=by simp [dEq,vt,ai,PyData.canLay0,PyData.canLayAll0,PyData.depth,PyData.depthAll,PyData.eqv,PyData.eqvAll]
theorem KJ(l:List Int):dEq (zl l) (.list [])=some (.bool false):=by
  have h1:ai (zl l) (.list [])=true:=by
    simp only [ai,zl,km l,show (PyData.tuple (l.map .int)).canLay0=true from km l,Bool.true_and]
    simp [PyData.canLay0,PyData.canLayAll0,PyData.depth,PyData.depthAll]
  unfold zl at *
  simp [dEq,vt,h1,PyData.eqv]
theorem Hk(p:List Int):dEq (zl p) (.tuple [])=some (.bool p.isEmpty):=by
  have h1:ai (encP p) (.tuple [])=true:=by
    simp [ai,km,PyData.canLay0,PyData.canLayAll0,PyData.depth,PyData.depthAll];omega
  cases p<;>simp [dEq,vt,h1,PyData.eqv,PyData.eqvAll,zl]<;>simp [encP] at h1<;>simp [h1]
theorem MY(gm gi:FR)(ta tb da db dm:PyData)(p:List Int)(ds r1 r2 r3:List PyData)(hp:p.length≤90000)(ht:(PyData.list [ta,tb]).canLay0=true)
    (h1:gi [ta,encP (p++[0])] ds=some (da,r1)) (h2:gi [tb,encP (p++[1])] r1=some (db,r2)) (h3:gm [da,db,encP p] r2=some (dm,r3)):
    qj 5 (bt gm gi) [.list [ta,tb],encP p] ds=some (dm,r3):=by
  have e0:=wd p 0 hp
  have e1':=wd p 1 hp
  have l0:=qw (p++[0])
  have l1:=qw (p++[1])
  have q:=D3 ta tb ht
  simp [qj,bt,ze,sIf,eIs,e1,za,zk,zi,dIs,CQ,zj,eEq,e2,qp,zo,zv,lfs,q,wq,vv,v8,bg,vn,uu,bj,pd,mk,qc,zm,eC,e0,e1',l0,l1,h1,h2,h3,fq,ui]
theorem iu:∀ (T:Tr) (n:Nat) (p:List Int) (ds:List PyData),(uo T∨T= .nil)→nb T+1≤n→nb T≤100→ds.length+4 * (nb T * nb T)+2 < big→p.length+2 * nb T≤80000→
    ∃ (row:TRow) (L:List (List Int)),yk n [qu T,encP p] ds=some (.list (L.map zl),ds++jg p row)∧goK (trK T) row=some (pk L)∧L.Pairwise rowOrd.kle∧(∀ r∈L,Ris r)∧L.length=nb T∧row.length≤4 * (nb T * nb T)
  | .nil,n,p,ds,hF,hn,h100,hds,hp=>by
    obtain ⟨m,rfl⟩:∃ m,n=m+1:=⟨n - 1,by omega⟩
    refine ⟨[],[],?_,rfl,.nil,by simp,rfl,Nat.zero_le _⟩
    unfold yk
    simp [qj,bt,qu,jg,ze,sIf,eIs,e1,za,zk,zi,dIs,CQ,zj,eEq,e2,qp,zo,zv,lfs,Jh,vp]
  | .bun l,n,p,ds,hF,hn,h100,hds,hp=>by
    obtain ⟨m,rfl⟩:∃ m,n=m+1:=⟨n - 1,by omega⟩
    have hR:Ris l:=by rcases hF with h | h;exact h;cases h
    refine ⟨[],[l],?_,rfl,List.pairwise_singleton _ _,by simpa using hR,rfl,Nat.zero_le _⟩
    have hl:lf (zl l)=true:=qw l
    unfold zl at hl
    unfold yk
    simp [qj,bt,qu,zl,jg,ze,sIf,eIs,e1,za,zk,zi,dIs,CQ,zj,qp,zo,zv,lfs,hl,vp]
  | .nod a b,n,p,ds,hF,hn,h100,hds,hp=>by
    obtain ⟨m,rfl⟩:∃ m,n=m+1:=⟨n - 1,by omega⟩
    have hF:uo a∧uo b:=by rcases hF with h | h;exact h;cases h
    have pa:=vz a hF.1
    have pb:=vz b hF.2
    simp only [nb] at hn h100 hds hp ⊢
    have hsq:(nb a+nb b) * (nb a+nb b)=nb a * nb a+nb b * nb b+2 * (nb a * nb b):=by
      rw [Nat.add_mul,Nat.mul_add,Nat.mul_add,Nat.mul_comm (nb b) (nb a)];omega
    have hab:nb a+nb b≤nb a * nb b+1:=by
      obtain ⟨x,hx⟩:∃ x,nb a=x+1:=⟨nb a - 1,by omega⟩
      obtain ⟨y,hy⟩:∃ y,nb b=y+1:=⟨nb b - 1,by omega⟩
      rw [hx,hy,Nat.add_mul,Nat.mul_add];omega
    rw [hsq] at hds ⊢
    obtain ⟨ra,La,a1,a2,a3,a4,a5,a6⟩:=iu a m (p++[0]) ds (.inl hF.1) (by omega) (by omega) (by omega) (by simp only [List.length_append,List.length_singleton];omega)
    have hds1:(ds++jg (p++[0]) ra).length=ds.length+ra.length:=by rw [List.length_append,w8]
    obtain ⟨rb,Lb,b1,b2,b3,b4,b5,b6⟩:=iu b m (p++[1]) (ds++jg (p++[0]) ra) (.inl hF.2) (by omega) (by omega) (by rw [hds1];omega) (by simp only [List.length_append,List.length_singleton];omega)
    have hds2:(ds++jg (p++[0]) ra++jg (p++[1]) rb).length=ds.length+ra.length+rb.length:=by rw [List.length_append,w8,hds1]
    obtain ⟨k,rfl⟩:∃ k,m=k+1:=⟨m - 1,by omega⟩
    obtain ⟨rm,L,m1,m2,m3,m4,m5⟩:=oj true bk NJ k La Lb (.list (La.map zl)) (.list (Lb.map zl)) p (ds++jg (p++[0]) ra++jg (p++[1]) rb) (.inl rfl) (.inl rfl) (fun _ _=>trivial) (fun _ _=>trivial) (by rw [a5,b5];omega) (by rw [hds2,a5,b5];omega) (by rw [a5,b5];omega)
    rw [a5,b5] at m5
    refine ⟨pfx [0] ra++pfx [1] rb++rm,L,?_,?_,m4 a3 b3,fun r hr=>?_,by rw [m3.length_eq,List.length_append,a5,b5],by simp only [List.length_append,gz];omega⟩
    · unfold yk
      rw [show qu (.nod a b)= .list [qu a,qu b] from rfl]
      rw [yb,yb,yn,yn,← List.append_assoc,← List.append_assoc]
      exact MY _ _ _ _ _ _ _ p ds _ _ _ (by omega) (AJ (.nod a b)) a1 b1 m1
    · refine vj (c:=opK true (pk La) (pk Lb)) (vj (c:=opK true (pk La) (trK b)) (Hy true a2) (FX true b2)) ?_
      rw [tj,tj,tj]
      exact m2
    · rcases List.mem_append.mp (m3.mem_iff.mp hr) with h | h
      · exact a4 r h
      · exact b4 r h
theorem OK(gm gs:FR)(xs:List PyData)(S d:PyData)(p:List Int)(ds r:List PyData)(hb:ds.length < big)(h:gs [S,.list xs,encP p] (ds++[yf "swap" p])=some (d,r)):
    qj 4 (jl gm gs) [.list xs,S,encP p] ds=some (d,r):=by
  have lp:=qw p
  unfold yf at h
  simp [qj,jl,ze,sIf,eIs,e1,za,zk,zi,dIs,CQ,qx,zm,zo,zv,eC,lf,lfs,lp,hb,fq,vv,v8,bg,vn,uu,h,ui]
theorem OZ(gm gs:FR)(f xs:List PyData)(d:PyData)(p:List Int)(ds r:List PyData)(h:gs [.tuple f,.list xs,encP p] ds=some (d,r)):
    qj 4 (jl gm gs) [.tuple f,.list xs,encP p] ds=some (d,r):=by
  simp [qj,jl,ze,sIf,eIs,e1,za,zk,zi,dIs,CQ,zj,fq,vv,v8,bg,vn,uu,h,ui]
theorem Ot(gm gs:FR)(f s res:List PyData)(p:List Int)(ds r:List PyData)(hl:lfs res=true)(h:gm [.tuple f,.tuple s,encP p] ds=some (.list res,r)):
    qj 4 (jl gm gs) [.tuple f,.tuple s,encP p] ds=some (.tuple res,r):=by
  simp [qj,jl,ze,sIf,eIs,e1,za,zk,zi,dIs,CQ,zj,Do,vv,v8,bg,vn,uu,h,ui,hl]
theorem OP(gb:FR)(A S:PyData)(p:List Int)(ds:List PyData)(hb:ds.length < big)(h:dEq A (.tuple [])=some (.bool true)):
    qj 6 (ye gb) [A,S,encP p] ds=some (S,ds++[yf "drop" p]):=by
  have lp:=qw p
  simp [qj,ye,ze,sIf,eEq,e2,za,zm,zo,zv,zk,zi,h,qx,eC,lf,lfs,lp,hb,ay,vn,yf]
theorem Oz(gb:FR)(A ta tb da db:PyData)(p:List Int)(ds r1 r2:List PyData)(hp:p.length≤90000)(hb:ds.length < big)(h:dEq A (.tuple [])=some (.bool false))
    (h1:gb [A,ta,encP (p++[0])] (ds++[yf "spread" p])=some (da,r1)) (h2:gb [A,tb,encP (p++[1])] r1=some (db,r2)):
    qj 6 (ye gb) [A,.list [ta,tb],encP p] ds=some (.list [da,db],r2):=by
  have lp:=qw p
  have e0:=wd p 0 hp
  have e1':=wd p 1 hp
  have l0:=qw (p++[0])
  have l1:=qw (p++[1])
  unfold yf at h1
  simp [qj,ye,ze,sIf,eEq,e2,za,zm,zo,zv,zk,zi,h,zj,qx,eC,lf,lfs,lp,hb,wq,vv,v8,bg,vn,uu,bj,pd,mk,qc,e0,e1',l0,l1,h1,h2,B3]
def Kz(F S:Tr):Prop:=∀ (n:Nat) (p:List Int) (ds:List PyData),2 * (nb F+nb S)≤n→p.length+nb F+nb S+40≤80000→ds.length+85 * (nb F * nb S)+2 < big→
  ∃ (row:TRow) (T:Tr),z8 n [qu F,qu S,encP p] ds=some (qu T,ds++jg p row)∧goK (.both (trK F) (trK S)) row=some (trK T)∧uo T∧row.length+3≤85 * (nb F * nb S)
theorem Jl(A l r:Tr)(hA:uo A)(hl:uo l)(hr:uo r)(kl:Kz A l)(kr:Kz A r)(n:Nat)(p:List Int)(ds:List PyData)(hn:2 * (nb A+(nb l+nb r))≤n+1)(hp:p.length+nb A+(nb l+nb r)+40≤80000)
    (hds:ds.length+85 * (nb A * (nb l+nb r))+1 < big):∃ (row:TRow) (T:Tr),q9 n [qu A,qu (.nod l r),encP p] ds=some (qu T,ds++jg p row)∧goK (.both (trK A) (.either (trK l) (trK r))) row=some (trK T)∧uo T∧row.length+4≤85 * (nb A * (nb l+nb r)):=by
  obtain ⟨m,rfl⟩:∃ m,n=m+1:=⟨n - 1,by have:=vz A hA;omega⟩
  have pA:=vz A hA
  have pl:=vz l hl
  have pr:=vz r hr
  have hm:nb A * (nb l+nb r)=nb A * nb l+nb A * nb r:=Nat.mul_add _ _ _
  have m1:1≤nb A * nb l:=Nat.mul_pos pA pl
  have m2:1≤nb A * nb r:=Nat.mul_pos pA pr
  have hs:∀ (hh:dEq (qu A) (.tuple [])=some (.bool false)),∃ (row:TRow) (T:Tr),q9 (m+1) [qu A,qu (.nod l r),encP p] ds=some (qu T,ds++jg p row)∧goK (.both (trK A) (.either (trK l) (trK r))) row=some (trK T)∧uo T∧row.length+4≤85 * (nb A * (nb l+nb r)):=fun hh=>by
    rw [hm] at hds ⊢
    obtain ⟨r1,T1,a1,a2,a3,a4⟩:=kl m (p++[0]) (ds++[yf "spread" p]) (by omega) (by simp only [List.length_append,List.length_singleton];omega) (by simp only [List.length_append,List.length_singleton];omega)
    obtain ⟨r2,T2,b1,b2,b3,b4⟩:=kr m (p++[1]) (ds++[yf "spread" p]++jg (p++[0]) r1) (by omega) (by simp only [List.length_append,List.length_singleton];omega) (by simp only [List.length_append,List.length_singleton,w8];omega)
    refine ⟨("spread",[])::(pfx [0] r1++pfx [1] r2),.nod T1 T2,?_,?_,⟨a3,b3⟩,by simp only [List.length_cons,List.length_append,gz];omega⟩
    · rw [show q9 (m+1)=qj 6 (ye (z8 m)) from rfl]
      have:=Oz (z8 m) (qu A) (qu l) (qu r) (qu T1) (qu T2) p ds _ _ (by omega) (by omega) hh a1 b1
      rw [show qu (.nod l r)= .list [qu l,qu r] from rfl,this]
      rw [yq,yb,yn,yn,List.append_nil]
      simp [qu]
    · show (wb _ "spread" []).bind _=_
      rw [dj (c:=.either (.both (trK A) (trK l)) (.both (trK A) (trK r))) (by rw [dh];rfl)]
      exact vj (c:=opK true (trK T1) (.both (trK A) (trK r))) (Hy true a2) (FX true b2)
  cases A with
  | nil=>exact hA.elim
  | nod a b=>
    refine hs ?_
    have h1:ai (qu (.nod a b)) (.tuple [])=true:=by
      simp only [ai,AJ,Bool.true_and]
      simp [PyData.canLay0,PyData.canLayAll0,PyData.depth,PyData.depthAll];omega
    unfold qu at h1 ⊢
    simp [dEq,vt,h1,PyData.eqv]
  | bun f=>
    by_cases h0:f=[]
    · subst h0
      refine ⟨[("drop",[])],.nod l r,?_,fh (by rw [ue];rfl),⟨hl,hr⟩,?_⟩
      · rw [show q9 (m+1)=qj 6 (ye (z8 m)) from rfl]
        refine (OP _ _ _ p ds (by omega) (Hk [])).trans ?_
        rw [yq,List.append_nil];rfl
      · simp only [nb,List.length_singleton] at *;omega
    · refine hs ?_
      have:=Hk f
      cases f with
      | nil=>exact absurd rfl h0
      | cons x f=>exact this
theorem Ax:∀ (m:Nat) (F S:Tr),nb F+nb S≤m→uo F→uo S→(trK F).leaves+(trK S).leaves≤40→Kz F S
  | 0,F,S,h,hF,_,_=>by have:=vz F hF;omega
  | m+1,F,S,h,hF,hS,hw=>by
    intro n p ds hn hp hds
    have pF:=vz F hF
    have pS:=vz S hS
    obtain ⟨k,rfl⟩:∃ k,n=k+2:=⟨n - 2,by omega⟩
    cases F with
    | nil=>exact hF.elim
    | nod a b=>
      simp only [nb] at h hn hp hds pF ⊢
      have pa:=vz a hF.1
      have pb:=vz b hF.2
      have hm:(nb a+nb b) * nb S=nb S * (nb a+nb b):=Nat.mul_comm _ _
      have m1:1≤nb S * (nb a+nb b):=Nat.mul_pos pS pF
      rw [hm] at hds ⊢
      have wl:(trK S).leaves+(trK a).leaves≤40:=by simp only [trK,Kd.leaves] at hw;omega
      have wr:(trK S).leaves+(trK b).leaves≤40:=by simp only [trK,Kd.leaves] at hw;omega
      obtain ⟨row,T,e1,e2,e3,e4⟩:=Jl S a b hS hF.1 hF.2 (Ax m S a (by omega) hS hF.1 wl) (Ax m S b (by omega) hS hF.2 wr) (k+1) p (ds++[yf "swap" p]) (by omega) (by omega) (by simp only [List.length_append,List.length_singleton];omega)
      refine ⟨("swap",[])::row,T,?_,?_,e3,by simp only [List.length_cons];omega⟩
      · rw [show z8 (k+2)=qj 4 (jl (ju (k+1)) (q9 (k+1))) from rfl]
        have:=OK (ju (k+1)) (q9 (k+1)) [qu a,qu b] (qu S) (qu T) p ds _ (by omega) e1
        rw [show qu (.nod a b)= .list [qu a,qu b] from rfl,this,yq,List.append_nil]
        simp
      · show (wb _ "swap" []).bind _=_
        rw [dj (c:=.both (trK S) (.either (trK a) (trK b))) (by rw [e7];rfl)]
        exact e2
    | bun f=>
      cases S with
      | nil=>exact hS.elim
      | nod a b=>
        simp only [nb] at h hn hp hds pS ⊢
        have pa:=vz a hS.1
        have pb:=vz b hS.2
        have wl:(trK (.bun f)).leaves+(trK a).leaves≤40:=by simp only [trK,Kd.leaves] at hw ⊢;omega
        have wr:(trK (.bun f)).leaves+(trK b).leaves≤40:=by simp only [trK,Kd.leaves] at hw ⊢;omega
        obtain ⟨row,T,e1,e2,e3,e4⟩:=Jl (.bun f) a b hF hS.1 hS.2 (Ax m (.bun f) a (by simp only [nb];omega) hF hS.1 wl) (Ax m (.bun f) b (by simp only [nb];omega) hF hS.2 wr) (k+1) p ds (by simp only [nb];omega) (by simp only [nb];omega) (by simp only [nb];omega)
        refine ⟨row,T,?_,e2,e3,by simp only [nb] at e4;omega⟩
        rw [show z8 (k+2)=qj 4 (jl (ju (k+1)) (q9 (k+1))) from rfl]
        exact OZ (ju (k+1)) (q9 (k+1)) (f.map .int) [qu a,qu b] (qu T) p ds _ e1
      | bun s=>
        simp only [nb] at h hn hp hds pS ⊢
        have w1:=Ga f
        have w2:=Ga s
        simp only [trK] at hw
        obtain ⟨row,res,e1,e2,e3,e4,e5⟩:=oj false .name Lq k f s (zl f) (zl s) p ds (.inr rfl) (.inr rfl) (fun _ _=>trivial) (fun _ _=>trivial) (by omega) (by omega) (by omega)
        refine ⟨row,.bun res,?_,?_,e4 hF hS,by omega⟩
        · rw [show z8 (k+2)=qj 4 (jl (ju (k+1)) (q9 (k+1))) from rfl]
          exact Ot (ju (k+1)) (q9 (k+1)) (f.map .int) (s.map .int) (res.map .int) p ds _ (xj res) e1
        · show goK (.both (bk f) (bk s)) row=some (bk res)
          rw [s9,s9,s9]
          exact e2
end KT
namespace KT
open PySem
theorem gr:∀ (k:Kd) (n:Nat),k.leaves≤n→qe n [enc k]=some (.ok (.bool (brn k)))
  | .none,n+1,_=>by
    unfold qe
    simp [qt,kw,ze,zn,eIx,e2,za,eC,zk,zi,enc,dIx,atP,ixP,asg,lf,sIf,eEq,dEq,vt,zu,brn,w13,w14,zj]
  | .one,n+1,_=>by
    unfold qe
    simp [qt,kw,ze,zn,eIx,e2,za,eC,zk,zi,enc,dIx,atP,ixP,asg,lf,sIf,eEq,dEq,vt,zu,brn,w15,w16,w08,zj]
  | .name i,n+1,_=>by
    unfold qe
    simp [qt,kw,ze,zn,eIx,e2,za,eC,zk,zi,enc,dIx,atP,ixP,asg,lf,sIf,eEq,dEq,vt,zu,brn,w17,w18,w09,zj]
  | .either a b,n+1,hn=>by
    have pa:=a.pos
    have pb:=b.pos
    simp only [Kd.leaves] at hn
    have ea:=gr a n (by omega)
    have eb:=gr b n (by omega)
    have e0:atP [PyData.str "either",enc a,enc b] 0=some (.str "either"):=rfl
    have e1:atP [PyData.str "either",enc a,enc b] 1=some (enc a):=rfl
    have e2':atP [PyData.str "either",enc a,enc b] 2=some (enc b):=rfl
    unfold qe
    cases ha:brn a<;>simp [qt,kw,ze,zn,eIx,e2,za,eC,zk,zi,enc,dIx,e0,e1,e2',asg,lf,sIf,eEq,dEq,vt,zu,kf,zd,zo,zv,ea,eb,j8,ha,brn]
  | .both a b,n+1,hn=>by
    have pa:=a.pos
    have pb:=b.pos
    simp only [Kd.leaves] at hn
    have ea:=gr a n (by omega)
    have eb:=gr b n (by omega)
    have e0:atP [PyData.str "both",enc a,enc b] 0=some (.str "both"):=rfl
    have e1:atP [PyData.str "both",enc a,enc b] 1=some (enc a):=rfl
    have e2':atP [PyData.str "both",enc a,enc b] 2=some (enc b):=rfl
    unfold qe
    cases ha:brn a<;>simp [qt,kw,ze,zn,eIx,e2,za,eC,zk,zi,enc,dIx,e0,e1,e2',asg,lf,sIf,eEq,dEq,vt,zu,eOr,zd,zo,zv,ea,eb,j8,ha,brn,w07,zj]
  | .none,0,h=>by simp [Kd.leaves] at h
  | .one,0,h=>by simp [Kd.leaves] at h
  | .name _,0,h=>by simp [Kd.leaves] at h
  | .either a b,0,h=>by have:=a.pos;simp only [Kd.leaves] at h;omega
  | .both a b,0,h=>by have:=a.pos;simp only [Kd.leaves] at h;omega
end KT
namespace KT
open PySem PySem.Spec PyProof.Rows
def nf:Kd→Nat
  | .both a b=>nf a+nf b
  | _=>1
def Jm:Kd→Bool
  | .both _ _=>true
  | _=>false
theorem AX:∀ k:Kd,1≤nf k
  | .both a b=>by have:=AX a;simp only [nf];omega
  | .none=>Nat.le_refl _
  | .one=>Nat.le_refl _
  | .name _=>Nat.le_refl _
  | .either _ _=>Nat.le_refl _
theorem bz:∀ k:Kd,nf k≤k.leaves
  | .both a b=>by have:=bz a;have:=bz b;simp only [nf,Kd.leaves];omega
  | .none=>Nat.le_refl _
  | .one=>Nat.le_refl _
  | .name _=>Nat.le_refl _
  | .either a b=>Kd.pos _
def ky:List Kd→Nat
  | []=>0
  | k::r=>k.leaves+ky r
theorem du:∀ l r:List Kd,ky (l++r)=ky l+ky r
  | [],r=>by simp [ky]
  | k::l,r=>by simp only [List.cons_append,ky,du l r];omega
theorem Io{l r:List Kd}(h:l.Perm r):ky l=ky r:=by
  induction h with
  | nil=>rfl
  | cons x _ ih=>simp only [ky,ih]
  | swap x y l=>simp only [ky];omega
  | trans _ _ h1 h2=>exact h1.trans h2
theorem bw:∀ l:List Kd,l.length≤ky l
  | []=>Nat.le_refl _
  | k::l=>by have:=bw l;have:=k.pos;simp only [ky,List.length_cons];omega
theorem Ec{k:Kd}{l:List Kd}(h:k∈l):k.leaves≤ky l:=by
  induction l with
  | nil=>cases h
  | cons x l ih=>
    rcases List.mem_cons.mp h with rfl | h
    · simp only [ky];omega
    · have:=ih h;simp only [ky];omega
theorem Jg(gm gf:FR)(k:Kd)(p:List Int)(ds:List PyData)(h:Jm k=false):qj 5 (jx gm gf) [enc k,encP p] ds=some (.list [enc k],ds):=by
  have hl:=qv k
  have hw:∃ (w:Str) (xs:List PyData),enc k= .tuple (.str w::xs)∧(w == "both")=false:=by
    cases k with
    | none=>exact ⟨_,_,rfl,by decide +kernel⟩
    | one=>exact ⟨_,_,rfl,by decide +kernel⟩
    | name i=>exact ⟨_,_,rfl,by decide +kernel⟩
    | either a b=>exact ⟨_,_,rfl,by decide +kernel⟩
    | both a b=>cases h
  obtain ⟨w,xs,e,hw⟩:=hw
  rw [e] at hl ⊢
  have a0:atP (PyData.str w::xs) 0=some (.str w):=at0 _ _
  simp [qj,jx,ze,sIf,eNe,e2,eIx,za,eC,zk,zi,dIx,a0,MQ,hw,vp,qp,zo,zv,lfs,hl]
theorem Ka(gm gf:FR)(a b:Kd)(da db dm:PyData)(p:List Int)(ds r1 r2 r3:List PyData)(hp:p.length≤90000)
    (h1:gf [enc a,encP (p++[0])] ds=some (da,r1)) (h2:gf [enc b,encP (p++[1])] r1=some (db,r2)) (h3:gm [da,db,encP p] r2=some (dm,r3)):
    qj 5 (jx gm gf) [enc (.both a b),encP p] ds=some (dm,r3):=by
  have e0:=wd p 0 hp
  have e1':=wd p 1 hp
  have l0:=qw (p++[0])
  have l1:=qw (p++[1])
  have la:=qv a
  have lb':=qv b
  have a0:atP [PyData.str "both",enc a,enc b] 0=some (.str "both"):=rfl
  have a1:atP [PyData.str "both",enc a,enc b] 1=some (enc a):=rfl
  have a2:atP [PyData.str "both",enc a,enc b] 2=some (enc b):=rfl
  simp [qj,jx,enc,ze,sIf,eNe,e2,eIx,za,eC,zk,zi,dIx,a0,a1,a2,MQ,zj,wq,vv,v8,bg,vn,uu,bj,pd,mk,qc,zm,zo,zv,e0,e1',l0,l1,la,lb',h1,h2,h3,fq,ui]
theorem F5:∀ (k:Kd) (n:Nat) (p:List Int) (ds:List PyData),k.leaves≤n→k.leaves≤60→ds.length+4 * (nf k * nf k)+2 < big→p.length+2 * k.leaves≤80000→
    ∃ (row:TRow) (fs:List Kd),qg n [enc k,encP p] ds=some (.list (fs.map enc),ds++jg p row)∧goK k row=some (xb false id fs)∧fs.length=nf k∧ky fs=k.leaves∧row.length+4 * nf k≤4 * (nf k * nf k):=by
  intro k
  by_cases hk:Jm k=false
  · intro n p ds hn _ _ _
    obtain ⟨m,rfl⟩:∃ m,n=m+1:=⟨n - 1,by have:=k.pos;omega⟩
    have e1:nf k=1:=by cases k<;>first | rfl | cases hk
    refine ⟨[],[k],?_,rfl,by rw [e1];rfl,by simp [ky],by rw [e1];decide⟩
    rw [show qg (m+1)=qj 5 (jx (ju m) (qg m)) from rfl,Jg _ _ k p ds hk]
    simp [jg]
  · cases k with
    | none=>exact absurd rfl hk
    | one=>exact absurd rfl hk
    | name i=>exact absurd rfl hk
    | either a b=>exact absurd rfl hk
    | both a b=>
      intro n p ds hn h60 hds hp
      have pa:=a.pos
      have pb:=b.pos
      have na:=AX a
      have nb':=AX b
      have la:=bz a
      have lb':=bz b
      simp only [Kd.leaves,nf] at hn h60 hds hp ⊢
      obtain ⟨m,rfl⟩:∃ m,n=m+2:=⟨n - 2,by omega⟩
      have hsq:(nf a+nf b) * (nf a+nf b)=nf a * nf a+nf b * nf b+2 * (nf a * nf b):=by
        rw [Nat.add_mul,Nat.mul_add,Nat.mul_add,Nat.mul_comm (nf b) (nf a)];omega
      have hab:nf a+nf b≤nf a * nf b+1:=by
        obtain ⟨x,hx⟩:∃ x,nf a=x+1:=⟨nf a - 1,by omega⟩
        obtain ⟨y,hy⟩:∃ y,nf b=y+1:=⟨nf b - 1,by omega⟩
        rw [hx,hy,Nat.add_mul,Nat.mul_add];omega
      rw [hsq] at hds ⊢
      obtain ⟨ra,La,a1,a2,a3,a4,a5⟩:=F5 a (m+1) (p++[0]) ds (by omega) (by omega) (by omega) (by simp only [List.length_append,List.length_singleton];omega)
      have hds1:(ds++jg (p++[0]) ra).length=ds.length+ra.length:=by rw [List.length_append,w8]
      obtain ⟨rb,Lb,b1,b2,b3,b4,b5⟩:=F5 b (m+1) (p++[1]) (ds++jg (p++[0]) ra) (by omega) (by omega) (by rw [hds1];omega) (by simp only [List.length_append,List.length_singleton];omega)
      have hds2:(ds++jg (p++[0]) ra++jg (p++[1]) rb).length=ds.length+ra.length+rb.length:=by rw [List.length_append,w8,hds1]
      obtain ⟨rm,L,m1,m2,m3,m4,m5⟩:=oj false id LA m La Lb (.list (La.map enc)) (.list (Lb.map enc)) p (ds++jg (p++[0]) ra++jg (p++[1]) rb) (.inl rfl) (.inl rfl) (fun x hx=>by have:=Ec hx;rw [a4] at this;show x.leaves≤60;omega) (fun x hx=>by have:=Ec hx;rw [b4] at this;show x.leaves≤60;omega) (by rw [a3,b3];omega) (by rw [hds2,a3,b3];omega) (by rw [a3,b3];omega)
      rw [a3,b3] at m5
      refine ⟨pfx [0] ra++pfx [1] rb++rm,L,?_,?_,by rw [m3.length_eq,List.length_append,a3,b3],by rw [Io m3,du,a4,b4],by simp only [List.length_append,gz];omega⟩
      · rw [show qg (m+2)=qj 5 (jx (ju (m+1)) (qg (m+1))) from rfl]
        rw [yb,yb,yn,yn,← List.append_assoc,← List.append_assoc]
        exact Ka _ _ a b _ _ _ p ds _ _ _ (by omega) a1 b1 m1
      · exact vj (c:=opK false (xb false id La) (xb false id Lb)) (vj (c:=opK false (xb false id La) b) (Hy false a2) (FX false b2)) m2
termination_by k=>k.leaves
decreasing_by all_goals (simp only [Kd.leaves];omega)
def yt(j:Nat):List Int:=List.replicate j 1
theorem bu(j:Nat):(yt j).length=j:=by simp [yt]
theorem Iu(j:Nat):yt (j+1)=yt j++[1]:=by simp [yt,List.replicate_succ']
theorem E1(j:Nat)(h:j≤90000):EB (.tuple [.int 1]) (.int (j:Int))=some (encP (yt j)):=by
  have h1:j≤big:=Nat.le_trans h (by decide)
  have e:∀ j:Nat,(List.replicate j [PyData.int 1]).flatten=(yt j).map .int:=fun j=>by
    induction j with
    | zero=>rfl
    | succ j ih=>rw [List.replicate_succ,List.flatten_cons,ih];simp [yt,List.replicate_succ]
  have h2:([PyData.int 1].length * (j:Int).toNat≤big):=by simpa using h1
  have h3:(j:Int).natAbs≤big:=by simpa using h1
  simp [EB,lfs,lf,h1,e,encP]
theorem D2(p q:List Int)(h:p.length+q.length≤90000):uj (encP p) (encP q)=some (encP (p++q)):=by
  have hb:p.length+q.length≤big:=Nat.le_trans h (by decide)
  simp [uj,encP,xj,hb]
theorem F9{α:Type}{xs:List α}{k:Nat}{v:α}(h:xs[k]? =some v):atP xs (k:Int)=some v:=by
  have hk:k < xs.length:=(List.getElem?_eq_some_iff.mp h).1
  have:(k:Int) < xs.length:=by omega
  simp [atP,ixP,this,h]
theorem HI(n:Nat):vy (n+1)= .int n::vy n:=by
  unfold vy
  rw [List.range_succ_eq_map,List.map_cons,List.map_map]
  congr 1
  · congr 1;omega
  · exact List.map_congr_left fun a _=>by simp only [Function.comp_def];congr 1;omega
def ptB(gb gt:FR):FS:=(ze (zn 7 (qc (za 1) (nr (zm [(eC (.int 1))]) (za 6)))) (ze (wq 8 gt [.f (eIx (za 3) (za 6)),.f (qc (za 7) (zm [(eC (.int 0))]))] 2) (wq 5 gb [.n 8,.n 5,.n 7] 2)))
def ptR(K P:PyData)(ds FS:List PyData)(l:Int)(T:PyData)(x6 x7 x8:Option Slot):Rho:=[some (.par K),some (.par P),some (.lent ds),some (.par (.list FS)),some (.loc (.int l)),some (.par T),x6,x7,x8]
theorem KW(gb gt:FR)(K T x t1 t2:PyData)(p:List Int)(ds r1 r2 FS:List PyData)(l:Int)(j:Nat)(x7 x8:Option Slot)(hp:p.length+j≤80000)(hx:FS[j]? =some x)(lx:lf x=true)
    (h1:gt [x,encP (p++yt j++[0])] ds=some (t1,r1)) (h2:gb [t1,T,encP (p++yt j)] r1=some (t2,r2)):
    ptB gb gt (ptR K (encP p) ds FS l T (some (.loc (.int (j:Int)))) x7 x8)=some (.next (ptR K (encP p) r2 FS l t2 (some (.loc (.int (j:Int)))) (some (.loc (encP (p++yt j)))) (some (.par t1)))):=by
  have e0:=wd (p++yt j) 0 (by rw [List.length_append,bu];omega)
  have l0:=qw (p++yt j++[0])
  have l1:=qw (p++yt j)
  have m1:=E1 j (by omega)
  have c1:=D2 p (yt j) (by rw [bu];omega)
  have a1:=F9 hx
  rw [List.append_assoc] at e0 l0 h1
  simp only [ptB,ptR,ze,zn,qc,e2,za,nr,zm,zo,eC,zv,zk,zi,List.getElem?_cons_succ,List.getElem?_cons_zero,m1,c1,Option.map_some,asg,l1,if_true,List.set_cons_succ,List.set_cons_zero]
  simp [wq,vv,v8,bg,vn,uu,bj,pd,mk,qc,e2,za,zm,zo,eC,zv,zk,zi,eIx,dIx,a1,lx,e0,l0,h1,h2]
theorem Lx(gt:FR)(gi:FC)(gb gp:FR)(p:List Int)(ds:List PyData):qj 6 (jq gt gi gb gp) [enc .none,encP p] ds=some (.list [],ds):=by
  simp [qj,jq,enc,ze,zn,sIf,eIx,e2,za,eC,zk,zi,dIx,atP,ixP,asg,lf,eEq,Bm,vp,qp,zo,zv,lfs]
theorem NG(gt:FR)(gi:FC)(gb gp:FR)(p:List Int)(ds:List PyData):qj 6 (jq gt gi gb gp) [enc .one,encP p] ds=some (.tuple [],ds):=by
  simp [qj,jq,enc,ze,zn,sIf,eIx,e2,za,eC,zk,zi,dIx,atP,ixP,asg,lf,eEq,Bm,w08,zj,vp,zm,zo,zv,lfs]
theorem LK(gt:FR)(gi:FC)(gb gp:FR)(i:Int)(p:List Int)(ds:List PyData):qj 6 (jq gt gi gb gp) [enc (.name i),encP p] ds=some (.tuple [.int i],ds):=by
  simp [qj,jq,enc,ze,zn,sIf,eIx,e2,za,eC,zk,zi,dIx,atP,ixP,asg,lf,eEq,Bm,w09,w10,zj,vp,zm,zo,zv,lfs]
theorem JG(gt:FR)(gi:FC)(gb gp:FR)(a b:Kd)(d:PyData)(p:List Int)(ds r:List PyData)(hi:gi [enc (.both a b)]=some (.ok (.bool true)))(h:gb [enc (.both a b),encP p] ds=some (d,r)):
    qj 6 (jq gt gi gb gp) [enc (.both a b),encP p] ds=some (d,r):=by
  have a0:atP [PyData.str "both",enc a,enc b] 0=some (.str "both"):=rfl
  simp only [enc] at hi h
  simp [qj,jq,enc,ze,zn,sIf,eIx,e2,za,eC,zk,zi,dIx,a0,asg,lf,eEq,Bm,w04,w05,w06,zj,zd,zo,zv,hi,j8,fq,vv,v8,bg,vn,uu,h,ui]
theorem NT(gt:FR)(gi:FC)(gb gp:FR)(a b:Kd)(d:PyData)(p:List Int)(ds r:List PyData)(hi:gi [enc (.both a b)]=some (.ok (.bool false)))(h:gp [enc (.both a b),encP p] ds=some (d,r)):
    qj 6 (jq gt gi gb gp) [enc (.both a b),encP p] ds=some (d,r):=by
  have a0:atP [PyData.str "both",enc a,enc b] 0=some (.str "both"):=rfl
  simp only [enc] at hi h
  simp [qj,jq,enc,ze,zn,sIf,eIx,e2,za,eC,zk,zi,dIx,a0,asg,lf,eEq,Bm,w04,w05,w06,zj,zd,zo,zv,hi,j8,fq,vv,v8,bg,vn,uu,h,ui]
section
variable(gt:FR)(gi:FC)(gb gp:FR)(a b:Kd)(t1 t2:PyData)(p:List Int)(ds r1 r2:List PyData)(hp:p.length≤90000)
  (h1:gt [enc a,encP (p++[0])] ds=some (t1,r1)) (h2:gt [enc b,encP (p++[1])] r1=some (t2,r2))
include hp h1 h2
theorem NN(q1:dEq t1 (.list [])=some (.bool true))(hb:r2.length < big):qj 6 (jq gt gi gb gp) [enc (.either a b),encP p] ds=some (t2,r2++[yf "drop" p]):=by
  have lp:=qw p
  have e0:=wd p 0 hp
  have e1':=wd p 1 hp
  have l0:=qw (p++[0])
  have l1:=qw (p++[1])
  have la:=qv a
  have lb':=qv b
  have a0:atP [PyData.str "either",enc a,enc b] 0=some (.str "either"):=rfl
  have a1:atP [PyData.str "either",enc a,enc b] 1=some (enc a):=rfl
  have a2:atP [PyData.str "either",enc a,enc b] 2=some (enc b):=rfl
  simp [qj,jq,enc,ze,zn,sIf,eIx,e2,za,eC,zk,zi,dIx,a0,a1,a2,asg,lf,lfs,eEq,Bm,w01,w02,w03,w12,zj,wq,vv,v8,bg,vn,uu,bj,pd,mk,qc,zm,zo,zv,e0,e1',l0,l1,la,lb',h1,h2,qp,q1,qx,lp,hb,ay,yf]
theorem NZ(q1:dEq t1 (.list [])=some (.bool false))(q2:dEq t2 (.list [])=some (.bool true))(hb:r2.length < big)(hb2:r2.length+1 < big):qj 6 (jq gt gi gb gp) [enc (.either a b),encP p] ds=some (t1,r2++[yf "swap" p,yf "drop" p]):=by
  have lp:=qw p
  have e0:=wd p 0 hp
  have e1':=wd p 1 hp
  have l0:=qw (p++[0])
  have l1:=qw (p++[1])
  have la:=qv a
  have lb':=qv b
  have a0:atP [PyData.str "either",enc a,enc b] 0=some (.str "either"):=rfl
  have a1:atP [PyData.str "either",enc a,enc b] 1=some (enc a):=rfl
  have a2:atP [PyData.str "either",enc a,enc b] 2=some (enc b):=rfl
  simp [qj,jq,enc,ze,zn,sIf,eIx,e2,za,eC,zk,zi,dIx,a0,a1,a2,asg,lf,lfs,eEq,Bm,w01,w02,w03,w12,zj,wq,vv,v8,bg,vn,uu,bj,pd,mk,qc,zm,zo,zv,e0,e1',l0,l1,la,lb',h1,h2,qp,q1,q2,qx,lp,hb,hb2,ay,yf]
theorem Nm(q1:dEq t1 (.list [])=some (.bool false))(q2:dEq t2 (.list [])=some (.bool false)):qj 6 (jq gt gi gb gp) [enc (.either a b),encP p] ds=some (.list [t1,t2],r2):=by
  have lp:=qw p
  have e0:=wd p 0 hp
  have e1':=wd p 1 hp
  have l0:=qw (p++[0])
  have l1:=qw (p++[1])
  have la:=qv a
  have lb':=qv b
  have a0:atP [PyData.str "either",enc a,enc b] 0=some (.str "either"):=rfl
  have a1:atP [PyData.str "either",enc a,enc b] 1=some (enc a):=rfl
  have a2:atP [PyData.str "either",enc a,enc b] 2=some (enc b):=rfl
  simp [qj,jq,enc,ze,zn,sIf,eIx,e2,za,eC,zk,zi,dIx,a0,a1,a2,asg,lf,lfs,eEq,Bm,w01,w02,w03,w12,zj,wq,vv,v8,bg,vn,uu,bj,pd,mk,qc,zm,zo,zv,e0,e1',l0,l1,la,lb',h1,h2,qp,q1,q2,B3]
end
theorem PR(gi:FC)(gt:FR)(a b:Kd)(t:PyData)(p:List Int)(ds r:List PyData)(hp:p.length≤90000)(hi:gi [enc a]=some (.ok (.bool true)))(h:gt [enc a,encP (p++[0])] ds=some (t,r))(hb:r.length < big):
    qj 3 (vg gi gt) [enc (.both a b),encP p] ds=some (.list [],r++[yf "drop" p]):=by
  have lp:=qw p
  have e0:=wd p 0 hp
  have l0:=qw (p++[0])
  have la:=qv a
  have a1:atP [PyData.str "both",enc a,enc b] 1=some (enc a):=rfl
  simp [qj,vg,enc,ze,sIf,zd,zo,eIx,e2,za,eC,zk,zv,zi,dIx,a1,hi,j8,cw,vv,v8,bg,la,qc,zm,e0,l0,uu,h,bj,pd,mk,qx,lf,lfs,lp,hb,vp,qp,yf]
theorem Px(gi:FC)(gt:FR)(a b:Kd)(t:PyData)(p:List Int)(ds r:List PyData)(hp:p.length≤90000)(hi:gi [enc a]=some (.ok (.bool false)))(h:gt [enc b,encP (p++[1])] ds=some (t,r))(hb:r.length+1 < big):
    qj 3 (vg gi gt) [enc (.both a b),encP p] ds=some (.list [],r++[yf "swap" p,yf "drop" p]):=by
  have lp:=qw p
  have e0:=wd p 1 hp
  have l0:=qw (p++[1])
  have la:=qv b
  have hb0:r.length < big:=by omega
  have a1:atP [PyData.str "both",enc a,enc b] 1=some (enc a):=rfl
  have a2:atP [PyData.str "both",enc a,enc b] 2=some (enc b):=rfl
  simp [qj,vg,enc,ze,sIf,zd,zo,eIx,e2,za,eC,zk,zv,zi,dIx,a1,a2,hi,j8,cw,vv,v8,bg,la,qc,zm,e0,l0,uu,h,bj,pd,mk,qx,lf,lfs,lp,hb,hb0,vp,qp,yf]
def Ct(n:Nat)(k:Kd):Prop:=∀ (p:List Int) (ds:List PyData),p.length+k.leaves+200≤70000→ds.length+1700 * k.leaves < big→
  ∃ (row:TRow) (T:Tr),jm n [enc k,encP p] ds=some (qu T,ds++jg p row)∧goK k row=some (trK T)∧(uo T∨T= .nil)∧row.length+1700≤1700 * k.leaves
theorem GF{k:Kd}{row:TRow}{T:Tr}(h:goK k row=some (trK T))(hT:uo T∨T= .nil)(hl:lb k≠[]):uo T:=by
  rcases hT with h1 | h1
  · exact h1
  · subst h1
    have:=se row k _ h
    exact absurd this.symm hl
theorem Ku{k:Kd}{row:TRow}{T:Tr}(h:goK k row=some (trK T))(hT:uo T∨T= .nil)(hl:lb k=[]):T= .nil:=by
  rcases hT with h1 | h1
  · have e:=se row k _ h
    have:=B9 T h1
    have:=vz T h1
    rw [e,hl] at *
    simp at *
    omega
  · exact h1
structure GoodL(l:List Kd):Prop where
  s:sE (xb false id l)≤40
  ne:lb (xb false id l)≠[]
  b:(lb (xb false id l)).length≤18
theorem Gr{a b:Nat}(ha:1≤a)(hb:1≤b):a≤a * b∧b≤a * b∧a+b≤a * b+1:=by
  obtain ⟨x,hx⟩:∃ x,a=x+1:=⟨a - 1,by omega⟩
  obtain ⟨y,hy⟩:∃ y,b=y+1:=⟨b - 1,by omega⟩
  subst hx hy
  rw [Nat.add_mul,Nat.mul_add]
  omega
theorem LN{a b:Kd}(h:lb (.both a b)≠[]):lb a≠[]∧lb b≠[]∧(lb (.both a b)).length=(lb a).length * (lb b).length:=by
  have l:(lb (.both a b)).length=(lb a).length * (lb b).length:=by simp only [lb,wa,gq]
  have h0:(lb (.both a b)).length≠0:=fun z=>h (List.length_eq_zero_iff.mp z)
  refine ⟨fun z=>h0 (by rw [l,z];simp),fun z=>h0 (by rw [l,z];simp),l⟩
theorem G4(a b:Kd):sE a≤sE (.both a b)∧sE b≤sE (.both a b):=by
  have pa:=dq a
  have pb:=dq b
  have h1:sE a * 1≤sE a * nE b:=Nat.mul_le_mul_left _ pb
  have h2:sE b * 1≤sE b * nE a:=Nat.mul_le_mul_left _ pa
  simp only [sE]
  omega
theorem HX{a b:Kd}(s:sE (.both a b)≤40)(ne:lb (.both a b)≠[])(hb:(lb (.both a b)).length≤18):
    (sE a≤40∧lb a≠[]∧(lb a).length≤18)∧(sE b≤40∧lb b≠[]∧(lb b).length≤18):=by
  obtain ⟨na,nb',l⟩:=LN ne
  have pa:=List.length_pos_iff.mpr na
  have pb:=List.length_pos_iff.mpr nb'
  have t:=Gr pa pb
  have:=G4 a b
  exact ⟨⟨by omega,na,by omega⟩,⟨by omega,nb',by omega⟩⟩
theorem pj{x:Kd}{l:List Kd}(h:GoodL (x::l))(hl:l≠[]):GoodL l∧(sE x≤40∧lb x≠[]∧(lb x).length≤18):=by
  obtain ⟨s,ne,b⟩:=h
  rw [oi false id x hl] at s ne b
  obtain ⟨h1,h2⟩:=HX s ne b
  exact ⟨⟨h2.1,h2.2.1,h2.2.2⟩,h1⟩
theorem lz:∀ (hd tl:List Kd),GoodL (hd++tl)→tl≠[]→GoodL tl
  | [],tl,h,_=>h
  | x::hd,tl,h,hl=>lz hd tl (pj (l:=hd++tl) h (by simp [hl])).1 hl
theorem IL(n:Nat)(hn:38≤n)(x:Kd)(tl:List Kd)(hg:GoodL (x::tl))(ht:tl≠[])(hx:Ct n x)(p:List Int)(j:Nat)(hp:p.length+j+x.leaves+201≤70000)(ds:List PyData)(row:TRow)(T:Tr)(hT:uo T)
    (hgo:goK (xb false id tl) row=some (trK T)) (hds:ds.length+row.length+1700 * x.leaves < big):
    ∃ (r1 rb:TRow) (T1 T2:Tr),jm n [enc x,encP (p++yt j++[0])] (ds++jg (p++yt j++[1]) row)=some (qu T1,ds++jg (p++yt j++[1]) row++jg (p++yt j++[0]) r1)∧
      z8 n [qu T1,qu T,encP (p++yt j)] (ds++jg (p++yt j++[1]) row++jg (p++yt j++[0]) r1)=some (qu T2,ds++jg (p++yt j) (pfx [1] row++pfx [0] r1++rb))∧uo T2∧
      goK (xb false id (x::tl)) (pfx [1] row++pfx [0] r1++rb)=some (trK T2)∧r1.length+1700≤1700 * x.leaves∧rb.length+3≤1530:=by
  have hj:(p++yt j).length=p.length+j:=by rw [List.length_append,bu]
  obtain ⟨_,gx⟩:=pj hg ht
  obtain ⟨r1,T1,a1,a2,a3,a4⟩:=hx (p++yt j++[0]) (ds++jg (p++yt j++[1]) row) (by simp only [List.length_append,bu,List.length_singleton];omega) (by rw [List.length_append,w8];omega)
  have f1:=GF a2 a3 gx.2.1
  have hn1:xb false id (x::tl)=opK false x (xb false id tl):=oi false id x ht
  have go2:goK (xb false id (x::tl)) (pfx [1] row++pfx [0] r1)=some (.both (trK T1) (trK T)):=by
    rw [hn1]
    exact vj (c:=opK false x (trK T)) (FX false hgo) (Hy false a2)
  have e2:=K5 _ _ _ go2
  have l2:=se _ _ _ go2
  have hw:(trK T1).leaves+(trK T).leaves≤40:=by
    have:=vi (.both (trK T1) (trK T))
    have:=hg.s
    simp only [Kd.leaves] at *
    omega
  have hf:nb T1 * nb T≤18:=by
    have:(lb (.both (trK T1) (trK T))).length=nb T1 * nb T:=by simp only [lb,wa,gq,B9 T1 f1,B9 T hT]
    rw [← this,l2]
    exact hg.b
  have tw:=Gr (vz T1 f1) (vz T hT)
  obtain ⟨rb,T2,b1,b2,b3,b4⟩:=Ax (nb T1+nb T) T1 T (Nat.le_refl _) f1 hT hw n (p++yt j) (ds++jg (p++yt j++[1]) row++jg (p++yt j++[0]) r1) (by omega) (by rw [hj];omega) (by simp only [List.length_append,w8];omega)
  refine ⟨r1,rb,T1,T2,a1,?_,b3,?_,a4,by omega⟩
  · rw [b1,yb,yb,yn,yn]
    simp only [List.append_assoc]
  · exact vj go2 b2
theorem DW(n:Nat)(hn:38≤n)(fs:List Kd)(K:PyData)(p:List Int)(l:Int)(ds:List PyData)(hT:∀ x∈fs,Ct n x)(hg:GoodL fs)(hp:p.length+ky fs+200≤70000)(hds:ds.length+1700 * ky fs+160 < big+160 * fs.length):
    ∀ (j:Nat) (hd tl:List Kd) (row:TRow) (T:Tr) (x6 x7 x8:Option Slot),hd.length=j→fs=hd++tl→tl≠[]→uo T→goK (xb false id tl) row=some (trK T)→row.length+1700 * tl.length+1530≤1700 * ky tl+1530 * tl.length→
      ∃ (row':TRow) (T':Tr) (y6 y7 y8:Option Slot),q8 (zw 6) (ptB (z8 n) (jm n)) (vy j) (ptR K (encP p) (ds++jg (p++yt j) row) (fs.map enc) l (qu T) x6 x7 x8)=some (.next (ptR K (encP p) (ds++jg p row') (fs.map enc) l (qu T') y6 y7 y8))∧
        uo T'∧goK (xb false id fs) row'=some (trK T')∧row'.length+1700 * fs.length+1530≤1700 * ky fs+1530 * fs.length
  | 0,hd,tl,row,T,x6,x7,x8,hj,hfs,ht,hF,hgo,hr=>by
    have:hd=[]:=List.length_eq_zero_iff.mp hj
    subst this
    rw [List.nil_append] at hfs
    subst hfs
    exact ⟨row,T,x6,x7,x8,by rw [show yt 0=[] from rfl,List.append_nil];rfl,hF,hgo,hr⟩
  | j+1,hd,tl,row,T,x6,x7,x8,hj,hfs,ht,hF,hgo,hr=>by
    obtain ⟨hd',x,rfl⟩:∃ hd' x,hd=hd'++[x]:=⟨hd.dropLast,hd.getLast (by intro z;rw [z] at hj;cases hj),(List.dropLast_concat_getLast _).symm⟩
    have hj':hd'.length=j:=by simpa using hj
    have hfs':fs=hd'++(x::tl):=by rw [hfs];simp
    have gx:GoodL (x::tl):=lz hd' (x::tl) (hfs' ▸ hg) (by simp)
    have hmem:x∈fs:=by rw [hfs'];simp
    have hls:ky fs=ky hd'+(x.leaves+ky tl):=by rw [hfs',du];rfl
    have hlen:fs.length=j+(1+tl.length):=by rw [hfs',List.length_append,hj',List.length_cons];omega
    have hdl:=bw hd'
    have tll:=bw tl
    have xp:=x.pos
    have tp:1≤tl.length:=List.length_pos_iff.mpr ht
    obtain ⟨r1,rb,T1,T2,a1,a2,a3,a4,a5,a6⟩:=IL n hn x tl gx ht (hT x hmem) p j (by omega) ds row T hF hgo (by omega)
    obtain ⟨row',T',y6,y7,y8,b1,b2,b3,b4⟩:=DW n hn fs K p l ds hT hg hp hds j hd' (x::tl) (pfx [1] row++pfx [0] r1++rb) T2 (some (.loc (.int (j:Int)))) (some (.loc (encP (p++yt j)))) (some (.par (qu T1))) hj' hfs' (by simp) a3 a4 (by simp only [List.length_append,gz,List.length_cons,ky];omega)
    refine ⟨row',T',y6,y7,y8,?_,b2,b3,b4⟩
    have hget:(fs.map enc)[j]? =some (enc x):=by rw [hfs',List.map_append,List.map_cons,List.getElem?_append_right (by rw [List.length_map,hj'];exact Nat.le_refl _),List.length_map,hj',Nat.sub_self];rfl
    have body:=KW (z8 n) (jm n) K (qu T) (enc x) (qu T1) (qu T2) p (ds++jg (p++yt j++[1]) row) _ _ (fs.map enc) l j x7 x8 (by omega) hget (qv x) a1 a2
    rw [HI,← b1]
    rw [show p++yt (j+1)=p++yt j++[1] by rw [Iu,List.append_assoc]]
    exact mf rfl body
theorem N9(gb gt gf:FR)(K T T' x:PyData)(p:List Int)(ds r1 r2 r3 FS:List PyData)(m:Nat)(y6 y7 y8:Option Slot)(hm:FS.length=m+1)(h60:p.length+m≤80000)(hf:gf [K,encP p] ds=some (.list FS,r1))(hx:FS[m]? =some x)(lx:lf x=true)
    (h1:gt [x,encP (p++yt m)] r1=some (T,r2)) (hl:q8 (zw 6) (ptB gb gt) (vy m) (ptR K (encP p) r2 FS (m:Int) T none none none)=some (.next (ptR K (encP p) r3 FS (m:Int) T' y6 y7 y8))):
    qj 9 (vx gb gt gf) [K,encP p] ds=some (T',r3):=by
  have m1:=E1 m (by omega)
  have c1:=D2 p (yt m) (by rw [bu];omega)
  have l1:=qw (p++yt m)
  have a1:=F9 hx
  have e:vx gb gt gf=(ze (wq 3 gf [.n 0,.n 1] 2) (ze (zn 4 (mi (wm (za 3)) (eC (.int 1)))) (ze (wq 5 gt [.f (eIx (za 3) (za 4)),.f (qc (za 1) (nr (zm [(eC (.int 1))]) (za 4)))] 2) (ze (kz (Ay (mi (za 4) (eC (.int 1)))) (zw 6) (ptB gb gt)) (ay 2 5))))):=rfl
  have hlast:Ix (.int (FS.length:Int)) (.int 1)=some (.int (m:Int)):=by rw [M6,hm];congr 2;omega
  have s1:wq 3 gf [.n 0,.n 1] 2 [some (.par K),some (.par (encP p)),some (.lent ds),none,none,none,none,none,none]=some (.next [some (.par K),some (.par (encP p)),some (.lent r1),some (.par (.list FS)),none,none,none,none,none]):=by
    simp [wq,vv,v8,bg,vn,uu,hf,bj,pd,mk]
  have s2:zn 4 (mi (wm (za 3)) (eC (.int 1))) [some (.par K),some (.par (encP p)),some (.lent r1),some (.par (.list FS)),none,none,none,none,none]=some (.next [some (.par K),some (.par (encP p)),some (.lent r1),some (.par (.list FS)),some (.loc (.int (m:Int))),none,none,none,none]):=by
    simp [zn,mi,e2,wm,e1,za,eC,zk,zi,ce,hlast,asg,lf]
  have s3:wq 5 gt [.f (eIx (za 3) (za 4)),.f (qc (za 1) (nr (zm [(eC (.int 1))]) (za 4)))] 2 [some (.par K),some (.par (encP p)),some (.lent r1),some (.par (.list FS)),some (.loc (.int (m:Int))),none,none,none,none]=some (.next (ptR K (encP p) r2 FS (m:Int) T none none none)):=by
    have q1:(eIx (za 3) (za 4)) [some (.par K),some (.par (encP p)),some (.lent r1),some (.par (.list FS)),some (.loc (.int (m:Int))),none,none,none,none]=some (.ok 0 x):=by
      simp [eIx,e2,za,zk,dIx,a1]
    have q2:(qc (za 1) (nr (zm [(eC (.int 1))]) (za 4))) [some (.par K),some (.par (encP p)),some (.lent r1),some (.par (.list FS)),some (.loc (.int (m:Int))),none,none,none,none]=some (.ok 2 (encP (p++yt m))):=by
      simp [qc,nr,e2,za,zm,zo,eC,zv,zk,m1,c1]
    simp [wq,vv,v8,bg,vn,uu,q1,q2,lx,l1,h1,bj,pd,mk,ptR]
  have s4:kz (Ay (mi (za 4) (eC (.int 1)))) (zw 6) (ptB gb gt) (ptR K (encP p) r2 FS (m:Int) T none none none)=some (.next (ptR K (encP p) r3 FS (m:Int) T' y6 y7 y8)):=by
    have q:(Ay (mi (za 4) (eC (.int 1)))) (ptR K (encP p) r2 FS (m:Int) T none none none)=some (.ok 2 (vy m)):=by
      have hb:((m:Int) - 1).natAbs≤big:=by
        have:(80001:Nat)≤big:=by decide
        omega
      have hz:((m:Int) - 1+1).toNat=m:=by omega
      simp only [Ay,mi,e2,za,eC,ptR,zk,List.getElem?_cons_succ,List.getElem?_cons_zero,M6,Option.map_some,hb,if_true,hz]
    unfold kz
    rw [q]
    exact hl
  have s5:ay 2 5 (ptR K (encP p) r3 FS (m:Int) T' y6 y7 y8)=some (.retL T' r3):=by simp [ay,ptR,vn]
  unfold qj
  show (match vx gb gt gf [some (.par K),some (.par (encP p)),some (.lent ds),none,none,none,none,none,none] with | some (.retL d ds')=>some (d,ds') | _=>none)=_
  rw [e,z7 s1,z7 s2,z7 s3,z7 s4,s5]
theorem Ey(T:Tr):dEq (qu T) (.list [])=some (.bool (match T with | .nil=>true | _=>false)):=by
  cases T with
  | nil=>exact Jh
  | bun l=>exact KJ l
  | nod a b=>exact D3 _ _ (AJ (.nod a b))
theorem eu:∀ (N:Nat) (k:Kd),k.leaves≤N→sE k≤40→(lb k).length≤18→∀ n,2 * k.leaves+40≤n→Ct n k
  | 0,k,h,_,_,_,_=>by have:=k.pos;omega
  | N+1,k,hN,hs,hb,n,hn=>by
    intro p ds hp hds
    obtain ⟨m,rfl⟩:∃ m,n=m+1:=⟨n - 1,by omega⟩
    have unf:jm (m+1)=qj 6 (jq (jm m) (qe m) (vf m) (yr m)):=rfl
    cases k with
    | none=>exact ⟨[],.nil,by rw [unf,Lx];simp [qu,jg],rfl,.inr rfl,by simp [Kd.leaves]⟩
    | one=>exact ⟨[],.bun [],by rw [unf,NG];simp [qu,jg,zl],rfl,.inl .nil,by simp [Kd.leaves]⟩
    | name i=>exact ⟨[],.bun [i],by rw [unf,LK];simp [qu,jg,zl],rfl,.inl (List.pairwise_singleton _ _),by simp [Kd.leaves]⟩
    | either a b=>
      have pa:=a.pos
      have pb:=b.pos
      simp only [Kd.leaves,sE,lb,wa,List.length_append] at hN hs hb hn hp hds ⊢
      obtain ⟨r1,T1,a1,a2,a3,a4⟩:=eu N a (by omega) (by omega) (by omega) m (by omega) (p++[0]) ds (by simp only [List.length_append,List.length_singleton];omega) (by omega)
      obtain ⟨r2,T2,b1,b2,b3,b4⟩:=eu N b (by omega) (by omega) (by omega) m (by omega) (p++[1]) (ds++jg (p++[0]) r1) (by simp only [List.length_append,List.length_singleton];omega) (by rw [List.length_append,w8];omega)
      have hlen:(ds++jg (p++[0]) r1++jg (p++[1]) r2).length=ds.length+r1.length+r2.length:=by simp only [List.length_append,w8]
      have go:goK (.either a b) (pfx [0] r1++pfx [1] r2)=some (.either (trK T1) (trK T2)):=vj (c:=opK true (trK T1) b) (Hy true a2) (FX true b2)
      have hw:ds++jg p (pfx [0] r1++pfx [1] r2)=ds++jg (p++[0]) r1++jg (p++[1]) r2:=by rw [yb,yn,yn,List.append_assoc]
      have q1:=Ey T1
      have q2:=Ey T2
      rcases a3 with f1 | f1
      · have q1:dEq (qu T1) (.list [])=some (.bool false):=by cases T1<;>first | exact f1.elim | exact q1
        rcases b3 with f2 | f2
        · have q2:dEq (qu T2) (.list [])=some (.bool false):=by cases T2<;>first | exact f2.elim | exact q2
          refine ⟨pfx [0] r1++pfx [1] r2,.nod T1 T2,?_,go,.inl ⟨f1,f2⟩,by simp only [List.length_append,gz];omega⟩
          rw [unf,hw]
          exact Nm _ _ _ _ a b _ _ p ds _ _ (by omega) a1 b1 q1 q2
        · subst f2
          refine ⟨pfx [0] r1++pfx [1] r2++([("swap",[]),("drop",[])]:TRow),T1,?_,?_,.inl f1,by simp only [List.length_append,gz,List.length_cons,List.length_nil];omega⟩
          · rw [unf,yb,← List.append_assoc,hw,yq,yq,List.append_nil]
            exact NZ _ _ _ _ a b _ _ p ds _ _ (by omega) a1 b1 q1 q2 (by rw [hlen];omega) (by rw [hlen];omega)
          · refine vj go ?_
            show goK _ (([("swap",[])]:TRow)++([("drop",[])]:TRow))=_
            exact vj (fh (tv true _ _)) (fh (tu true _))
      · subst f1
        refine ⟨pfx [0] r1++pfx [1] r2++([("drop",[])]:TRow),T2,?_,vj go (fh (tu true _)),b3,by simp only [List.length_append,gz,List.length_cons,List.length_nil];omega⟩
        rw [unf,yb,← List.append_assoc,hw,yq,List.append_nil]
        exact NN _ _ _ _ a b _ _ p ds _ _ (by omega) a1 b1 q1 (by rw [hlen];omega)
    | both a b=>
      have pa:=a.pos
      have pb:=b.pos
      have hsb:=G4 a b
      have bar:=gr (.both a b) m (by omega)
      obtain ⟨m,rfl⟩:∃ k,m=k+1:=⟨m - 1,by omega⟩
      cases hbr:brn (.both a b) with
      | true=>
        rw [hbr] at bar
        simp only [Kd.leaves] at hN hn hp hds ⊢
        have ub:vf (m+1)=qj 3 (vg (qe m) (jm m)):=rfl
        have ba:=gr a m (by omega)
        cases hba:brn a with
        | true=>
          rw [hba] at ba
          have l0:=iw a hba
          obtain ⟨r1,T1,a1,a2,a3,a4⟩:=eu N a (by omega) (by omega) (by rw [l0];decide) m (by omega) (p++[0]) ds (by simp only [List.length_append,List.length_singleton];omega) (by omega)
          have:=Ku a2 a3 l0
          subst this
          refine ⟨pfx [0] r1++([("drop",[])]:TRow),.nil,?_,?_,.inr rfl,by simp only [List.length_append,gz,List.length_cons,List.length_nil];omega⟩
          · rw [unf]
            refine JG _ _ _ _ a b _ p ds _ bar ?_
            rw [ub,yb,yn,yq,List.append_nil,← List.append_assoc]
            exact PR _ _ a b _ p ds _ (by omega) ba a1 (by rw [List.length_append,w8];omega)
          · exact vj (c:=.both .none b) (Hy false a2) (fh (by rw [ue];rfl))
        | false=>
          rw [hba] at ba
          have hbb:brn b=true:=by simpa [brn,hba] using hbr
          have l0:=iw b hbb
          obtain ⟨r1,T1,a1,a2,a3,a4⟩:=eu N b (by omega) (by omega) (by rw [l0];decide) m (by omega) (p++[1]) ds (by simp only [List.length_append,List.length_singleton];omega) (by omega)
          have:=Ku a2 a3 l0
          subst this
          refine ⟨pfx [1] r1++([("swap",[]),("drop",[])]:TRow),.nil,?_,?_,.inr rfl,by simp only [List.length_append,gz,List.length_cons,List.length_nil];omega⟩
          · rw [unf]
            refine JG _ _ _ _ a b _ p ds _ bar ?_
            rw [ub,yb,yn,yq,yq,List.append_nil,← List.append_assoc]
            exact Px _ _ a b _ p ds _ (by omega) ba a1 (by rw [List.length_append,w8];omega)
          · refine vj (c:=.both a .none) (FX false a2) ?_
            show goK _ (([("swap",[])]:TRow)++([("drop",[])]:TRow))=_
            exact vj (fh (tv false a .none)) (fh (by rw [ue];rfl))
      | false=>
        rw [hbr] at bar
        have ne:=AZ _ hbr
        have up:yr (m+1)=qj 9 (vx (z8 m) (jm m) (qg m)):=rfl
        have hL:(Kd.both a b).leaves≤40:=Nat.le_trans (vi _) hs
        have h2:2≤nf (.both a b):=by have:=AX a;have:=AX b;simp only [nf];omega
        have hnl:=bz (.both a b)
        have hsq:nf (.both a b) * nf (.both a b)≤40 * nf (.both a b):=Nat.mul_le_mul_right _ (by omega)
        obtain ⟨rf,fs,f1,f2,f3,f4,f5⟩:=F5 (.both a b) m p ds (by omega) (by omega) (by omega) (by omega)
        generalize hk:Kd.both a b=k at *
        have hg:GoodL fs:=⟨Nat.le_trans (K5 _ _ _ f2) hs,by rw [se _ _ _ f2];exact ne,by rw [se _ _ _ f2];exact hb⟩
        have hfl:rf.length≤160 * (fs.length - 1):=by
          rw [f3]
          have:4 * (nf k * nf k)≤160 * nf k:=by omega
          have hq:nf k * nf k=nf k+nf k * (nf k - 1):=by
            obtain ⟨z,hz⟩:∃ z,nf k=z+1:=⟨nf k - 1,by omega⟩
            rw [hz,Nat.add_sub_cancel,Nat.mul_add];omega
          have hq2:nf k * (nf k - 1)≤40 * (nf k - 1):=Nat.mul_le_mul_right _ (by omega)
          omega
        obtain ⟨hd,x,hfs⟩:∃ hd x,fs=hd++[x]:=⟨fs.dropLast,fs.getLast (by intro z;rw [z] at f3;simp at f3;omega),(List.dropLast_concat_getLast _).symm⟩
        have hlh:hd.length+1=fs.length:=by rw [hfs];simp
        have hls:ky fs=ky hd+x.leaves:=by rw [hfs,du];simp [ky]
        have hdl:=bw hd
        have gx:GoodL [x]:=lz hd [x] (hfs ▸ hg) (by simp)
        have each:∀ y∈fs,Ct m y:=fun y hy=>by
          have hlt:y.leaves < k.leaves:=by
            rw [← f4]
            obtain ⟨s,t,hst⟩:=List.append_of_mem hy
            rw [hst] at f3 ⊢
            rw [du]
            have:=bw s
            have:=bw t
            simp only [List.length_append,List.length_cons,ky] at *
            omega
          have good:sE y≤40∧(lb y).length≤18:=by
            obtain ⟨s,t,hst⟩:=List.append_of_mem hy
            have g2:GoodL (y::t):=lz s (y::t) (hst ▸ hg) (by simp)
            by_cases ht:t=[]
            · subst ht;exact ⟨g2.s,g2.b⟩
            · have:=(pj g2 ht).2;exact ⟨this.1,this.2.2⟩
          exact eu N y (by omega) good.1 good.2 m (by omega)
        obtain ⟨r1,T1,a1,a2,a3,a4⟩:=each x (by rw [hfs];simp) (p++yt hd.length) (ds++jg p rf) (by rw [List.length_append,bu];omega) (by rw [List.length_append,w8];omega)
        have ft:=GF a2 a3 gx.ne
        obtain ⟨row',T',y6,y7,y8,b1,b2,b3,b4⟩:=DW m (by omega) fs (enc k) p (hd.length:Int) (ds++jg p rf) each hg (by omega) (by rw [List.length_append,w8];omega) hd.length hd [x] r1 T1 none none none rfl hfs (by simp) ft a2 (by simp only [List.length_singleton,ky];omega)
        refine ⟨rf++row',T',?_,vj f2 b3,.inl b2,by rw [List.length_append];omega⟩
        rw [unf]
        subst hk
        refine NT _ _ _ _ a b _ p ds _ bar ?_
        rw [up,yb,← List.append_assoc]
        exact N9 _ _ _ _ _ _ (enc x) p ds _ _ _ _ hd.length y6 y7 y8 (by rw [List.length_map];omega) (by omega) f1 (by rw [hfs,List.map_append,List.getElem?_append_right (by simp)];simp) (qv x) a1 b1
theorem MX(gi gt:FR)(k t L:PyData)(r1 r2:List PyData)(h1:gt [k,encP []] []=some (t,r1))(h2:gi [t,encP []] r1=some (L,r2)):qt 3 (xi gi gt) [k]=some (.ok (.list r2)):=by
  have lp:lf (.tuple [])=true:=rfl
  have h1':gt [k,.tuple []] []=some (t,r1):=h1
  have h2':gi [t,.tuple []] r1=some (L,r2):=h2
  simp [qt,xi,ze,zn,qp,zo,zv,zi,lfs,lf,asg,wq,vv,v8,bg,vn,zm,uu,h1',bj,pd,mk,cw,h2',zu,za]
theorem aw(k:Kd)(n:Nat)(hs:sE k≤40)(hb:(lb k).length≤18)(hn:2 * k.leaves+42≤n):
    ∃ row:TRow,qk n [enc k]=some (.ok (.list (jg [] row)))∧goK k row=some (pk (lb k))∧row.length≤70000:=by
  obtain ⟨m,rfl⟩:∃ m,n=m+1:=⟨n - 1,by omega⟩
  have hL:k.leaves≤40:=Nat.le_trans (vi k) hs
  have big0:big=100000:=rfl
  obtain ⟨r1,T,a1,a2,a3,a4⟩:=eu k.leaves k (Nat.le_refl _) hs hb m (by omega) [] [] (by simp only [List.length_nil];omega) (by simp only [List.length_nil];omega)
  have hnb:nb T≤18:=by
    rcases a3 with h | h
    · rw [← B9 T h,se _ _ _ a2];exact hb
    · subst h;decide
  have hsq:nb T * nb T≤18 * 18:=Nat.mul_le_mul hnb hnb
  obtain ⟨r2,L,b1,b2,b3,b4,b5,b6⟩:=iu T m [] (jg [] r1) a3 (by omega) (by omega) (by rw [w8];omega) (by simp only [List.length_nil];omega)
  have go:=vj a2 b2
  refine ⟨r1++r2,?_,?_,by rw [List.length_append];omega⟩
  · rw [show qk (m+1)=qt 3 (xi (yk m) (jm m)) from rfl,yb]
    exact MX _ _ _ _ _ _ _ (by rw [a1];rfl) b1
  · rw [go]
    have e:=se _ _ _ go
    rw [Mw L b4] at e
    have:ql xa L=L:=by
      rw [show (xa:List Int→List Int→Bool)=HT.lexLt from funext fun a=>funext fun b=>am a b]
      exact (ug (O:=rowOrd) (.refl L) b3).symm
    rw [this] at e
    rw [e]
end KT
namespace KT
open PySem
theorem Hm:∀ ns:List Int,PyData.depthAll (ns.map .int)=0
  | []=>rfl
  | n::ns=>by simp [PyData.depthAll,PyData.depth,Hm ns]
theorem GP:∀ rs:List (List Int),PyData.depthAll (rs.map zl)≤1
  | []=>by simp [PyData.depthAll]
  | r::rs=>by
    have:=GP rs
    simp [PyData.depthAll,zl,PyData.depth,Hm] at *
    omega
def Ah:Option Kd→PyData
  | some k=>enc k
  | none=>.none
theorem KH{k:Kd}(h:inn k=true):ce (enc k)=some (.int 3):=by cases k<;>first | rfl | cases h
theorem ES{k:Kd}(h:inn k=false):∃ m:Int,ce (enc k)=some (.int m)∧decide (m < 3)=true:=by cases k<;>first | exact ⟨_,rfl,rfl⟩ | cases h
theorem M5(i j:Int):dLt (.int i) (.int j)=some (.bool (decide (i < j))):=rfl
theorem LM(x y:Str)(hx:PyData.strOk x=true)(hy:PyData.strOk y=true):dIn (.tuple [.str x,.str y]) (.tuple [.tuple [.str "both",.str "one"],.tuple [.str "either",.str "none"]])=
    some (.bool ((("both":Str) == x && ("one":Str) == y) || (("either":Str) == x && ("none":Str) == y))):=by
  have h1:Fd (.tuple [.str x,.str y]) [.tuple [.str "both",.str "one"],.tuple [.str "either",.str "none"]]=true:=by
    simp [Fd,PyData.canLay0,PyData.canLayAll0,hx,hy,Cs,Fk,n9,Ds,PyData.depth,PyData.depthAll]
  simp [dIn,Ea,h1,PyData.eqv,PyData.eqvAll]
theorem wz1:(("none":Str) == "name")=false:=by decide +kernel
theorem wz2:(("one":Str) == "name")=false:=by decide +kernel
def GQ:FS:=(ze (sIf (eEq (za 1) (eC (.str "swap"))) (zu (zm [(eIx (za 0) (eC (.int 0))),(za 3),(za 2)])) zj) (ze (sIf (kf (eEq (za 1) (eC (.str "group"))) (eEq (eIx (za 2) (eC (.int 0))) (eIx (za 0) (eC (.int 0))))) (zu (zm [(eIx (za 0) (eC (.int 0))),(eIx (za 2) (eC (.int 1))),(zm [(eIx (za 0) (eC (.int 0))),(eIx (za 2) (eC (.int 2))),(za 3)])])) zj) (ze (sIf (kf (eEq (za 1) (eC (.str "spread"))) (kf (eEq (eIx (za 0) (eC (.int 0))) (eC (.str "both"))) (eEq (eIx (za 3) (eC (.int 0))) (eC (.str "either"))))) (zu (zm [(eC (.str "either")),(zm [(eC (.str "both")),(za 2),(eIx (za 3) (eC (.int 1)))]),(zm [(eC (.str "both")),(za 2),(eIx (za 3) (eC (.int 2)))])])) zj) (ze (sIf (kf (eEq (za 1) (eC (.str "drop"))) (kf (eEq (eIx (za 0) (eC (.int 0))) (eC (.str "both"))) (eEq (eIx (za 2) (eC (.int 0))) (eC (.str "none"))))) (zu (zm [(eC (.str "none"))])) zj) (ze (sIf (kf (eEq (za 1) (eC (.str "drop"))) (eIn (zm [(eIx (za 0) (eC (.int 0))),(eIx (za 2) (eC (.int 0)))]) (zm [(zm [(eC (.str "both")),(eC (.str "one"))]),(zm [(eC (.str "either")),(eC (.str "none"))])]))) (zu (za 3)) zj) (zu (eC .none)))))))
theorem EY(n:Nat)(w:Str)(k:Kd):wo (n+1) [enc k,.str w]=some (.ok (Ah (ww w k))):=by
  show qt 4 ku [enc k,.str w]=_
  cases hi:inn k with
  | false=>
    obtain ⟨m,e1',e2'⟩:=ES hi
    rw [H0 w k hi]
    have e2'':m < 3:=of_decide_eq_true e2'
    refine g9 (b:=ku) ?_
    unfold ku
    refine (u9 (l:=2) ?_).trans rfl
    simp [eLt,e2,wm,e1,za,eC,zk,e1',M5,e2'']
  | true=>
    obtain ⟨a,b,e,hk⟩:∃ a b,enc k= .tuple [.str (hd k),enc a,enc b]∧(k= .either a b∨k= .both a b):=by
      cases k with
      | either a b=>exact ⟨a,b,rfl,.inl rfl⟩
      | both a b=>exact ⟨a,b,rfl,.inr rfl⟩
      | none=>cases hi
      | one=>cases hi
      | name _=>cases hi
    have fz:GQ [some (.par (enc k)),some (.par (.str w)),some (.loc (enc a)),some (.loc (enc b))]=some (.ret (Ah (ww w k)))→qt 4 ku [enc k,.str w]=some (.ok (Ah (ww w k))):=fun h=>by
      have el:=KH hi
      refine g9 (b:=ku) ?_
      have eb:ku=ze (sIf (eLt (wm (za 0)) (eC (.int 3))) (zu (eC .none)) zj) (ze (zn 2 (eIx (za 0) (eC (.int 1)))) (ze (zn 3 (eIx (za 0) (eC (.int 2)))) GQ)):=rfl
      rw [eb]
      refine (jf (l:=2) ?_).trans (Eq.trans ?_ h)
      · simp [eLt,e2,wm,e1,za,eC,zk,el,M5]
      · generalize GQ=RH
        have e1':dIx (enc k) (.int 1)=some (enc a):=by rw [e];exact Fw _ _ _
        have e2':dIx (enc k) (.int 2)=some (enc b):=by rw [e];exact F7 _ _ _ _
        simp [ze,zn,eIx,e2,za,eC,zk,zi,e1',e2',o7,qv]
    refine fz ?_
    have v0:za 0 [some (.par (enc k)),some (.par (.str w)),some (.loc (enc a)),some (.loc (enc b))]=some (.ok 0 (enc k)):=rfl
    have v1:za 1 [some (.par (enc k)),some (.par (.str w)),some (.loc (enc a)),some (.loc (enc b))]=some (.ok 0 (.str w)):=rfl
    have v2:za 2 [some (.par (enc k)),some (.par (.str w)),some (.loc (enc a)),some (.loc (enc b))]=some (.ok 1 (enc a)):=rfl
    have v3:za 3 [some (.par (enc k)),some (.par (.str w)),some (.loc (enc a)),some (.loc (enc b))]=some (.ok 1 (enc b)):=rfl
    generalize [some (Slot.par (enc k)),some (.par (.str w)),some (.loc (enc a)),some (.loc (enc b))]=R at v0 v1 v2 v3
    have vC:∀ s:Str,eC (.str s) R=some (.ok 2 (.str s)):=fun s=>rfl
    have k0:=ixT v0 (i:=0) (F3 k)
    have a0:=ixT v2 (i:=0) (F3 a)
    have b0:=ixT v3 (i:=0) (F3 b)
    have hp:=LM (hd k) (hd a) (M1 k) (M1 a)
    have iR:∀ r:Bool,((("both":Str) == hd k && ("one":Str) == hd a) || (("either":Str) == hd k && ("none":Str) == hd a))=r→eIn (zm [(eIx (za 0) (eC (.int 0))),(eIx (za 2) (eC (.int 0)))]) (zm [(zm [(eC (.str "both")),(eC (.str "one"))]),(zm [(eC (.str "either")),(eC (.str "none"))])]) R=some (.ok 2 (.bool r)):=fun r h=>by
      rw [h] at hp
      simp only [eIn,e2,zm,zo,k0,a0,eC,zv,zk,hp,Option.map,if_true]
    unfold GQ
    rcases IW w with rfl | rfl | rfl | rfl | ⟨h1,h2,h3,h4⟩
    · rw [u9 (eqT v1 (vC _) (by simp)),e7]
      refine (HY (Em k0 v3 v2) ?_).trans ?_
      · simp [lf,lfs,qv]
      · rcases hk with rfl | rfl<;>rfl
    · rw [jf (eqT v1 (vC _) v04),i9]
      cases hg:bn k with
      | some k'=>
        unfold bn at hg
        have gw:=eqT v1 (vC _) (beq_self_eq_true ("group":Str))
        split at hg
        · rcases hk with hk | hk<;>cases hk
          cases hg
          rw [u9 ((xu gw).trans (eqT a0 k0 (by simp [hd])))]
          exact HY (Em k0 (ixT v2 (Fw _ _ _)) (Em k0 (ixT v2 (F7 _ _ _ _)) v3)) (qv _)
        · rcases hk with hk | hk<;>cases hk
          cases hg
          rw [u9 ((xu gw).trans (eqT a0 k0 (by simp [hd])))]
          exact HY (Em k0 (ixT v2 (Fw _ _ _)) (Em k0 (ixT v2 (F7 _ _ _ _)) v3)) (qv _)
        · cases hg
      | none=>
        have hh:(hd a == hd k)=false:=by
          rcases hk with rfl | rfl<;>cases a<;>simp only [hd,w13,w15,w17,w07,w14,w16,w18,w12]<;>simp [bn] at hg
        rw [jf ((xu (eqT v1 (vC _) (beq_self_eq_true ("group":Str)))).trans (eqT a0 k0 hh)),jf (mr (eqT v1 (vC _) v05)),jf (mr (eqT v1 (vC _) v06)),jf (mr (eqT v1 (vC _) v06))]
        rfl
    · rw [jf (eqT v1 (vC _) v07),jf (mr (eqT v1 (vC _) v08)),dh]
      have gw:=eqT v1 (vC _) (beq_self_eq_true ("spread":Str))
      cases hg:g7 k with
      | some k'=>
        unfold g7 at hg
        split at hg
        · rcases hk with hk | hk<;>cases hk
          cases hg
          rw [u9 ((xu gw).trans ((xu (eqT k0 (vC _) (by simp [hd]))).trans (eqT b0 (vC _) (by simp [hd]))))]
          exact HY (Em (vC _) (Em (vC _) v2 (ixT v3 (Fw _ _ _))) (Em (vC _) v2 (ixT v3 (F7 _ _ _ _)))) (qv _)
        · cases hg
      | none=>
        have hh:(hd k == "both" && hd b == "either")=false:=by
          rcases hk with rfl | rfl
          · simp only [hd,w12,Bool.false_and]
          · cases b<;>simp only [hd,w13,w15,w17,w07]<;>first | (simp [g7] at hg;done) | simp
        have hc:kf (eEq (eIx (za 0) (eC (.int 0))) (eC (.str "both"))) (eEq (eIx (za 3) (eC (.int 0))) (eC (.str "either"))) R=some (.ok 2 (.bool false)):=by
          cases hb:hd k == "both" with
          | false=>exact mr (eqT k0 (vC _) hb)
          | true=>rw [hb,Bool.true_and] at hh;exact (xu (eqT k0 (vC _) hb)).trans (eqT b0 (vC _) hh)
        rw [jf ((xu gw).trans hc),jf (mr (eqT v1 (vC _) v09)),jf (mr (eqT v1 (vC _) v09))]
        rfl
    · rw [jf (eqT v1 (vC _) v10),jf (mr (eqT v1 (vC _) v11)),jf (mr (eqT v1 (vC _) v12)),ue]
      have gw:=eqT v1 (vC _) (beq_self_eq_true ("drop":Str))
      rcases hk with rfl | rfl
      · rw [jf ((xu gw).trans (mr (eqT k0 (vC _) w12)))]
        cases a with
        | none=>rw [u9 ((xu gw).trans (iR _ (by simp [hd,w07])))];exact HY v3 (qv _)
        | one=>rw [jf ((xu gw).trans (iR _ (by simp [hd,w07,w11])))];rfl
        | name i=>rw [jf ((xu gw).trans (iR _ (by simp [hd,w07,wz1])))];rfl
        | either _ _=>rw [jf ((xu gw).trans (iR _ (by simp [hd,w07,w13])))];rfl
        | both _ _=>rw [jf ((xu gw).trans (iR _ (by simp [hd,w07,w14])))];rfl
      · have kb:=eqT k0 (vC "both") (show (hd (.both a b) == "both")=true by simp [hd])
        cases a with
        | none=>rw [u9 ((xu gw).trans ((xu kb).trans (eqT a0 (vC _) (by simp [hd]))))];rfl
        | one=>rw [jf ((xu gw).trans ((xu kb).trans (eqT a0 (vC _) w08))),u9 ((xu gw).trans (iR _ (by simp [hd])))];exact HY v3 (qv _)
        | name i=>rw [jf ((xu gw).trans ((xu kb).trans (eqT a0 (vC _) w09))),jf ((xu gw).trans (iR _ (by simp [hd,w12,wz2])))];rfl
        | either _ _=>rw [jf ((xu gw).trans ((xu kb).trans (eqT a0 (vC _) w01))),jf ((xu gw).trans (iR _ (by simp [hd,w12,w15])))];rfl
        | both _ _=>rw [jf ((xu gw).trans ((xu kb).trans (eqT a0 (vC _) w04))),jf ((xu gw).trans (iR _ (by simp [hd,w12,w16])))];rfl
    · rw [jf (eqT v1 (vC _) h1),jf (mr (eqT v1 (vC _) h2)),jf (mr (eqT v1 (vC _) h3)),jf (mr (eqT v1 (vC _) h4)),jf (mr (eqT v1 (vC _) h4)),Cu w k ⟨h1,h2,h3,h4⟩]
      rfl
theorem DG(p:List Int)(h:p.length≤90000):dEq (encP p) (.tuple [])=some (.bool p.isEmpty):=by
  have h1:ai (encP p) (.tuple [])=true:=by
    simp [ai,km,PyData.canLay0,PyData.canLayAll0,PyData.depth,PyData.depthAll];omega
  cases p<;>simp [dEq,vt,h1,PyData.eqv,PyData.eqvAll,encP]<;>simp [encP] at h1<;>simp [h1]
theorem L8(s:Int)(p:List Int):dSl (some 1) none (encP (s::p))=some (encP p):=by
  have h:lfs ((s::p).map PyData.int)=true:=xj _
  show (if lfs ((s::p).map PyData.int)=true then _ else _)=_
  rw [if_pos h]
  simp [Jp,sxP,encP]
  exact List.take_of_length_le (by simp)
theorem LH(s:Int)(p:List Int):dIx (encP (s::p)) (.int 0)=some (.int s):=at0 _ _
theorem G9:∀ (p:List Int) (n:Nat) (k x y:Kd),p.length < n→p.length≤900→qf k p=some y→vh n [enc k,encP p,enc x]=some (.ok (enc (kc k p x)))
  | [],n+1,k,x,y,_,_,_=>by
    show qt 4 (ud (vh n)) [enc k,encP [],enc x]=_
    have h:=DG [] (by simp)
    simp [qt,ud,ze,sIf,eEq,e2,za,zm,zo,zv,zk,zi,h,zu,qv,kc]
  | s::p,n+1,k,x,y,hn,hl,hp=>by
    simp only [List.length_cons] at hn hl
    simp only [qf] at hp
    cases hs:wc k s with
    | none=>rw [hs] at hp;cases hp
    | some c=>
      rw [hs] at hp
      have ih:=G9 p n c x y (by omega) (by omega) hp
      obtain ⟨h1,h2,h3,h4⟩:=Di hs
      show qt 4 (ud (vh n)) [enc k,encP (s::p),enc x]=_
      have h:=DG (s::p) (by simp;omega)
      have hq:=L8 s p
      have ha:=LH s p
      obtain ⟨a,b,e1',e2'⟩:∃ a b,enc k= .tuple [.str (hd k),enc a,enc b]∧enc (kc k (s::p) x)=if s=0 then .tuple [.str (hd k),enc (kc c p x),enc b] else .tuple [.str (hd k),enc a,enc (kc c p x)]:=by
        cases k with
        | either a b=>
          refine ⟨a,b,rfl,?_⟩
          simp only [wc] at hs
          simp only [kc]
          split at hs
          · rename_i h0;cases hs;rw [if_pos h0,if_pos h0];rfl
          · rename_i h0
            split at hs
            · cases hs;rw [if_neg h0,if_neg h0];rfl
            · cases hs
        | both a b=>
          refine ⟨a,b,rfl,?_⟩
          simp only [wc] at hs
          simp only [kc]
          split at hs
          · rename_i h0;cases hs;rw [if_pos h0,if_pos h0];rfl
          · rename_i h0
            split at hs
            · cases hs;rw [if_neg h0,if_neg h0];rfl
            · cases hs
        | none=>cases hs
        | one=>cases hs
        | name _=>cases hs
      rw [e2']
      rw [e1'] at h1 ⊢
      rcases h3 with rfl | rfl
      · rw [if_pos rfl]
        have hac:enc a=enc c:=Option.some.inj ((Fw _ _ _).symm.trans h1)
        simp [hac,qt,ud,ze,sIf,eEq,e2,za,zm,zo,zv,zk,zi,h,zj,zn,zd,eIx,eC,ha,qc,p8,Pj,Fw,F7,eSl,Eo,GI,hq,ih,j8,o7,qv,CM,zu,lf,lfs]
      · rw [if_neg (by decide)]
        have hac:enc b=enc c:=Option.some.inj ((F7 _ _ _ _).symm.trans h1)
        simp [hac,qt,ud,ze,sIf,eEq,e2,za,zm,zo,zv,zk,zi,h,zj,zn,zd,eIx,eC,ha,qc,p8,Pj,Fw,F7,eSl,Eo,GI,hq,ih,j8,o7,qv,CM,zu,lf,lfs]
def n5:FS:=(zn 0 (eIx (za 0) (qc (eC (.int 1)) (za 2))))
theorem A2(x1:Option Slot):∀ (p:List Int) (k k':Kd) (x2:Option Slot) (y:PyData→Slot) (_:∀ d,y d= .par d∨y d= .loc d),qf k p=some k'→
    ∃ y',(y'= .par (enc k')∨y'= .loc (enc k'))∧∃ x2',q8 (zw 2) n5 (p.map .int) [some (y (enc k)),x1,x2]=some (.next [some y',x1,x2'])
  | [],k,k',x2,y,hy,h=>by simp only [qf] at h;cases h;exact ⟨_,hy _,_,rfl⟩
  | s::p,k,k',x2,y,hy,h=>by
    simp only [qf] at h
    cases hs:wc k s with
    | none=>rw [hs] at h;cases h
    | some c=>
      rw [hs] at h
      obtain ⟨h1,_,_,_⟩:=Di hs
      have e:n5 [some (y (enc k)),x1,some (.loc (.int s))]=some (.next [some (.loc (enc c)),x1,some (.loc (.int s))]):=by
        rcases hy (enc k) with q | q<;>rw [q]<;>simp [n5,zn,eIx,e2,za,eC,qc,uj,zk,zi,h1,o7,qv]
      have go:q8 (zw 2) n5 ((s::p).map .int) [some (y (enc k)),x1,x2]=q8 (zw 2) n5 (p.map .int) _:=mf (tg:=zw 2) (d:=.int s) rfl e
      rw [go]
      exact A2 x1 p c k' _ Slot.loc (fun _=>.inr rfl) h
theorem m6(n:Nat)(k k':Kd)(p:List Int)(h:qf k p=some k'):jp (n+1) [enc k,encP p]=some (.ok (enc k')):=by
  have e:lg=ze (yw 1 (zw 2) n5) (zu (za 0)):=rfl
  show qt 3 lg [enc k,encP p]=_
  rw [e]
  obtain ⟨y',hy',x2',q⟩:=A2 (some (.par (encP p))) p k k' none Slot.par (fun _=>.inl rfl) h
  simp only [encP] at q
  rcases hy' with rfl | rfl<;>simp [qt,ze,yw,encP,xj,q,zu,za,zi,qv]
def pre:Kd→List Int→List (List Int)
  | .either a b,p=>p::(pre a (p++[0])++pre b (p++[1]))
  | .both a b,p=>p::(pre a (p++[0])++pre b (p++[1]))
  | .none,p=>[p]
  | .one,p=>[p]
  | .name _,p=>[p]
def fy:List (Kd×List Int)→Nat
  | []=>0
  | x::ws=>2 * x.1.leaves - 1+fy ws
theorem ie:∀ xs ys,fy (xs++ys)=fy xs+fy ys
  | [],_=>by simp [fy]
  | x::xs,ys=>by simp [fy,ie xs ys,Nat.add_assoc]
theorem B0:∀ xs,xs.length≤fy xs
  | []=>by simp [fy]
  | x::xs=>by have:=x.1.pos;have:=B0 xs;simp [fy];omega
def Bu(ws:List (Kd×List Int)):List PyData:=(ws.reverse.flatMap fun x=>pre x.1 x.2).map encP
def az(ws:List (Kd×List Int)):List PyData:=ws.map fun x=>encP x.2
theorem J4:∀ ws,PyData.canLayAll0 (az ws)=true
  | []=>rfl
  | x::ws=>by
    have:=J4 ws
    have h:az (x::ws)=encP x.2::az ws:=rfl
    rw [h]
    simp [PyData.canLayAll0,PyData.canLay0,encP,my,this]
def CU:FE:=(eNe (za 2) (qp []))
def oq(n:Nat):FS:=(ze (Hx 3 2) (ze (vk 1 (za 3)) (sIf (eEq (wm (zd (jp n) [(za 0),(za 3)])) (eC (.int 3))) (u1 2 (qp [(qc (za 3) (zm [(eC (.int 1))])),(qc (za 3) (zm [(eC (.int 0))]))])) zj)))
theorem CI(a b:Option Slot)(xs:List PyData)(x:Option Slot)(h:PyData.canLayAll0 xs=true):CU [a,b,some (.own xs),x]=some (.ok 2 (.bool (!xs.isEmpty))):=by
  simp [CU,eNe,e2,za,qp,zo,zv,zk,lfs,IK xs h]
def HZ:Kd→Bool
  | .either _ _=>true
  | .both _ _=>true
  | _=>false
def Nu:Kd→Int
  | .either _ _=>3
  | .both _ _=>3
  | .name _=>2
  | _=>1
theorem Hl(k:Kd):ce (enc k)=some (.int (Nu k)):=by cases k<;>rfl
theorem Lg{k:Kd}(h:HZ k=true):Nu k=3:=by cases k<;>first | rfl | cases h
theorem HU{k:Kd}(h:HZ k=false):(Nu k == 3)=false:=by cases k<;>first | rfl | cases h
theorem L9(n:Nat)(K0 k:Kd)(fs:List PyData)(ws:List PyData)(p:List Int)(x3:Option Slot)(hk:qf K0 p=some k)(hi:HZ k=false)(hf:fs.length≤1000):
    oq (n+1) [some (.par (enc K0)),some (.own fs),some (.own (ws++[encP p])),x3]=some (.next [some (.par (enc K0)),some (.own (fs++[encP p])),some (.own ws),some (.loc (encP p))]):=by
  have hb:fs.length < big:=by unfold big;omega
  have hl:lf (encP p)=true:=by simp [encP,lf,xj]
  have he:=m6 n K0 k p hk
  have hn:=Hl k
  have h3:=HU hi
  simp [oq,ze,Hx,vk,za,zi,hl,hb,sIf,eEq,e2,wm,e1,zd,zo,zv,zk,he,j8,hn,eC,dEq,vt,h3,zj]
theorem Pg(n:Nat)(K0 k:Kd)(fs:List PyData)(ws:List PyData)(p:List Int)(x3:Option Slot)(hk:qf K0 p=some k)(hi:HZ k=true)(hf:fs.length≤1000)(hw:ws.length≤1000)(hp:p.length≤100):
    oq (n+1) [some (.par (enc K0)),some (.own fs),some (.own (ws++[encP p])),x3]=some (.next [some (.par (enc K0)),some (.own (fs++[encP p])),some (.own (ws++[encP (p++[1]),encP (p++[0])])),some (.loc (encP p))]):=by
  have hb:fs.length < big:=by unfold big;omega
  have hb2:ws.length+2≤big:=by unfold big;omega
  have hl:∀ q,lf (encP q)=true:=fun q=>by simp [encP,lf,xj]
  have he:=m6 n K0 k p hk
  have hn:=Hl k
  rw [Lg hi] at hn
  simp [oq,ze,Hx,vk,za,zi,hl,hb,sIf,eEq,e2,wm,e1,zd,zo,zv,zk,he,j8,hn,eC,dEq,vt,u1,qp,qc,zm,wd p _ (by omega),lfs,hb2]
theorem C1(n:Nat)(K0:Kd):∀ (fuel:Nat) (ws:List (Kd×List Int)) (fs:List PyData) (x3:Option Slot),(∀ x∈ws,qf K0 x.2=some x.1∧x.2.length+x.1.leaves≤100)→fy ws < fuel→fs.length+fy ws≤1000→
    ∃ x3',ya CU (oq (n+1)) fuel [some (.par (enc K0)),some (.own fs),some (.own (az ws)),x3]=some (.next [some (.par (enc K0)),some (.own (fs++Bu ws)),some (.own []),x3'])
  | 0,_,_,_,_,h,_=>by omega
  | fuel+1,ws,fs,x3,hall,hfu,hsz=>by
    rcases List.eq_nil_or_concat ws with rfl | ⟨ws,⟨k,p⟩,rfl⟩
    · exact ⟨x3,by simp [ya,CI _ _ _ _ (J4 []),zi,az,Bu];rw [CI _ _ _ _ rfl];simp⟩
    · rw [List.concat_eq_append] at *
      obtain ⟨hk,hlen⟩:=hall (k,p) (by simp)
      simp only at hk hlen
      have hrest:∀ x∈ws,qf K0 x.2=some x.1∧x.2.length+x.1.leaves≤100:=fun x hx=>hall x (by simp [hx])
      rw [ie] at hfu hsz
      simp only [fy] at hfu hsz
      have hpos:=k.pos
      have hwl:=B0 ws
      have hwl':(az ws).length≤1000:=by simp [az];omega
      have hne:(az (ws++[(k,p)])).isEmpty=false:=by simp [az]
      have ew:az (ws++[(k,p)])=az ws++[encP p]:=by simp [az]
      unfold ya
      rw [CI _ _ _ _ (J4 _),hne,ew]
      by_cases hi:HZ k=true
      · have t:=Pg n K0 k fs (az ws) p x3 hk hi (by omega) hwl' (by omega)
        obtain ⟨a,b,hab,hpre⟩:∃ a b,k.leaves=a.leaves+b.leaves∧(∀ q,pre k q=q::(pre a (q++[0])++pre b (q++[1])))∧(qf k [0]=some a∧qf k [1]=some b):=by
          cases k with
          | either a b=>exact ⟨a,b,rfl,fun q=>rfl,by simp [qf,wc],by simp [qf,wc]⟩
          | both a b=>exact ⟨a,b,rfl,fun q=>rfl,by simp [qf,wc],by simp [qf,wc]⟩
          | none=>cases hi
          | one=>cases hi
          | name _=>cases hi
        obtain ⟨hpre,ha,hb⟩:=hpre
        have pa:=a.pos
        have pb:=b.pos
        obtain ⟨x3',e⟩:=C1 n K0 fuel (ws++[(b,p++[1]),(a,p++[0])]) (fs++[encP p]) (some (.loc (encP p))) (fun x hx=>by
          rcases List.mem_append.mp hx with hx | hx
          · exact hrest x hx
          · simp only [List.mem_cons,List.not_mem_nil,or_false] at hx
            rcases hx with rfl | rfl
            · exact ⟨by show qf K0 (p++[1])=some b;rw [o3,hk];exact hb,by show (p++[1]).length+b.leaves≤100;simp;omega⟩
            · exact ⟨by show qf K0 (p++[0])=some a;rw [o3,hk];exact ha,by show (p++[0]).length+a.leaves≤100;simp;omega⟩) (by rw [ie];simp only [fy];omega) (by rw [ie];simp only [fy,List.length_append,List.length_singleton];omega)
        refine ⟨x3',?_⟩
        have e1':az (ws++[(b,p++[1]),(a,p++[0])])=az ws++[encP (p++[1]),encP (p++[0])]:=by simp [az]
        have e2':fs++[encP p]++Bu (ws++[(b,p++[1]),(a,p++[0])])=fs++Bu (ws++[(k,p)]):=by simp [Bu,hpre]
        rw [e1',e2'] at e
        simp only [zi,Bool.not_false,t]
        exact e
      · have hi':HZ k=false:=by simpa using hi
        have t:=L9 n K0 k fs (az ws) p x3 hk hi' (by omega)
        have hpre:pre k p=[p]:=by cases k<;>first | rfl | cases hi'
        obtain ⟨x3',e⟩:=C1 n K0 fuel ws (fs++[encP p]) (some (.loc (encP p))) hrest (by omega) (by simp only [List.length_append,List.length_singleton];omega)
        refine ⟨x3',?_⟩
        have e2':fs++[encP p]++Bu ws=fs++Bu (ws++[(k,p)]):=by simp [Bu,hpre]
        rw [e2'] at e
        simp only [zi,Bool.not_false,t]
        exact e
theorem A8(n:Nat)(k:Kd)(h:k.leaves≤50):qm (n+2) [enc k]=some (.ok (.list ((pre k []).map encP))):=by
  have e:cr (jp (n+1))=ze (zn 1 (qp [])) (ze (zn 2 (qp [(zm [])])) (ze (bi CU (oq (n+1))) (zu (za 1)))):=rfl
  show qt 4 (cr (jp (n+1))) [enc k]=_
  rw [e]
  obtain ⟨x3',q⟩:=C1 n k wFuel [(k,[])] [] none (fun x hx=>by simp at hx;subst hx;exact ⟨by simp [qf],by simp;omega⟩) (by simp only [fy];unfold wFuel;omega) (by simp only [fy,List.length_nil];omega)
  have e1':az [(k,[])]=[.tuple []]:=rfl
  have e2':[]++Bu [(k,[])]=(pre k []).map encP:=by simp [Bu]
  rw [e1',e2'] at q
  simp [qt,ze,zn,qp,zm,zo,zv,zi,lfs,lf,asg,bi,q,zu,za]
theorem Lp:∀ (k:Kd) (p q:List Int),q∈pre k p↔∃ r,q=p++r∧(qf k r).isSome=true:=by
  have leaf:∀ (p q:List Int) (k:Kd),pre k p=[p]→(∀ s r,qf k (s::r)=none)→(q∈pre k p↔∃ r,q=p++r∧(qf k r).isSome=true):=fun p q k h1 h2=>by
    rw [h1]
    constructor
    · intro h
      rw [List.mem_singleton] at h
      exact ⟨[],by simp [h],by simp [qf]⟩
    · rintro ⟨r,rfl,h⟩
      cases r with
      | nil=>simp
      | cons s r=>rw [h2 s r] at h;cases h
  have inner:∀ (p q:List Int) (k a b:Kd),pre k p=p::(pre a (p++[0])++pre b (p++[1]))→(∀ s r,qf k (s::r)=if s=0 then qf a r else if s=1 then qf b r else none)→
      (q∈pre a (p++[0])↔∃ r,q=p++[0]++r∧(qf a r).isSome=true)→(q∈pre b (p++[1])↔∃ r,q=p++[1]++r∧(qf b r).isSome=true)→
      (q∈pre k p↔∃ r,q=p++r∧(qf k r).isSome=true):=fun p q k a b h1 h2 ha hb=>by
    rw [h1,List.mem_cons,List.mem_append,ha,hb]
    constructor
    · rintro (rfl | ⟨r,rfl,h⟩ | ⟨r,rfl,h⟩)
      · exact ⟨[],by simp,by simp [qf]⟩
      · exact ⟨0::r,by simp,by rw [h2,if_pos rfl];exact h⟩
      · exact ⟨1::r,by simp,by rw [h2,if_neg (by decide),if_pos rfl];exact h⟩
    · rintro ⟨r,rfl,h⟩
      cases r with
      | nil=>exact .inl (by simp)
      | cons s r=>
        rw [h2] at h
        by_cases h0:s=0
        · rw [if_pos h0] at h;subst h0;exact .inr (.inl ⟨r,by simp,h⟩)
        · rw [if_neg h0] at h
          by_cases h1':s=1
          · rw [if_pos h1'] at h;subst h1';exact .inr (.inr ⟨r,by simp,h⟩)
          · rw [if_neg h1'] at h;cases h
  intro k
  induction k with
  | none=>intro p q;exact leaf p q _ rfl fun _ _=>rfl
  | one=>intro p q;exact leaf p q _ rfl fun _ _=>rfl
  | name i=>intro p q;exact leaf p q _ rfl fun _ _=>rfl
  | either a b ha hb=>intro p q;exact inner p q _ a b rfl (fun s r=>by simp only [qf,wc];split;rfl;split<;>rfl) (ha _ q) (hb _ q)
  | both a b ha hb=>intro p q;exact inner p q _ a b rfl (fun s r=>by simp only [qf,wc];split;rfl;split<;>rfl) (ha _ q) (hb _ q)
theorem AS:∀ a b:List Int,PyData.eqvAll (a.map .int) (b.map .int)=(a == b)
  | [],[]=>rfl
  | [],_::_=>rfl
  | _::_,[]=>rfl
  | x::a,y::b=>by
    have:(x::a == y::b)=((x == y) && (a == b)):=rfl
    simp only [List.map_cons,PyData.eqvAll,PyData.eqv,AS a b,this]
theorem JV(a b:List Int):PyData.eqv (encP a) (encP b)=(a == b):=by simp [encP,PyData.eqv,AS]
theorem Ek(q:List Int):∀ xs:List (List Int),(xs.map encP).any (fun y=>PyData.eqv y (encP q))=decide (q∈xs)
  | []=>rfl
  | x::xs=>by
    simp only [List.map_cons,List.any_cons,JV,Ek q xs]
    by_cases h:x=q
    · simp [h]
    · have h':¬ q=x:=fun e=>h e.symm
      simp [h,h',List.mem_cons]
theorem Aq:∀ p:List Int,PyData.depthAll (p.map .int)=0
  | []=>rfl
  | _::p=>by simp [PyData.depthAll,PyData.depth,Aq p]
theorem Fh(q:List Int)(xs:List (List Int)):Af (encP q) (.list (xs.map encP))=some (.bool (!decide (q∈xs))):=by
  have h1:Fd (encP q) (xs.map encP)=true:=by
    have:(encP q).depth=1:=by simp [encP,PyData.depth,Aq]
    have h2:(encP q).canLay0=true:=by simp [encP,PyData.canLay0,my]
    simp [Fd,h2,BG,this]
    omega
  simp only [Af,Ea,h1,if_true,Ek,Option.map]
theorem GC(k:Kd)(q:List Int):q∈pre k []↔(qf k q).isSome=true:=by
  rw [Lp]
  constructor
  · rintro ⟨r,rfl,h⟩;simpa using h
  · intro h;exact ⟨q,by simp,h⟩
theorem Ll(k:Kd):Jx (enc k) .none=some (.bool false):=by cases k<;>rfl
theorem JA:Jx .none .none=some (.bool true):=rfl
theorem Jb(k:Kd):DQ (enc k) .none=some (.bool true):=by cases k<;>rfl
theorem Ij:DQ .none .none=some (.bool false):=rfl
theorem LG:lf .none=true:=rfl
theorem IX(l:Nat):asg l .none=some (.loc .none):=rfl
theorem FN(n:Nat)(k:Kd)(w:Str)(p:List Int)(hk:k.leaves≤45)(hn:k.leaves+2≤n):jw (n+1) [enc k,.str w,encP p]=some (.ok (Ah (wb k w p))):=by
  obtain ⟨n,rfl⟩:∃ m,n=m+2:=⟨n - 2,by omega⟩
  show qt 4 (xf (vh (n+2)) (wo (n+2)) (jp (n+2)) (qm (n+2))) [enc k,.str w,encP p]=_
  have hp:=A8 n k (by omega)
  have hi:=Fh p (pre k [])
  have hm:=GC k p
  unfold wb
  cases e:qf k p with
  | none=>
    have:decide (p∈pre k [])=false:=by rw [e] at hm;simpa using hm
    rw [this] at hi
    simp [qt,xf,ze,sIf,A3,e2,za,zd,zo,zv,zk,zi,hp,j8,hi,zu,eC,lf,Ah]
  | some x=>
    have:decide (p∈pre k [])=true:=by rw [e] at hm;simpa using hm
    rw [this] at hi
    have h1:=m6 (n+1) k x p e
    have h2:=EY (n+1) w x
    have hl:=BP p k x e
    simp only [Option.bind_some]
    cases hx:ww w x with
    | none=>
      rw [hx] at h2
      simp only [Ah] at h2
      simp [qt,xf,ze,sIf,A3,e2,za,zd,zo,zv,zk,zi,hp,j8,hi,zj,zn,h1,h2,IX,LG,LC,eC,JA,zu,Ah]
    | some y=>
      rw [hx] at h2
      simp only [Ah] at h2
      have h3:=G9 p (n+2) k y x (by omega) (by omega) e
      simp [qt,xf,ze,sIf,A3,e2,za,zd,zo,zv,zk,zi,hp,j8,hi,zj,zn,h1,h2,h3,o7,qv,LC,eC,Ll,zu,Ah]
def jz(ts:List (Str×List Int)):List PyData:=ts.map fun t=>yf t.1 t.2
theorem GT(w:Str)(p:List Int):lf (yf w p)=true:=by simp [yf,lf,lfs,qw]
theorem B8:∀ ts,lfs (jz ts)=true
  | []=>rfl
  | t::ts=>by
    show (lf (yf t.1 t.2) && lfs (jz ts))=true
    simp [GT,B8 ts]
def AW(n:Nat):FS:=(sIf (DO (zd (wo n) [(zd (jp n) [(za 0),(za 2)]),(za 3)]) (eC .none)) (vk 1 (zm [(za 3),(za 2)])) zj)
def J8:FE:=(qp [(eC (.str "swap")),(eC (.str "group")),(eC (.str "spread")),(eC (.str "drop"))])
def bm(k:Kd)(t:Str×List Int):Prop:=(wb k t.1 t.2).isSome=true
theorem C0(n:Nat)(k x:Kd)(p:List Int)(w:Str)(ts:List (Str×List Int))(hx:qf k p=some x)(hl:ts.length≤5000)(hT:∀ t∈ts,bm k t):
    ∃ ts',ts.length≤ts'.length∧ts'.length≤ts.length+1∧(∀ t∈ts',bm k t)∧AW (n+1) [some (.par (enc k)),some (.own (jz ts)),some (.loc (encP p)),some (.loc (.str w))]=some (.next [some (.par (enc k)),some (.own (jz ts')),some (.loc (encP p)),some (.loc (.str w))]):=by
  have h1:=m6 n k x p hx
  have h2:=EY n w x
  have hb:(jz ts).length < big:=by simp [jz];unfold big;omega
  cases hy:ww w x with
  | none=>
    rw [hy] at h2
    simp only [Ah] at h2
    exact ⟨ts,by omega,by omega,hT,by simp [AW,sIf,DO,e2,zd,zo,za,zv,zk,zi,h1,h2,j8,eC,Ij,zj]⟩
  | some y=>
    rw [hy] at h2
    simp only [Ah] at h2
    refine ⟨ts++[(w,p)],by simp,by simp,fun t ht=>?_,?_⟩
    · rcases List.mem_append.mp ht with ht | ht
      · exact hT t ht
      · simp only [List.mem_singleton] at ht
        subst ht
        simp [bm,wb,hx,hy]
    · have hlf:=GT w p
      simp only [yf] at hlf
      have e:jz (ts++[(w,p)])=jz ts++[.tuple [.str w,encP p]]:=by simp [jz,yf]
      rw [e]
      simp [AW,sIf,DO,e2,zd,zo,za,zv,zk,zi,h1,h2,j8,eC,Jb,vk,zm,hlf,hb]
theorem Od(n:Nat)(k x:Kd)(p:List Int)(ts:List (Str×List Int))(x3:Option Slot)(hx:qf k p=some x)(hl:ts.length≤4000)(hT:∀ t∈ts,bm k t):
    ∃ ts' x3',ts.length≤ts'.length∧ts'.length≤ts.length+4∧(∀ t∈ts',bm k t)∧kz (uk J8) (zw 3) (AW (n+1)) [some (.par (enc k)),some (.own (jz ts)),some (.loc (encP p)),x3]=some (.next [some (.par (enc k)),some (.own (jz ts')),some (.loc (encP p)),x3']):=by
  obtain ⟨t1,a1,b1,c1,d1⟩:=C0 n k x p "swap" ts hx (by omega) hT
  obtain ⟨t2,a2,b2,c2,d2⟩:=C0 n k x p "group" t1 hx (by omega) c1
  obtain ⟨t3,a3,b3,c3,d3⟩:=C0 n k x p "spread" t2 hx (by omega) c2
  obtain ⟨t4,a4,b4,c4,d4⟩:=C0 n k x p "drop" t3 hx (by omega) c3
  refine ⟨t4,some (.loc (.str "drop")),by omega,by omega,c4,?_⟩
  simp [kz,uk,J8,qp,zo,eC,zv,lfs,lf,q8,zw,d1,d2,d3,d4]
theorem Dz(n:Nat)(k:Kd):∀ (ps:List (List Int)) (ts:List (Str×List Int)) (x2 x3:Option Slot),(∀ p∈ps,(qf k p).isSome=true)→ts.length+4 * ps.length≤4000→(∀ t∈ts,bm k t)→
    ∃ ts' x2' x3',(∀ t∈ts',bm k t)∧ts'.length≤ts.length+4 * ps.length∧q8 (zw 2) (kz (uk J8) (zw 3) (AW (n+1))) (ps.map encP) [some (.par (enc k)),some (.own (jz ts)),x2,x3]=some (.next [some (.par (enc k)),some (.own (jz ts')),x2',x3'])
  | [],ts,x2,x3,_,_,hT=>⟨ts,x2,x3,hT,by simp,rfl⟩
  | p::ps,ts,x2,x3,hp,hl,hT=>by
    simp only [List.length_cons] at hl
    obtain ⟨x,hx⟩:=Option.isSome_iff_exists.mp (hp p (by simp))
    obtain ⟨t1,y3,a1,b1,c1,d1⟩:=Od n k x p ts x3 hx (by omega) hT
    obtain ⟨t2,z2,z3,e1',e2',e3'⟩:=Dz n k ps t1 (some (.loc (encP p))) y3 (fun q hq=>hp q (by simp [hq])) (by omega) c1
    refine ⟨t2,z2,z3,e1',by simp only [List.length_cons];omega,?_⟩
    rw [← e3']
    exact mf (tg:=zw 2) (d:=encP p) rfl d1
theorem ma:∀ (k:Kd) (p:List Int),(pre k p).length+1=2 * k.leaves
  | .none,p=>rfl
  | .one,p=>rfl
  | .name _,p=>rfl
  | .either a b,p=>by have:=ma a (p++[0]);have:=ma b (p++[1]);simp only [pre,List.length_cons,List.length_append,Kd.leaves];omega
  | .both a b,p=>by have:=ma a (p++[0]);have:=ma b (p++[1]);simp only [pre,List.length_cons,List.length_append,Kd.leaves];omega
theorem MK(n:Nat)(k:Kd)(hk:k.leaves≤45):∃ ts,qi (n+3) [enc k]=some (.ok (.list (jz ts)))∧(∀ t∈ts,bm k t)∧ts.length≤400:=by
  have e:kt (wo (n+2)) (jp (n+2)) (qm (n+2))=ze (zn 1 (qp [])) (ze (kz (uk (zd (qm (n+2)) [(za 0)])) (zw 2) (kz (uk J8) (zw 3) (AW (n+2)))) (zu (za 1))):=rfl
  have hp:=A8 n k (by omega)
  have hlen:=ma k []
  obtain ⟨ts,x2,x3,h1,h2,h3⟩:=Dz (n+1) k (pre k []) [] none none (fun p hp=>(GC k p).mp hp) (by simp;omega) (by simp)
  refine ⟨ts,?_,h1,by simp at h2;omega⟩
  show qt 4 (kt (wo (n+2)) (jp (n+2)) (qm (n+2))) [enc k]=_
  rw [e]
  have h3':q8 (zw 2) (kz (uk J8) (zw 3) (AW (n+2))) ((pre k []).map encP) [some (.par (enc k)),some (.own []),none,none]=_:=h3
  simp [qt,ze,zn,qp,zo,zv,zi,asg,lf,lfs,kz,uk,zd,za,hp,j8,BN,h3',zu]
def Ke(c fac:Int):Int:=((c * fac+7919) % 2147483647) * ((c * fac+7919) % 2147483647) % 2147483647 * 40692 % 2147483399
def BR(c f fac:Int):Int:=f * 1000000000+Ke c fac / 7
def AR:FS:=(ze (zn 3 (yv (qc (vc (za 0) (za 2)) (eC (.int 7919))) (eC (.int 2147483647)))) (ze (zn 3 (yv (vc (yv (vc (za 3) (za 3)) (eC (.int 2147483647))) (eC (.int 40692))) (eC (.int 2147483399)))) (zn 1 (qc (vc (za 1) (Mh (eC (.int 10)) (eC (.int 9)))) (A4 (za 3) (eC (.int 7)))))))
theorem Ht(c f fac:Int)(x:Option Slot)(h:fac.natAbs < 2 ^ 64):AR [some (.par (.int c)),some (.loc (.int f)),some (.loc (.int fac)),x]=
    some (.next [some (.par (.int c)),some (.loc (.int (BR c f fac))),some (.loc (.int fac)),some (.loc (.int (Ke c fac)))]):=by
  have b1:=Int.emod_nonneg (c * fac+7919) (b:=2147483647) (by decide)
  have b2:=Int.emod_lt_of_pos (c * fac+7919) (b:=2147483647) (by decide)
  have h1:CMulD c fac:=Bx h
  have h2:CMulD ((c * fac+7919) % 2147483647) ((c * fac+7919) % 2147483647):=Bx (by omega)
  have h3:∀ i:Int,CMulD i 40692:=fun i=>Bx (by decide)
  have h4:∀ i:Int,CMulD i 1000000000:=fun i=>Bx (by decide)
  simp [AR,ze,zn,yv,qc,vc,za,eC,Mh,A4,e2,zk,zi,uj,A7,i0,Ig,Nd,h1,h2,h3,h4,asg,lf,lim,BR,Ke]
def K1(c:Int):Int:=BR c (BR c (BR c (BR c 0 48271) 69621) 39373) 44488
theorem GE(n:Nat)(c:Int):xz (n+1) [.int c]=some (.ok (.int (K1 c))):=by
  have e:At=ze (zn 1 (eC (.int 0))) (ze (kz (uk (qp [(eC (.int 48271)),(eC (.int 69621)),(eC (.int 39373)),(eC (.int 44488))])) (zw 2) AR) (zu (za 1))):=rfl
  unfold xz
  rw [e]
  simp [qt,ze,zn,eC,zi,asg,lf,lfs,kz,uk,qp,zo,zv,q8,zw,Ht,zu,za,K1]
def vm(ns:List Int)(k:Nat):Int:=K1 (ns.getD k 0)
theorem Lz{α:Type}{xs:List α}{k:Nat}{v:α}(h:xs[k]? =some v):atP xs (k:Int)=some v:=by
  have hk:k < xs.length:=(List.getElem?_eq_some_iff.mp h).1
  unfold atP ixP
  rw [if_pos (by omega),if_pos (by omega)]
  simpa using h
theorem ao(n:Nat)(ns:List Int)(k:Nat):zy (n+2) [.list (ns.map .int),.int (k:Int)]=some (.ok (.int (vm ns k))):=by
  unfold zy
  by_cases h:k < ns.length
  · have hx:atP (ns.map PyData.int) (k:Int)=some (.int ns[k]):=Lz (by simp [h])
    have hc:(k:Int) < (ns.length:Int):=by omega
    simp [qt,lq,ze,sIf,eLt,e2,za,wm,e1,ce,dLt,zk,zi,hc,zu,zd,zo,zv,eIx,dIx,hx,GE,j8,lf,vm,h]
  · have hc:¬ (k:Int) < (ns.length:Int):=by omega
    have hg:ns[k]? =none:=List.getElem?_eq_none (Nat.le_of_not_lt h)
    simp [qt,lq,ze,sIf,eLt,e2,za,wm,e1,ce,dLt,zk,zi,hc,zj,zu,zd,eC,zo,zv,GE,j8,lf,vm,hg]
def Av(c k b:Int):Int:=
  let s1:=(c % 2147483629+1+k * 1000003) % 2147483647
  let s2:=s1 * s1 % 2147483647 * 48271 % 2147483629
  let s3:=s2 * s2 % 2147483629 * 40692 % 2147483399
  s3 / 97 % b
theorem dg{c k b:Int}(h:0 < b):0≤Av c k b:=Int.emod_nonneg _ (by omega)
theorem ci{c k b:Int}(h:0 < b):Av c k b < b:=Int.emod_lt_of_pos _ h
theorem ed(n:Nat)(c k b:Int)(h:0 < b):vw (n+1) [.int c,.int k,.int b]=some (.ok (.int (Av c k b))):=by
  have a1:=Int.emod_nonneg (c % 2147483629+1+k * 1000003) (b:=2147483647) (by decide)
  have a2:=Int.emod_lt_of_pos (c % 2147483629+1+k * 1000003) (b:=2147483647) (by decide)
  generalize hs1:(c % 2147483629+1+k * 1000003) % 2147483647=s1 at a1 a2
  have b1:=Int.emod_nonneg (s1 * s1 % 2147483647 * 48271) (b:=2147483629) (by decide)
  have b2:=Int.emod_lt_of_pos (s1 * s1 % 2147483647 * 48271) (b:=2147483629) (by decide)
  generalize hs2:s1 * s1 % 2147483647 * 48271 % 2147483629=s2 at b1 b2
  have m1:CMulD k 1000003:=Bx (by decide)
  have m2:CMulD s1 s1:=Bx (by omega)
  have m3:∀ i:Int,CMulD i 48271:=fun i=>Bx (by decide)
  have m4:CMulD s2 s2:=Bx (by omega)
  have m5:∀ i:Int,CMulD i 40692:=fun i=>Bx (by decide)
  unfold vw
  simp [qt,Bi,ze,zn,yv,qc,vc,za,eC,A4,e2,zk,zi,uj,A7,i0,Ig,m1,hs1,m2,m3,hs2,m4,m5,asg,lf,lim,zu,h,Av]
theorem B1(n:Nat)(c leaves k:Int)(h:leaves < 2):∃ kd:Kd,q5 (n+2) [.int c,.int leaves,.int k]=some (.ok (enc kd))∧kd.Ok∧kd.leaves=1:=by
  have d0:=dg (c:=c) (k:=5 * k) (b:=12) (by decide)
  have d1:=ci (c:=c) (k:=5 * k) (b:=12) (by decide)
  have e:=ed n c (5 * k) 12 (by decide)
  have m5:CMulD 5 k:=L7 (by decide)
  generalize Av c (5 * k) 12=w at d0 d1 e
  by_cases w0:w=0
  · exact ⟨.none,by unfold q5;simp [qt,gn,ze,sIf,eLt,e2,za,eC,zk,zi,dLt,h,zn,zd,zo,zv,vc,i0,m5,e,j8,asg,lf,lfs,eEq,dEq,vt,w0,zu,zm,enc],trivial,rfl⟩
  · have w0':(w == 0)=false:=by simp [w0]
    by_cases w3:w < 3
    · exact ⟨.one,by unfold q5;simp [qt,gn,ze,sIf,eLt,e2,za,eC,zk,zi,dLt,h,zn,zd,zo,zv,vc,i0,m5,e,j8,asg,lf,lfs,eEq,dEq,vt,w0',w3,zj,zu,zm,enc],trivial,rfl⟩
    · refine ⟨.name (w % 4),by unfold q5;simp [qt,gn,ze,sIf,eLt,e2,za,eC,zk,zi,dLt,h,zn,zd,zo,zv,vc,i0,m5,e,j8,asg,lf,lfs,eEq,dEq,vt,w0',w3,zj,zu,zm,yv,A7,enc],?_,rfl⟩
      show 0≤w % 4∧w % 4≤3
      omega
theorem tt:∀ (L n:Nat) (c leaves k:Int),leaves≤L→L+1≤n→∃ kd:Kd,q5 (n+1) [.int c,.int leaves,.int k]=some (.ok (enc kd))∧kd.Ok∧(kd.leaves:Int)≤max leaves 1
  | 0,n+1,c,leaves,k,h,_=>by
    obtain ⟨kd,e,o,l⟩:=B1 n c leaves k (by omega)
    exact ⟨kd,e,o,by omega⟩
  | L+1,n+1,c,leaves,k,h,hn=>by
    by_cases h2:leaves < 2
    · obtain ⟨kd,e,o,l⟩:=B1 n c leaves k h2
      exact ⟨kd,e,o,by omega⟩
    · have m5:CMulD 5 k:=L7 (by decide)
      have m2:CMulD 2 k:=L7 (by decide)
      have e1:=ed n c (5 * k+1) (leaves - 1) (by omega)
      have d0:=dg (c:=c) (k:=5 * k+1) (b:=leaves - 1) (by omega)
      have d1:=ci (c:=c) (k:=5 * k+1) (b:=leaves - 1) (by omega)
      have e2':=ed n c (5 * k+2) 2 (by decide)
      have d2:=dg (c:=c) (k:=5 * k+2) (b:=2) (by decide)
      have d3:=ci (c:=c) (k:=5 * k+2) (b:=2) (by decide)
      generalize Av c (5 * k+1) (leaves - 1)=u at d0 d1 e1
      generalize Av c (5 * k+2) 2=w at d2 d3 e2'
      obtain ⟨ka,ea,oa,la⟩:=tt L n c (1+u) (2 * k) (by omega) (by omega)
      obtain ⟨kb,eb,ob,lb⟩:=tt L n c (leaves - (1+u)) (2 * k+1) (by omega) (by omega)
      have hw:w=0∨w=1:=by omega
      rcases hw with rfl | rfl
      · refine ⟨.either ka kb,?_,⟨oa,ob⟩,by simp only [Kd.leaves];push_cast;omega⟩
        unfold q5
        simp [qt,gn,ze,sIf,eLt,e2,za,eC,zk,zi,dLt,h2,zn,zd,zo,zv,vc,i0,m5,m2,e1,e2',ea,eb,j8,asg,lf,lfs,zj,qc,uj,mi,Ix,eIx,qp,dIx,atP,ixP,zu,zm,enc,qv]
      · refine ⟨.both ka kb,?_,⟨oa,ob⟩,by simp only [Kd.leaves];push_cast;omega⟩
        unfold q5
        simp [qt,gn,ze,sIf,eLt,e2,za,eC,zk,zi,dLt,h2,zn,zd,zo,zv,vc,i0,m5,m2,e1,e2',ea,eb,j8,asg,lf,lfs,zj,qc,uj,mi,Ix,eIx,qp,dIx,atP,ixP,zu,zm,enc,qv]
def otB(gp gt gc ga:FC):FS:=(ze (zn 4 (zd ga [(za 2)])) (sIf (kf (eNe (za 4) (qp [])) (eLt (wm (zd gp [(za 2)])) (eC (.int 14)))) (ze (nh (xw 5 6) (eIx (za 4) (yv (zd gc [(za 0),(qc (qc (za 1) (eC (.int 1))) (za 3))]) (wm (za 4))))) (zn 2 (zd gt [(za 2),(za 5),(za 6)]))) zj))
theorem JH(w:Str)(p:List Int)(h:PyData.strOk w=true):(yf w p).canLay0=true:=by simp [yf,PyData.canLay0,PyData.canLayAll0,h,km]
theorem Gp(gp gt gc ga:FC)(k:Kd)(R:List PyData)(x0 x1 x3 x4 x5 x6:Option Slot)(s2:Slot)(h2:s2= .par (enc k)∨s2= .loc (enc k))(ha:ga [enc k]=some (.ok (.list R)))(hl:lfs R=true)(hc:(kf (eNe (za 4) (qp [])) (eLt (wm (zd gp [(za 2)])) (eC (.int 14)))) [x0,x1,some s2,x3,some (.own R),x5,x6]=some (.ok 2 (.bool false))):
    otB gp gt gc ga [x0,x1,some s2,x3,x4,x5,x6]=some (.next [x0,x1,some s2,x3,some (.own R),x5,x6]):=by
  have v:∀ r r',∃ l,za 2 (r::r'::some s2::[x3,x4,x5,x6])=some (.ok l (enc k)):=fun r r'=>by rcases h2 with rfl | rfl<;>exact ⟨_,rfl⟩
  obtain ⟨l,e⟩:=v x0 x1
  have s1:zn 4 (zd ga [(za 2)]) [x0,x1,some s2,x3,x4,x5,x6]=some (.next [x0,x1,some s2,x3,some (.own R),x5,x6]):=by
    simp [zn,zd,zo,e,zv,zi,ha,j8,f8 hl]
  unfold otB
  rw [z7 s1]
  simp only [sIf,hc,zi,zj]
theorem KY(gp gt gc ga:FC)(k k':Kd)(R:List PyData)(w:Str)(p:List Int)(D:PyData)(f j:Int)(c:Int)(x4 x5 x6:Option Slot)(s2:Slot)(h2:s2= .par (enc k)∨s2= .loc (enc k))(ha:ga [enc k]=some (.ok (.list R)))(hl:lfs R=true)
    (hc:(kf (eNe (za 4) (qp [])) (eLt (wm (zd gp [(za 2)])) (eC (.int 14)))) [some (.par D),some (.par (.int f)),some s2,some (.loc (.int j)),some (.own R),x5,x6]=some (.ok 2 (.bool true)))
    (hg:gc [D,.int (f+1+j)]=some (.ok (.int c))) (hR:0 < R.length) (hat:atP R (c % (R.length:Int))=some (yf w p)) (ht:gt [enc k,.str w,encP p]=some (.ok (enc k'))):
    otB gp gt gc ga [some (.par D),some (.par (.int f)),some s2,some (.loc (.int j)),x4,x5,x6]=some (.next [some (.par D),some (.par (.int f)),some (.loc (enc k')),some (.loc (.int j)),some (.own R),some (.loc (.str w)),some (.loc (encP p))]):=by
  have v:∀ r r' rr,∃ l,za 2 (r::r'::some s2::rr)=some (.ok l (enc k)):=fun r r' rr=>by rcases h2 with rfl | rfl<;>exact ⟨_,rfl⟩
  obtain ⟨l,e⟩:=v (some (.par D)) (some (.par (.int f))) [some (.loc (.int j)),x4,x5,x6]
  have s1:zn 4 (zd ga [(za 2)]) [some (.par D),some (.par (.int f)),some s2,some (.loc (.int j)),x4,x5,x6]=some (.next [some (.par D),some (.par (.int f)),some s2,some (.loc (.int j)),some (.own R),x5,x6]):=by
    simp [zn,zd,zo,e,zv,zi,ha,j8,f8 hl]
  have hm:A7 (.int c) (.int (R.length:Int))=some (.int (c % (R.length:Int))):=Ad (by omega)
  have lp:=qw p
  have s3:nh (xw 5 6) (eIx (za 4) (yv (zd gc [(za 0),(qc (qc (za 1) (eC (.int 1))) (za 3))]) (wm (za 4)))) [some (.par D),some (.par (.int f)),some s2,some (.loc (.int j)),some (.own R),x5,x6]=some (.next [some (.par D),some (.par (.int f)),some s2,some (.loc (.int j)),some (.own R),some (.loc (.str w)),some (.loc (encP p))]):=by
    have lt:lf (.tuple [.str w,encP p])=true:=by simp [lf,lfs,lp]
    unfold yf at hat
    simp [nh,eIx,e2,za,yv,zd,zo,qc,eC,wm,e1,zv,zk,zi,p8,hg,j8,ce,hm,dIx,hat,lt,xw]
  obtain ⟨l',e'⟩:=v (some (.par D)) (some (.par (.int f))) [some (.loc (.int j)),some (.own R),some (.loc (.str w)),some (.loc (encP p))]
  have lk:=qv k'
  have s4:zn 2 (zd gt [(za 2),(za 5),(za 6)]) [some (.par D),some (.par (.int f)),some s2,some (.loc (.int j)),some (.own R),some (.loc (.str w)),some (.loc (encP p))]=some (.next [some (.par D),some (.par (.int f)),some (.loc (enc k')),some (.loc (.int j)),some (.own R),some (.loc (.str w)),some (.loc (encP p))]):=by
    have v5:za 5 [some (.par D),some (.par (.int f)),some s2,some (.loc (.int j)),some (.own R),some (.loc (.str w)),some (.loc (encP p))]=some (.ok 1 (.str w)):=rfl
    have v6:za 6 [some (.par D),some (.par (.int f)),some s2,some (.loc (.int j)),some (.own R),some (.loc (.str w)),some (.loc (encP p))]=some (.ok 1 (encP p)):=rfl
    simp [zn,zd,zo,e',v5,v6,zv,zi,ht,j8,asg,lk]
  unfold otB
  rw [z7 s1]
  simp only [sIf,hc,zi]
  rw [z7 s3,s4]
theorem FJ{k:Kd}{t:Str×List Int}(h:bm k t):PyData.strOk t.1=true:=by
  obtain ⟨k',e⟩:=Option.isSome_iff_exists.mp h
  obtain ⟨x,y,_,hh,_⟩:=ix e
  rcases IW t.1 with w | w | w | w | hno
  · rw [w];decide +kernel
  · rw [w];decide +kernel
  · rw [w];decide +kernel
  · rw [w];decide +kernel
  · rw [Cu t.1 x hno] at hh;cases hh
theorem Jq(k:Kd):∀ ts:List (Str×List Int),(∀ t∈ts,bm k t)→PyData.canLayAll0 (jz ts)=true
  | [],_=>rfl
  | t::ts,h=>by
    show ((yf t.1 t.2).canLay0 && PyData.canLayAll0 (jz ts))=true
    rw [JH _ _ (FJ (h t (List.mem_cons_self ..))),Jq k ts fun u hu=>h u (List.mem_cons_of_mem _ hu)];rfl
theorem L0(n:Nat)(ns:List Int)(f j:Nat)(k:Kd)(hk:k.leaves≤45)(hn:k.leaves+2≤n)(x4 x5 x6:Option Slot)(s2:Slot)(h2:s2= .par (enc k)∨s2= .loc (enc k)):
    ∃ (k':Kd) (s2':Slot) (y4 y5 y6:Option Slot),(k'=k∨∃ w p,wb k w p=some k')∧(s2'= .par (enc k')∨s2'= .loc (enc k'))∧
      otB (qm (n+3)) (jw (n+3)) (zy (n+3)) (qi (n+3)) [some (.par (.list (ns.map .int))),some (.par (.int (f:Int))),some s2,some (.loc (.int (j:Int))),x4,x5,x6]=some (.next [some (.par (.list (ns.map .int))),some (.par (.int (f:Int))),some s2',some (.loc (.int (j:Int))),y4,y5,y6]):=by
  obtain ⟨ts,ha,hG,hlen⟩:=MK n k hk
  have hp:=A8 (n+1) k (by omega)
  have hl:=B8 ts
  have hc:=ao (n+1) ns (f+1+j)
  have lay:=IK (jz ts) (Jq k ts hG)
  have v:∀ r r' rr,∃ l,za 2 (r::r'::some s2::rr)=some (.ok l (enc k)):=fun r r' rr=>by rcases h2 with rfl | rfl<;>exact ⟨_,rfl⟩
  generalize hD:PyData.list (ns.map .int)=D at *
  by_cases h0:ts=[]
  · subst h0
    refine ⟨k,s2,some (.own []),x5,x6,.inl rfl,h2,?_⟩
    refine Gp _ _ _ _ k [] _ _ _ _ _ _ s2 h2 ha rfl ?_
    have q:dNe (.list []) (.list [])=some (.bool false):=lay
    simp [kf,eNe,e2,za,qp,zo,zv,zk,lfs,q]
  · obtain ⟨t0,tr,rfl⟩:=List.exists_cons_of_ne_nil h0
    obtain ⟨l,e⟩:=v (some (.par D)) (some (.par (.int (f:Int)))) [some (.loc (.int (j:Int))),some (.own (jz (t0::tr))),x5,x6]
    have q:dNe (.list (jz (t0::tr))) (.list [])=some (.bool true):=lay
    have cond:(kf (eNe (za 4) (qp [])) (eLt (wm (zd (qm (n+3)) [(za 2)])) (eC (.int 14)))) [some (.par D),some (.par (.int (f:Int))),some s2,some (.loc (.int (j:Int))),some (.own (jz (t0::tr))),x5,x6]=some (.ok 2 (.bool (decide (((pre k []).map encP).length < 14)))):=by
      have q4:za 4 [some (.par D),some (.par (.int (f:Int))),some s2,some (.loc (.int (j:Int))),some (.own (jz (t0::tr))),x5,x6]=some (.ok 1 (.list (jz (t0::tr)))):=rfl
      generalize jz (t0::tr)=R at *
      generalize (pre k []).map encP=PP at *
      have ii:(decide ((PP.length:Int) < 14))=decide (PP.length < 14):=by
        by_cases z:PP.length < 14
        · rw [decide_eq_true z,decide_eq_true (by omega)]
        · rw [decide_eq_false z,decide_eq_false (by omega)]
      simp [kf,eNe,e2,q4,qp,zo,zv,zk,lfs,q,eLt,wm,e1,zd,e,hp,j8,ce,eC,dLt,ii]
    by_cases hp14:((pre k []).map encP).length < 14
    · rw [decide_eq_true hp14] at cond
      have hR:0 < (jz (t0::tr)).length:=by simp [jz]
      have hlt:(vm ns (f+1+j) % ((jz (t0::tr)).length:Int)).toNat < (t0::tr).length:=by
        have h1:=Int.emod_nonneg (vm ns (f+1+j)) (b:=((jz (t0::tr)).length:Int)) (by omega)
        have h2:=Int.emod_lt_of_pos (vm ns (f+1+j)) (b:=((jz (t0::tr)).length:Int)) (by omega)
        have h3:(jz (t0::tr)).length=(t0::tr).length:=by simp [jz]
        omega
      obtain ⟨u,hu⟩:∃ u,(t0::tr)[(vm ns (f+1+j) % ((jz (t0::tr)).length:Int)).toNat]? =some u:=⟨_,List.getElem?_eq_getElem hlt⟩
      have hg:=hG u (List.mem_of_getElem? hu)
      obtain ⟨k',hk'⟩:=Option.isSome_iff_exists.mp hg
      have ht:=FN (n+2) k u.1 u.2 hk (by omega)
      rw [hk'] at ht
      have hat:atP (jz (t0::tr)) (vm ns (f+1+j) % ((jz (t0::tr)).length:Int))=some (yf u.1 u.2):=by
        have h1:=Int.emod_nonneg (vm ns (f+1+j)) (b:=((jz (t0::tr)).length:Int)) (by omega)
        rw [← Int.toNat_of_nonneg h1]
        exact F9 (by simp only [jz,List.getElem?_map];simp only [jz] at hu;rw [hu];rfl)
      refine ⟨k',.loc (enc k'),some (.own (jz (t0::tr))),some (.loc (.str u.1)),some (.loc (encP u.2)),.inr ⟨u.1,u.2,hk'⟩,.inr rfl,?_⟩
      have hc':zy (n+3) [D,.int ((f:Int)+1+(j:Int))]=some (.ok (.int (vm ns (f+1+j)))):=by
        rw [← hc];congr 2
      exact KY _ _ _ _ k k' (jz (t0::tr)) u.1 u.2 D _ _ _ _ _ _ s2 h2 ha hl cond hc' hR hat ht
    · rw [decide_eq_false hp14] at cond
      exact ⟨k,s2,some (.own (jz (t0::tr))),x5,x6,.inl rfl,h2,Gp _ _ _ _ k _ _ _ _ _ _ _ s2 h2 ha hl cond⟩
theorem GR(n:Nat)(ns:List Int)(f:Nat):∀ (js:List Nat) (k:Kd) (x3 x4 x5 x6:Option Slot) (s2:Slot),sE k≤40→42≤n→(s2= .par (enc k)∨s2= .loc (enc k))→
    ∃ (k':Kd) (r:TRow) (s2':Slot) (y3 y4 y5 y6:Option Slot),goK k r=some k'∧(s2'= .par (enc k')∨s2'= .loc (enc k'))∧
      q8 (zw 3) (otB (qm (n+3)) (jw (n+3)) (zy (n+3)) (qi (n+3))) (js.map fun (j:Nat)=>PyData.int (j:Int)) [some (.par (.list (ns.map .int))),some (.par (.int (f:Int))),some s2,x3,x4,x5,x6]=some (.next [some (.par (.list (ns.map .int))),some (.par (.int (f:Int))),some s2',y3,y4,y5,y6])
  | [],k,x3,x4,x5,x6,s2,_,_,h2=>⟨k,[],s2,x3,x4,x5,x6,rfl,h2,rfl⟩
  | j::js,k,x3,x4,x5,x6,s2,hs,hn,h2=>by
    have hl:=vi k
    obtain ⟨k1,s1,y4,y5,y6,hk,h2',e⟩:=L0 n ns f j k (by omega) (by omega) x4 x5 x6 s2 h2
    have hk1:∃ r,goK k r=some k1:=by
      rcases hk with rfl | ⟨w,p,hw⟩
      · exact ⟨[],rfl⟩
      · exact ⟨[(w,p)],Kw hw⟩
    obtain ⟨r1,hr1⟩:=hk1
    obtain ⟨k',r,s2',z3,z4,z5,z6,g,h3,e2⟩:=GR n ns f js k1 (some (.loc (.int (j:Int)))) y4 y5 y6 s1 (Nat.le_trans (K5 _ _ _ hr1) hs) hn h2'
    refine ⟨k',r1++r,s2',z3,z4,z5,z6,vj hr1 g,h3,?_⟩
    rw [List.map_cons,← e2]
    exact mf rfl e
theorem ID(n:Nat)(ns:List Int)(f:Nat)(k:Kd)(hs:sE k≤40)(hn:42≤n):∃ (k':Kd) (r:TRow),goK k r=some k'∧wf (n+4) [.list (ns.map .int),.int (f:Int),enc k]=some (.ok (enc k')):=by
  have c:=ao (n+1) ns f
  have hm:A7 (.int (vm ns f)) (.int 9)=some (.int (vm ns f % 9)):=Ad (by decide)
  have h9:0≤vm ns f % 9∧vm ns f % 9 < 9:=by omega
  have hb:(vm ns f % 9).natAbs≤big:=by
    have:(9:Nat)≤big:=by decide
    omega
  obtain ⟨k',r,s2',y3,y4,y5,y6,g,h2,e⟩:=GR n ns f (List.range (vm ns f % 9).toNat) k none none none none (.par (enc k)) hs hn (.inl rfl)
  refine ⟨k',r,g,?_⟩
  have eq:de (qm (n+3)) (jw (n+3)) (zy (n+3)) (qi (n+3))=(ze (kz (iR1 (yv (zd (zy (n+3)) [(za 0),(za 1)]) (eC (.int 9)))) (zw 3) (otB (qm (n+3)) (jw (n+3)) (zy (n+3)) (qi (n+3)))) (zu (za 2))):=rfl
  have lk:=qv k'
  have hn':bh (vm ns f % 9).toNat=(List.range (vm ns f % 9).toNat).map fun (j:Nat)=>PyData.int (j:Int):=rfl
  generalize PyData.list (ns.map .int)=D at *
  have s1:kz (iR1 (yv (zd (zy (n+3)) [(za 0),(za 1)]) (eC (.int 9)))) (zw 3) (otB (qm (n+3)) (jw (n+3)) (zy (n+3)) (qi (n+3))) [some (.par D),some (.par (.int (f:Int))),some (.par (enc k)),none,none,none,none]=some (.next [some (.par D),some (.par (.int (f:Int))),some s2',y3,y4,y5,y6]):=by
    have q:(iR1 (yv (zd (zy (n+3)) [(za 0),(za 1)]) (eC (.int 9)))) [some (.par D),some (.par (.int (f:Int))),some (.par (enc k)),none,none,none,none]=some (.ok 2 (bh (vm ns f % 9).toNat)):=by
      simp [iR1,yv,e2,zd,zo,za,eC,zv,zk,c,j8,hm,hb]
    unfold kz
    rw [q,hn']
    exact e
  have s2:zu (za 2) [some (.par D),some (.par (.int (f:Int))),some s2',y3,y4,y5,y6]=some (.ret (enc k')):=by
    rcases h2 with rfl | rfl<;>simp [zu,za,zi,lk]
  unfold wf
  refine g9 ?_
  show de (qm (n+3)) (jw (n+3)) (zy (n+3)) (qi (n+3)) [some (.par D),some (.par (.int (f:Int))),some (.par (enc k)),none,none,none,none]=_
  rw [eq,z7 s1,s2]
def ij:Kd→Kd
  | .either a b=>.either (ij a) (ij b)
  | .both a b=>.both (ij a) (ij b)
  | _=>.one
theorem cq:∀ k:Kd,sE (ij k)=sE k∧nE (ij k)=nE k∧(ij k).leaves=k.leaves
  | .none=>⟨rfl,rfl,rfl⟩
  | .one=>⟨rfl,rfl,rfl⟩
  | .name _=>⟨rfl,rfl,rfl⟩
  | .either a b=>by
    obtain ⟨a1,a2,a3⟩:=cq a;obtain ⟨b1,b2,b3⟩:=cq b
    simp only [ij,sE,nE,Kd.leaves,a1,a2,a3,b1,b2,b3,and_self]
  | .both a b=>by
    obtain ⟨a1,a2,a3⟩:=cq a;obtain ⟨b1,b2,b3⟩:=cq b
    simp only [ij,sE,nE,Kd.leaves,a1,a2,a3,b1,b2,b3,and_self]
theorem JU(gl gd:FC)(k:Kd)(c j d0 d1 d2:Int)(hk:inn k=false)(h0:gd [.int c,.int j,.int 6]=some (.ok (.int d0)))(h1:gd [.int c,.int (j+1),.int 4]=some (.ok (.int d1)))(h2:gd [.int c,.int (j+2),.int 2]=some (.ok (.int d2)))(hd1:0≤d1∧d1 < 4)(hd2:0≤d2∧d2 < 2):
    ∃ k',qt 3 (yy gl gd) [enc k,.int c,.int j]=some (.ok (enc k'))∧ij k'=ij k∧(k.Ok→k'.Ok):=by
  obtain ⟨m,hm,hlt⟩:=ES hk
  have lk:=qv k
  have hs:ij k= .one:=by cases k<;>first | rfl | cases hk
  by_cases z:d0=0
  · subst z
    have q:d2=0∨d2=1:=by omega
    rcases q with rfl | rfl
    · refine ⟨.one,?_,hs.symm,fun _=>trivial⟩
      simp [qt,yy,ze,sIf,eLt,e2,wm,e1,za,eC,zk,zi,hm,dLt,hlt,eEq,zd,zo,zv,h0,h1,h2,j8,CM,zu,eIx,qp,zm,qc,p8,lf,lfs,dIx,atP,ixP,enc]
    · refine ⟨.name d1,?_,hs.symm,fun _=>by simp only [Kd.Ok];omega⟩
      simp [qt,yy,ze,sIf,eLt,e2,wm,e1,za,eC,zk,zi,hm,dLt,hlt,eEq,zd,zo,zv,h0,h1,h2,j8,CM,zu,eIx,qp,zm,qc,p8,lf,lfs,dIx,atP,ixP,enc]
  · refine ⟨k,?_,rfl,id⟩
    have z':(d0 == 0)=false:=by simpa using z
    simp [qt,yy,ze,sIf,eLt,e2,wm,e1,za,eC,zk,zi,hm,dLt,hlt,eEq,zd,zo,zv,h0,j8,CM,z',zj,zu,lk]
theorem bv:∀ (k:Kd) (n:Nat) (c j:Int),k.leaves≤n→∃ k',jt (n+1) [enc k,.int c,.int j]=some (.ok (enc k'))∧ij k'=ij k∧(k.Ok→k'.Ok):=by
  intro k
  by_cases hk:inn k=false
  · intro n c j hn
    obtain ⟨m,rfl⟩:∃ m,n=m+1:=⟨n - 1,by have:=k.pos;omega⟩
    exact JU _ _ k c j _ _ _ hk (ed m c j 6 (by decide)) (ed m c (j+1) 4 (by decide)) (ed m c (j+2) 2 (by decide)) ⟨dg (by decide),ci (by decide)⟩ ⟨dg (by decide),ci (by decide)⟩
  · have two:∀ (w:Str) (C:Kd→Kd→Kd) (a b:Kd),(∀ x y,enc (C x y)= .tuple [.str w,enc x,enc y])→∀ (gl gd:FC) (c j:Int) (a' b':Kd),gl [enc a,.int c,.int (2 * j)]=some (.ok (enc a'))→gl [enc b,.int c,.int (2 * j+1)]=some (.ok (enc b'))→qt 3 (yy gl gd) [enc (C a b),.int c,.int j]=some (.ok (enc (C a' b'))):=fun w C a b hC gl gd c j a' b' h1 h2=>by
      rw [hC,hC]
      have m1:i0 (.int 2) (.int j)=some (.int (2 * j)):=Kr (L7 (by decide))
      have a0:atP [PyData.str w,enc a,enc b] 0=some (.str w):=rfl
      have a1:atP [PyData.str w,enc a,enc b] 1=some (enc a):=rfl
      have a2:atP [PyData.str w,enc a,enc b] 2=some (enc b):=rfl
      have la:=qv a'
      have lb':=qv b'
      simp [qt,yy,ze,sIf,eLt,e2,wm,e1,za,eC,zk,zi,ce,dLt,zj,zu,zm,zo,zv,eIx,dIx,a0,a1,a2,zd,vc,m1,qc,p8,h1,h2,j8,lf,lfs,la,lb']
    intro n c j hn
    cases k with
    | none=>exact absurd rfl hk
    | one=>exact absurd rfl hk
    | name i=>exact absurd rfl hk
    | either a b=>
      have pa:=a.pos
      have pb:=b.pos
      simp only [Kd.leaves] at hn
      obtain ⟨m,rfl⟩:∃ m,n=m+1:=⟨n - 1,by omega⟩
      obtain ⟨a',e1,s1,o1⟩:=bv a m c (2 * j) (by omega)
      obtain ⟨b',e2,s2,o2⟩:=bv b m c (2 * j+1) (by omega)
      exact ⟨.either a' b',two "either" .either a b (fun _ _=>rfl) _ _ c j a' b' e1 e2,by simp only [ij,s1,s2],fun o=>⟨o1 o.1,o2 o.2⟩⟩
    | both a b=>
      have pa:=a.pos
      have pb:=b.pos
      simp only [Kd.leaves] at hn
      obtain ⟨m,rfl⟩:∃ m,n=m+1:=⟨n - 1,by omega⟩
      obtain ⟨a',e1,s1,o1⟩:=bv a m c (2 * j) (by omega)
      obtain ⟨b',e2,s2,o2⟩:=bv b m c (2 * j+1) (by omega)
      exact ⟨.both a' b',two "both" .both a b (fun _ _=>rfl) _ _ c j a' b' e1 e2,by simp only [ij,s1,s2],fun o=>⟨o1 o.1,o2 o.2⟩⟩
termination_by k=>k.leaves
decreasing_by all_goals (simp only [Kd.leaves];omega)
def Lk:FE:=(xc (yz (qc (za 1) (za 0))))
theorem MP(x y:List Int)(h:x.length+y.length < 64):Lk [some (.par (zl y)),some (.par (zl x))]=some (.ok 2 (zl (ql ltI (x++y)))):=by
  have h1:=DF x y (by unfold big;omega)
  have h2:=A9 (x:=x++y) (by simpa using h)
  simp [Lk,xc,yz,qc,e1,e2,za,zk,h1,h2,DE]
theorem En(x:List Int):∀ ys:List (List Int),(∀ y∈ys,x.length+y.length < 64)→ny Lk [some (.par (zl x))] (ys.map zl)=some ((yu x ys).map zl)
  | [],_=>rfl
  | y::ys,h=>by
    have h1:=MP x y (h y (List.mem_cons_self ..))
    have ih:=En x ys fun z hz=>h z (List.mem_cons_of_mem _ hz)
    simp only [List.map_cons,ny,h1,lfR,if_true,ih,Option.map_some,yu]
def Le:FS:=(u1 4 (BQ (uk (za 3)) [5] Lk))
theorem GH(ys:List (List Int))(hy:ys.length≤18)(r0 r1 r2:Option Slot):∀ (xs acc:List (List Int)) (x5:Option Slot),(∀ x∈xs,∀ y∈ys,x.length+y.length < 64)→acc.length+(xs.length) * 18≤5000→
    ∃ x',q8 (zw 5) Le (xs.map zl) [r0,r1,r2,some (.own (ys.map zl)),some (.own (acc.map zl)),x5]=some (.next [r0,r1,r2,some (.own (ys.map zl)),some (.own ((acc++ji xs ys).map zl)),x'])
  | [],acc,x5,_,_=>⟨x5,by simp [q8,ji]⟩
  | x::xs,acc,x5,h,hz=>by
    simp only [List.length_cons] at hz
    have hc:=En x ys (h x (List.mem_cons_self ..))
    have hl:(yu x ys).length=ys.length:=by simp [yu]
    obtain ⟨x',e⟩:=GH ys hy r0 r1 r2 xs (acc++yu x ys) (some (.loc (zl x))) (fun z hz=>h z (List.mem_cons_of_mem _ hz)) (by rw [List.length_append,hl];omega)
    refine ⟨x',?_⟩
    have hb:ys.length≤big:=by unfold big;omega
    have hb2:acc.length+ys.length≤big:=by unfold big;omega
    have t:Le [r0,r1,r2,some (.own (ys.map zl)),some (.own (acc.map zl)),some (.loc (zl x))]=some (.next [r0,r1,r2,some (.own (ys.map zl)),some (.own ((acc++yu x ys).map zl)),some (.loc (zl x))]):=by
      simp [Le,u1,BQ,uk,za,on,hb,bo,hc,zi,hl,hb2]
    simp only [List.map_cons,q8,zw,List.set_cons_succ,List.set_cons_zero,t]
    rw [e,j0,List.append_assoc]
theorem fu:∀ (k:Kd) (n:Nat),k.leaves < n→k.leaves≤63→Fit k→jh n [enc k]=some (.ok (we (ga k)))
  | .none,n+1,_,_,_=>by
    unfold jh
    simp [qt,v9,ze,zn,eIx,e2,za,eC,zk,zi,enc,dIx,atP,ixP,asg,lf,sIf,eEq,dEq,vt,zu,ga,qp,zo,zv,lfs,we]
  | .one,n+1,_,_,_=>by
    unfold jh
    simp [qt,v9,ze,zn,eIx,e2,za,eC,zk,zi,enc,dIx,atP,ixP,asg,lf,sIf,eEq,dEq,vt,zu,ga,qp,zm,zo,zv,lfs,we,zl,w08,zj]
  | .name i,n+1,_,_,_=>by
    have e0:∀ xs:List PyData,atP (PyData.str "name"::xs) 0=some (.str "name"):=fun xs=>by simp [atP,ixP]
    have e1:atP [PyData.str "name",.int i] 1=some (.int i):=rfl
    unfold jh
    simp [qt,v9,ze,zn,eIx,e2,za,eC,zk,zi,enc,dIx,e0,e1,asg,lf,sIf,eEq,dEq,vt,zu,ga,qp,zm,zo,zv,lfs,we,zl,w09,w10,zj]
  | .either a b,n+1,hn,h8,⟨fa,fb,hab⟩=>by
    have pa:=a.pos
    have pb:=b.pos
    simp only [Kd.leaves] at hn h8
    have ea:=fu a n (by omega) (by omega) fa
    have eb:=fu b n (by omega) (by omega) fb
    have la:=El a fa
    have lb':=El b fb
    have e0:atP [PyData.str "either",enc a,enc b] 0=some (.str "either"):=rfl
    have e1:atP [PyData.str "either",enc a,enc b] 1=some (enc a):=rfl
    have e2':atP [PyData.str "either",enc a,enc b] 2=some (enc b):=rfl
    have had:uj (we (ga a)) (we (ga b))=some (we (ga a++ga b)):=by
      have:(ga a).length+(ga b).length≤big:=by unfold big;omega
      simp [uj,we,on,this]
    unfold jh
    simp [qt,v9,ze,zn,eIx,e2,za,eC,zk,zi,enc,dIx,e0,e1,e2',asg,lf,sIf,eEq,dEq,vt,zu,zd,zo,zv,ea,eb,j8,w01,w02,w03,zj,qc,had,ga]
  | .both a b,n+1,hn,h8,⟨fa,fb,hab⟩=>by
    have pa:=a.pos
    have pb:=b.pos
    have hbr:=gr (.both a b) n (by simp only [Kd.leaves] at hn ⊢;omega)
    simp only [Kd.leaves] at hn h8
    have ea:=fu a n (by omega) (by omega) fa
    have eb:=fu b n (by omega) (by omega) fb
    have la:=El a fa
    have lb':=El b fb
    have e0:atP [PyData.str "both",enc a,enc b] 0=some (.str "both"):=rfl
    have e1:atP [PyData.str "both",enc a,enc b] 1=some (enc a):=rfl
    have e2':atP [PyData.str "both",enc a,enc b] 2=some (enc b):=rfl
    have hE:lf (.tuple [PyData.str "both",enc a,enc b])=true:=qv (.both a b)
    show qt 6 (v9 (jh n) (qe n)) [enc (.both a b)]=_
    simp only [enc] at hbr
    simp only [brn] at hbr
    cases hb:(brn a || brn b) with
    | true=>
      rw [hb] at hbr
      simp [qt,v9,ze,zn,eIx,e2,za,eC,zk,zi,enc,dIx,e0,e1,e2',asg,lf,sIf,eEq,dEq,vt,zu,zd,zo,zv,hbr,j8,w04,w05,w06,w07,zj,ga,hb,qp,lfs,we]
    | false=>
      rw [hb] at hbr
      obtain ⟨x',el⟩:=GH (ga b) lb' (some (.par (enc (.both a b)))) (some (.loc (.str "both"))) (some (.loc (.list ((ga a).map zl)))) (ga a) [] none (fun x hx y hy=>by have:=IB a x hx;have:=IB b y hy;omega) (by simp;omega)
      have shape:v9 (jh n) (qe n)=(ze (zn 1 (eIx (za 0) (eC (.int 0)))) (ze (sIf (eEq (za 1) (eC (.str "none"))) (zu (qp [])) zj) (ze (sIf (eEq (za 1) (eC (.str "one"))) (zu (qp [(zm [])])) zj) (ze (sIf (eEq (za 1) (eC (.str "name"))) (zu (qp [(zm [(eIx (za 0) (eC (.int 1)))])])) zj) (ze (sIf (eEq (za 1) (eC (.str "either"))) (zu (qc (zd (jh n) [(eIx (za 0) (eC (.int 1)))]) (zd (jh n) [(eIx (za 0) (eC (.int 2)))]))) zj) (ze (sIf (zd (qe n) [(za 0)]) (zu (qp [])) zj) (ze (zn 2 (zd (jh n) [(eIx (za 0) (eC (.int 1)))])) (ze (zn 3 (zd (jh n) [(eIx (za 0) (eC (.int 2)))])) (ze (zn 4 (qp [])) (ze (yw 2 (zw 5) Le) (zu (za 4)))))))))))):=rfl
      rw [shape]
      simp only [enc,List.map_nil,List.nil_append] at el
      simp only [we] at ea eb
      simp [qt,ze,zn,eIx,e2,za,eC,zk,zi,enc,dIx,e0,e1,e2',GN,f8 (on _),f8 (show lfs []=true from rfl),sIf,eEq,dEq,vt,zu,zd,zo,zv,hbr,ea,eb,j8,w04,w05,w06,w07,zj,ga,hb,qp,lfs,yw,el,we]
  | .none,0,h,_,_=>by omega
  | .one,0,h,_,_=>by omega
  | .name _,0,h,_,_=>by omega
  | .either a b,0,h,_,_=>by omega
  | .both a b,0,h,_,_=>by omega
theorem Ap(k:Kd)(n:Nat)(hn:k.leaves < n)(h8:k.leaves≤63)(hF:Fit k):wg (n+1) [enc k]=some (.ok (we (lb k))):=by
  show qt 1 (o6 (jh n)) [enc k]=_
  have e:=fu k n hn h8 hF
  have hs:=cg (rs:=ga k) (by have:=El k hF;omega)
  rw [Mi] at hs
  simp [qt,o6,zu,yz,e1,zd,zo,za,zv,zk,zi,e,j8,hs]
def D1:FS:=(vk 3 (xc (yz (qc (za 4) (za 5)))))
theorem No(r0 r1 r2:Option Slot)(acc:List PyData)(x y:List Int)(h:x.length+y.length < 64)(ha:acc.length < big):
    D1 [r0,r1,r2,some (.own acc),some (.loc (zl x)),some (.loc (zl y))]=some (.next [r0,r1,r2,some (.own (acc++[zl (ql ltI (x++y))])),some (.loc (zl x)),some (.loc (zl y))]):=by
  have h1:=DF x y (by unfold big;omega)
  have h2:=A9 (x:=x++y) (by simpa using h)
  simp [D1,vk,xc,yz,qc,e1,e2,za,zk,zi,h1,h2,DE,lfR,ha]
theorem Gn(r0 r1 r2:Option Slot)(x:List Int):∀ (ys acc:List (List Int)) (x5:Option Slot),(∀ y∈ys,x.length+y.length < 64)→acc.length+ys.length≤5000→
    ∃ x',q8 (zw 5) D1 (ys.map zl) [r0,r1,r2,some (.own (acc.map zl)),some (.loc (zl x)),x5]=some (.next [r0,r1,r2,some (.own ((acc++yu x ys).map zl)),some (.loc (zl x)),x'])
  | [],acc,x5,_,_=>⟨x5,by simp [q8,yu]⟩
  | y::ys,acc,x5,h,hz=>by
    simp only [List.length_cons] at hz
    have t:=No r0 r1 r2 (acc.map zl) x y (h y (List.mem_cons_self ..)) (by unfold big;simp;omega)
    obtain ⟨x',e⟩:=Gn r0 r1 r2 x ys (acc++[ql ltI (x++y)]) (some (.loc (zl y))) (fun z hz=>h z (List.mem_cons_of_mem _ hz)) (by simp;omega)
    refine ⟨x',?_⟩
    simp only [List.map_cons,q8,zw,List.set_cons_succ,List.set_cons_zero,t]
    rw [show acc.map zl++[zl (ql ltI (x++y))]=(acc++[ql ltI (x++y)]).map zl by simp,e]
    simp [yu]
theorem DT(r0 r1:Option Slot)(ys:List (List Int))(hy:ys.length≤18):∀ (xs acc:List (List Int)) (s2 x4 x5:Option Slot),(s2=some (.own (ys.map zl))∨s2=some (.loc (.list (ys.map zl))))→(∀ x∈xs,∀ y∈ys,x.length+y.length < 64)→acc.length+xs.length * 18≤5000→
    ∃ s2' x4' x5',q8 (zw 4) (yw 2 (zw 5) D1) (xs.map zl) [r0,r1,s2,some (.own (acc.map zl)),x4,x5]=some (.next [r0,r1,s2',some (.own ((acc++ji xs ys).map zl)),x4',x5'])
  | [],acc,s2,x4,x5,_,_,_=>⟨s2,x4,x5,by simp [q8,ji]⟩
  | x::xs,acc,s2,x4,x5,hs,h,hz=>by
    simp only [List.length_cons] at hz
    have hl:(yu x ys).length=ys.length:=by simp [yu]
    obtain ⟨x',e⟩:=Gn r0 r1 (some (.loc (.list (ys.map zl)))) x ys acc x5 (h x (List.mem_cons_self ..)) (by omega)
    obtain ⟨s2',x4',x5',e'⟩:=DT r0 r1 ys hy xs (acc++yu x ys) (some (.loc (.list (ys.map zl)))) (some (.loc (zl x))) x' (.inr rfl) (fun z hz=>h z (List.mem_cons_of_mem _ hz)) (by rw [List.length_append,hl];omega)
    refine ⟨s2',x4',x5',?_⟩
    have t:yw 2 (zw 5) D1 [r0,r1,s2,some (.own (acc.map zl)),some (.loc (zl x)),x5]=some (.next [r0,r1,some (.loc (.list (ys.map zl))),some (.own ((acc++yu x ys).map zl)),some (.loc (zl x)),x']):=by
      rcases hs with rfl | rfl
      · simpa [yw] using e
      · simpa [yw,on] using e
    simp only [List.map_cons,q8,zw,List.set_cons_succ,List.set_cons_zero,t]
    rw [e',j0,List.append_assoc]
theorem Pr:((2:Int) == 1)=false:=rfl
theorem OY:((3:Int) == 1)=false:=rfl
theorem Pk:((3:Int) == 2)=false:=rfl
theorem E9(b:Bool):i0 (.list [.tuple []]) (.int (if b=true then 1 else 0))=some (.list (if b=true then [.tuple []] else [])):=by
  cases b<;>simp [i0,lfs,lf,big]
theorem fk:∀ (k:Kd) (n:Nat),k.leaves≤n→k.leaves≤63→Fit k→zx n [enc k]=some (.ok (we (lb k)))
  | .none,n+1,_,_,_=>by
    have hm:=E9 false
    simp only [Bool.false_eq_true,if_false] at hm
    unfold zx
    simp [qt,yg,ze,sIf,eEq,wm,e1,ce,e2,za,eC,zk,zi,enc,dEq,vt,zu,vc,qp,zm,zo,zv,lf,lfs,Jo,eIx,dIx,atP,ixP,w11,KB,hm,we,lb]
  | .one,n+1,_,_,_=>by
    have hm:=E9 true
    simp only [if_true] at hm
    unfold zx
    simp [qt,yg,ze,sIf,eEq,wm,e1,ce,e2,za,eC,zk,zi,enc,dEq,vt,zu,vc,qp,zm,zo,zv,lf,lfs,Jo,eIx,dIx,atP,ixP,KB,hm,we,zl,lb]
  | .name i,n+1,_,_,_=>by
    have e1':atP [PyData.str "name",.int i] 1=some (.int i):=rfl
    unfold zx
    simp [qt,yg,ze,sIf,eEq,wm,e1,ce,e2,za,eC,zk,zi,enc,dEq,vt,zu,qp,zm,zo,zv,lf,lfs,eIx,dIx,e1',zj,Pr,we,zl,lb]
  | .either a b,n+1,hn,h8,⟨fa,fb,hab⟩=>by
    have pa:=a.pos
    have pb:=b.pos
    simp only [Kd.leaves] at hn h8
    have ea:=fk a n (by omega) (by omega) fa
    have eb:=fk b n (by omega) (by omega) fb
    have la:=io a fa
    have lb':=io b fb
    have e0:atP [PyData.str "either",enc a,enc b] 0=some (.str "either"):=rfl
    have e1':atP [PyData.str "either",enc a,enc b] 1=some (enc a):=rfl
    have e2':atP [PyData.str "either",enc a,enc b] 2=some (enc b):=rfl
    have had:uj (.list ((lb a).map zl)) (.list ((lb b).map zl))=some (we (lb a++lb b)):=by
      have:(lb a).length+(lb b).length≤big:=by unfold big;omega
      simp [uj,we,on,this]
    have hs:=cg (rs:=lb a++lb b) (by simp;omega)
    simp only [we] at ea eb
    unfold zx
    simp [qt,yg,ze,sIf,eEq,wm,e1,ce,e2,za,eC,zk,zi,enc,dEq,vt,zu,zo,zv,eIx,dIx,e0,e1',e2',zj,OY,Pk,zn,zd,ea,eb,j8,f8 (on _),yz,qc,had,hs,lb]
  | .both a b,n+1,hn,h8,hF=>by
    obtain ⟨fa,fb,hab⟩:=id hF
    have pa:=a.pos
    have pb:=b.pos
    have h18:=io (.both a b) hF
    simp only [Kd.leaves] at hn h8
    have ea:=fk a n (by omega) (by omega) fa
    have eb:=fk b n (by omega) (by omega) fb
    have la:=io a fa
    have lb':=io b fb
    have e0:atP [PyData.str "both",enc a,enc b] 0=some (.str "both"):=rfl
    have e1':atP [PyData.str "both",enc a,enc b] 1=some (enc a):=rfl
    have e2':atP [PyData.str "both",enc a,enc b] 2=some (enc b):=rfl
    simp only [lb,wa] at h18
    have hs:=cg (rs:=ji (lb a) (lb b)) (by omega)
    obtain ⟨s2',x4',x5',el⟩:=DT (some (.par (enc (.both a b)))) (some (.loc (.list ((lb a).map zl)))) (lb b) lb' (lb a) [] (some (.own ((lb b).map zl))) none none (.inl rfl) (fun x hx y hy=>by have:=be a x hx;have:=be b y hy;omega) (by simp;omega)
    simp only [enc,List.map_nil,List.nil_append] at el
    simp only [we] at ea eb hs
    have shape:yg (zx n)=(ze (sIf (eEq (wm (za 0)) (eC (.int 1))) (zu (vc (qp [(zm [])]) (Jo (eEq (eIx (za 0) (eC (.int 0))) (eC (.str "one")))))) zj) (ze (sIf (eEq (wm (za 0)) (eC (.int 2))) (zu (qp [(zm [(eIx (za 0) (eC (.int 1)))])])) zj) (ze (zn 1 (zd (zx n) [(eIx (za 0) (eC (.int 1)))])) (ze (zn 2 (zd (zx n) [(eIx (za 0) (eC (.int 2)))])) (ze (sIf (eEq (eIx (za 0) (eC (.int 0))) (eC (.str "either"))) (zu (yz (qc (za 1) (za 2)))) zj) (ze (zn 3 (qp [])) (ze (yw 1 (zw 4) (yw 2 (zw 5) D1)) (zu (yz (za 3)))))))))):=rfl
    show qt 6 (yg (zx n)) [enc (.both a b)]=_
    rw [shape]
    have hF:∀ ρ:Rho,ρ[1]? =some (some (.own ((lb a).map zl)))→yw 1 (zw 4) (yw 2 (zw 5) D1) ρ=q8 (zw 4) (yw 2 (zw 5) D1) ((lb a).map zl) (ρ.set 1 (some (.loc (.list ((lb a).map zl))))):=fun ρ h=>by
      rw [yw,h]
    simp [qt,ze,sIf,eEq,wm,e1,ce,e2,za,eC,zk,zi,enc,dEq,vt,zu,zo,zv,eIx,dIx,e0,e1',e2',zj,OY,Pk,zn,zd,ea,eb,j8,f8 (on _),f8 (show lfs []=true from rfl),w07,qp,lfs,hF,el,yz,hs,lb,we]
  | .none,0,h,_,_=>by simp [Kd.leaves] at h
  | .one,0,h,_,_=>by simp [Kd.leaves] at h
  | .name _,0,h,_,_=>by simp [Kd.leaves] at h
  | .either a b,0,h,_,_=>by have:=a.pos;simp only [Kd.leaves] at h;omega
  | .both a b,0,h,_,_=>by have:=a.pos;simp only [Kd.leaves] at h;omega
theorem J3(a b:List Int):PyData.eqv (zl a) (zl b)=(a == b):=by simp [zl,PyData.eqv,AS]
theorem Cg:∀ a b:List (List Int),PyData.eqvAll (a.map zl) (b.map zl)=(a == b)
  | [],[]=>rfl
  | [],_::_=>rfl
  | _::_,[]=>rfl
  | x::xs,y::ys=>by simp only [List.map_cons,PyData.eqvAll,J3,Cg xs ys,List.cons_beq_cons]
theorem BW:∀ a:List (List Int),PyData.canLayAll0 (a.map zl)=true
  | []=>rfl
  | x::xs=>by
    have:=km x
    simp only [List.map_cons,PyData.canLayAll0,BW xs,Bool.and_true]
    exact this
theorem DS(a b:List (List Int)):vt (we a) (we b)=some (a == b):=by
  have h1:ai (we a) (we b)=true:=by
    have d:=GP a
    simp only [ai,we,PyData.canLay0,BW,Bool.true_and,PyData.depth,decide_eq_true_eq]
    omega
  unfold we at *
  simp [vt,h1,PyData.eqv,Cg]
theorem JN{r:List Int}(h:ql ltI r=r):Rs r:=by
  have h1:=Ji r
  rw [h] at h1
  refine List.Pairwise.imp (fun {a b} q=>?_) h1
  have q:decide (b < a)=false:=q
  simp only [decide_eq_false_iff_not] at q
  show a≤b
  omega
def wrd(a b:Kd):Str:=if lb a=lb b then "same" else "unlike"
structure Jd(k:Kd):Prop where
  l:k.leaves≤12
  f:Fit k
  s:sE k≤40
theorem Iv(n:Nat){a b:Kd}(ha:Jd a)(hb:Jd b)(hn:70≤n):∃ rest,jy (n+1) [enc a,enc b]=some (.ok (.tuple (.str (wrd a b)::rest))):=by
  obtain ⟨m,rfl⟩:∃ m,n=m+3:=⟨n - 3,by omega⟩
  have la:=ha.l;have lb':=hb.l
  have ea:wg (m+3) [enc a]=some (.ok (we (lb a))):=Ap a (m+2) (by omega) (by omega) ha.f
  have eb:wg (m+3) [enc b]=some (.ok (we (lb b))):=Ap b (m+2) (by omega) (by omega) hb.f
  have c1:zn 2 (zd (wg (m+3)) [(za 0)]) [some (.par (enc a)),some (.par (enc b)),none,none]=some (.next [some (.par (enc a)),some (.par (enc b)),some (.own ((lb a).map zl)),none]):=by
    simp only [zn,zd,zo,za,List.getElem?_cons_succ,List.getElem?_cons_zero,zv,ea,j8,zi]
    show (asg 2 (.list ((lb a).map zl))).map _=_
    rw [f8 (on _)];rfl
  have c2:zn 3 (zd (wg (m+3)) [(za 1)]) [some (.par (enc a)),some (.par (enc b)),some (.own ((lb a).map zl)),none]=some (.next [some (.par (enc a)),some (.par (enc b)),some (.own ((lb a).map zl)),some (.own ((lb b).map zl))]):=by
    simp only [zn,zd,zo,za,List.getElem?_cons_succ,List.getElem?_cons_zero,zv,eb,j8,zi]
    show (asg 2 (.list ((lb b).map zl))).map _=_
    rw [f8 (on _)];rfl
  have ceq:eEq (za 2) (za 3) [some (.par (enc a)),some (.par (enc b)),some (.own ((lb a).map zl)),some (.own ((lb b).map zl))]=some (.ok 2 (.bool (lb a == lb b))):=by
    have:=DS (lb a) (lb b)
    unfold we at this
    simp only [eEq,e2,za,List.getElem?_cons_succ,List.getElem?_cons_zero,zk,dEq,this,Option.map_some]
    rfl
  show ∃ rest,qt 4 (E8 (wj (m+3)) (qk (m+3)) (wg (m+3))) [enc a,enc b]=_
  by_cases h:lb a=lb b
  · obtain ⟨r1,q1,_,_⟩:=aw a (m+3) ha.s (io a ha.f) (by omega)
    obtain ⟨r2,q2,_,_⟩:=aw b (m+3) hb.s (io b hb.f) (by omega)
    refine ⟨[.list (jg [] r1),.list (jg [] r2)],g9 ?_⟩
    show (ze (zn 2 (zd (wg (m+3)) [(za 0)])) (ze (zn 3 (zd (wg (m+3)) [(za 1)])) (ze (sIf (eEq (za 2) (za 3)) (zu (zm [(eC (.str "same")),(zd (qk (m+3)) [(za 0)]),(zd (qk (m+3)) [(za 1)])])) zj) _))) [some (.par (enc a)),some (.par (enc b)),none,none]=_
    rw [z7 c1,z7 c2]
    have hb':(lb a == lb b)=true:=by simpa using h
    rw [hb'] at ceq
    have r:sIf (eEq (za 2) (za 3)) (zu (zm [(eC (.str "same")),(zd (qk (m+3)) [(za 0)]),(zd (qk (m+3)) [(za 1)])])) zj [some (.par (enc a)),some (.par (enc b)),some (.own ((lb a).map zl)),some (.own ((lb b).map zl))]=some (.ret (.tuple [.str (wrd a b),.list (jg [] r1),.list (jg [] r2)])):=by
      simp only [sIf,ceq,zi,zu,zm,zo,eC,zd,za,List.getElem?_cons_succ,List.getElem?_cons_zero,zv,q1,q2,j8]
      rw [if_pos (by simp)]
      unfold wrd
      rw [if_pos h]
    exact KR r
  · have rsa:∀ x∈lb a,Rs x∧x.length≤20:=fun x hx=>⟨JN (oy a x hx),Nat.le_trans (be a x hx) (by omega)⟩
    have rsb:∀ x∈lb b,Rs x∧x.length≤20:=fun x hx=>⟨JN (oy b x hx),Nat.le_trans (be b x hx) (by omega)⟩
    have l1:=io a ha.f;have l2:=io b hb.f
    obtain ⟨ss,_,_,_,q⟩:=Fg m (lb a) (lb b) (by omega) rsa rsb (fun p=>h (CL p))
    refine ⟨[.tuple (ss.map fun (s:Nat)=>.int (s:Int))],g9 ?_⟩
    show (ze (zn 2 (zd (wg (m+3)) [(za 0)])) (ze (zn 3 (zd (wg (m+3)) [(za 1)])) (ze (sIf (eEq (za 2) (za 3)) (zu (zm [(eC (.str "same")),(zd (qk (m+3)) [(za 0)]),(zd (qk (m+3)) [(za 1)])])) zj) (zu (zm [(eC (.str "unlike")),(zd (wj (m+3)) [(za 2),(za 3)])]))))) [some (.par (enc a)),some (.par (enc b)),none,none]=_
    rw [z7 c1,z7 c2]
    have hb':(lb a == lb b)=false:=by simpa using h
    rw [hb'] at ceq
    have r:sIf (eEq (za 2) (za 3)) (zu (zm [(eC (.str "same")),(zd (qk (m+3)) [(za 0)]),(zd (qk (m+3)) [(za 1)])])) zj [some (.par (enc a)),some (.par (enc b)),some (.own ((lb a).map zl)),some (.own ((lb b).map zl))]=some (.next [some (.par (enc a)),some (.par (enc b)),some (.own ((lb a).map zl)),some (.own ((lb b).map zl))]):=by
      simp only [sIf,ceq,zi,zj]
    rw [z7 r]
    simp only [zu,zm,zo,eC,zd,za,List.getElem?_cons_succ,List.getElem?_cons_zero,zv,q,j8,zi]
    rw [if_pos (by simp)]
    unfold wrd
    rw [if_neg h]
theorem sf:∀ k:Kd,(lb k).length≤nE k
  | .none=>by simp [lb,nE]
  | .one=>by simp [lb,nE]
  | .name _=>by simp [lb,nE]
  | .either a b=>by
    have:=sf a;have:=sf b
    simp only [lb,wa,List.length_append,nE];omega
  | .both a b=>by
    simp only [lb,wa,gq,nE]
    exact Nat.mul_le_mul (sf a) (sf b)
theorem OJ:∀ (r:TRow) (k c:Kd),goK k r=some c→nE c≤nE k
  | [],k,c,h=>by cases h;exact Nat.le_refl _
  | t::r,k,c,h=>by
    simp only [goK] at h
    cases e:wb k t.1 t.2 with
    | none=>rw [e] at h;cases h
    | some d=>
      rw [e] at h
      exact Nat.le_trans (OJ r d c h) (Jz e).1
theorem J7{w:Str}{x y:Kd}(h:ww w x=some y)(o:x.Ok):y.Ok:=by
  unfold ww at h
  split at h
  · cases x<;>simp only [AD,reduceCtorEq,Option.some.injEq] at h<;>subst h<;>exact ⟨o.2,o.1⟩
  · split at h
    · unfold bn at h
      split at h<;>simp only [reduceCtorEq,Option.some.injEq] at h<;>subst h<;>exact ⟨o.1.1,o.1.2,o.2⟩
    · split at h
      · unfold g7 at h
        split at h<;>simp only [reduceCtorEq,Option.some.injEq] at h
        subst h
        exact ⟨⟨o.1,o.2.1⟩,o.1,o.2.2⟩
      · split at h
        · unfold Ae at h
          split at h<;>simp only [reduceCtorEq,Option.some.injEq] at h<;>subst h
          · exact o.2
          · trivial
          · exact o.2
        · cases h
theorem me:∀ (p:List Int) (k x y:Kd),qf k p=some x→(x.Ok→y.Ok)→k.Ok→(kc k p y).Ok
  | [],k,x,y,h,e,o=>by cases h;simpa [kc] using e o
  | s::p,k,x,y,h,e,o=>by
    simp only [qf] at h
    cases hs:wc k s with
    | none=>rw [hs] at h;cases h
    | some c=>
      rw [hs] at h
      have h':qf c p=some x:=h
      cases k with
      | either a b=>
        simp only [kc]
        by_cases z:s=0
        · subst z
          have:c=a:=by simpa [wc] using hs.symm
          subst this
          rw [if_pos rfl]
          exact ⟨me p c x y h' e o.1,o.2⟩
        · have:c=b:=by
            unfold wc at hs
            simp only [z,if_false] at hs
            split at hs<;>simp at hs
            exact hs.symm
          subst this
          rw [if_neg z]
          exact ⟨o.1,me p c x y h' e o.2⟩
      | both a b=>
        simp only [kc]
        by_cases z:s=0
        · subst z
          have:c=a:=by simpa [wc] using hs.symm
          subst this
          rw [if_pos rfl]
          exact ⟨me p c x y h' e o.1,o.2⟩
        · have:c=b:=by
            unfold wc at hs
            simp only [z,if_false] at hs
            split at hs<;>simp at hs
            exact hs.symm
          subst this
          rw [if_neg z]
          exact ⟨o.1,me p c x y h' e o.2⟩
      | none=>simp [wc] at hs
      | one=>simp [wc] at hs
      | name i=>simp [wc] at hs
theorem Ik{k k':Kd}{w:Str}{p:List Int}(h:wb k w p=some k')(o:k.Ok):k'.Ok:=by
  obtain ⟨x,y,hp,hw,rfl⟩:=ix h
  exact me p k x y hp (J7 hw) o
theorem M3:∀ (r:TRow) (k c:Kd),goK k r=some c→k.Ok→c.Ok
  | [],k,c,h,o=>by cases h;exact o
  | t::r,k,c,h,o=>by
    simp only [goK] at h
    cases e:wb k t.1 t.2 with
    | none=>rw [e] at h;cases h
    | some d=>
      rw [e] at h
      exact M3 r d c h (Ik e o)
theorem jd1{k:Kd}(hl:k.leaves≤8)(hs:sE k≤40):Jd k:=⟨by omega,IU k hl,hs⟩
theorem em{a b:Kd}(ha:Jd a)(hb:Jd b)(hl:a.leaves+b.leaves≤12)(hn:nE a+nE b≤18)(hs:sE a+sE b≤40):Jd (.either a b):=
  ⟨hl,⟨ha.f,hb.f,by have:=sf a;have:=sf b;omega⟩,hs⟩
theorem G0{a b:Kd}(ha:Jd a)(hb:Jd b)(hl:a.leaves+b.leaves≤12)(hn:nE a * nE b≤18)(hs:sE a * nE b+sE b * nE a≤40):Jd (.both a b):=
  ⟨hl,⟨ha.f,hb.f,Nat.le_trans (Nat.mul_le_mul (sf a) (sf b)) hn⟩,hs⟩
theorem Jr(n:Nat){a b:Kd}(ha:Jd a)(hb:Jd b)(hn:70≤n){fa fb:FE}{ρ:Rho}{l m:Nat}(h1:fa ρ=some (.ok l (enc a)))(h2:fb ρ=some (.ok m (enc b))):
    eIx (zd (jy (n+1)) [fa,fb]) (eC (.int 0)) ρ=some (.ok 2 (.str (wrd a b))):=by
  obtain ⟨rest,q⟩:=Iv n ha hb hn
  have hx:dIx (.tuple (.str (wrd a b)::rest)) (.int 0)=some (.str (wrd a b)):=by
    show atP (.str (wrd a b)::rest) 0=_
    unfold atP ixP
    rw [if_pos (by decide),if_pos (by simp only [List.length_cons];omega)]
    rfl
  simp only [eIx,e2,zd,zo,h1,h2,zv,q,j8,zk,eC,hx]
  rfl
theorem et{w:Str}{a b k:Kd}(hk:enc k= .tuple [.str w,enc a,enc b]){i j:Nat}{ρ:Rho}(h1:ρ[i]? =some (some (.loc (enc a))))(h2:ρ[j]? =some (some (.loc (enc b)))):zm [(eC (.str w)),(za i),(za j)] ρ=some (.ok 1 (enc k)):=by
  simp only [zm,zo,eC,za,h1,h2,zv,hk]
  rfl
def JB(gj gb:FC):FS:=(ze (zn 4 (eIx (zd gj [(za 1),(za 2)]) (eC (.int 0)))) (ze (sIf (eNe (eIx (zd gj [(zm [(eC (.str "either")),(za 1),(za 3)]),(zm [(eC (.str "either")),(za 3),(za 2)])]) (eC (.int 0))) (za 4)) (zu (eC (.bool false))) zj) (ze (sIf (kf (eNe (zd gb [(za 3)]) (qp [])) (eNe (eIx (zd gj [(zm [(eC (.str "both")),(za 3),(za 1)]),(zm [(eC (.str "both")),(za 2),(za 3)])]) (eC (.int 0))) (za 4))) (zu (eC (.bool false))) zj) (ze (sIf (eNe (eIx (zd gj [(za 1),(za 1)]) (eC (.int 0))) (eC (.str "same"))) (zu (eC (.bool false))) zj) (zu (eEq (eIx (zd gj [(zm [(eC (.str "either")),(za 1),(za 2)]),(zm [(eC (.str "either")),(za 2),(za 1)])]) (eC (.int 0))) (eC (.str "same"))))))))
theorem JO(a:Kd):wrd a a= "same":=if_pos rfl
theorem neS(w:Str):dNe (.str w) (.str w)=some (.bool false):=by rw [MQ];simp
theorem Jf{c:FE}{a b:FS}{ρ:Rho}{l:Nat}(h:c ρ=some (.ok l (.bool false))):sIf c a b ρ=b ρ:=by simp only [sIf,h,zi]
theorem Ko(n:Nat)(hn:70≤n){a b c:Kd}(oa:a.Ok)(ob:b.Ok)(ja:Jd a)(jb:Jd b)(jc:Jd c)(j1:Jd (.either a c))(j2:Jd (.either c b))(j3:Jd (.both c a))(j4:Jd (.both b c))(j5:Jd (.either a b))(j6:Jd (.either b a))(r0:Option Slot):
    JB (jy (n+1)) (zx (n+1)) [r0,some (.loc (enc a)),some (.loc (enc b)),some (.loc (enc c)),none]=some (.ret (.bool true)):=by
  have la:=ja.l;have lb':=jb.l;have lc:=jc.l
  have s1:zn 4 (eIx (zd (jy (n+1)) [(za 1),(za 2)]) (eC (.int 0))) [r0,some (.loc (enc a)),some (.loc (enc b)),some (.loc (enc c)),none]=some (.next [r0,some (.loc (enc a)),some (.loc (enc b)),some (.loc (enc c)),some (.loc (.str (wrd a b)))]):=by
    have h:=Jr n ja jb hn (fa:=za 1) (fb:=za 2) (ρ:=[r0,some (.loc (enc a)),some (.loc (enc b)),some (.loc (enc c)),none]) (l:=1) (m:=1) rfl rfl
    simp only [zn,h,zi,GN,Option.map_some]
    rfl
  unfold JB
  rw [z7 s1]
  generalize hρ:([r0,some (.loc (enc a)),some (.loc (enc b)),some (.loc (enc c)),some (.loc (.str (wrd a b)))]:Rho)=ρ
  have v1:ρ[1]? =some (some (.loc (enc a))):=by rw [← hρ];rfl
  have v2:ρ[2]? =some (some (.loc (enc b))):=by rw [← hρ];rfl
  have v3:ρ[3]? =some (some (.loc (enc c))):=by rw [← hρ];rfl
  have v4:za 4 ρ=some (.ok 1 (.str (wrd a b))):=by rw [← hρ];rfl
  have e1:za 1 ρ=some (.ok 1 (enc a)):=by rw [← hρ];rfl
  have e3:za 3 ρ=some (.ok 1 (enc c)):=by rw [← hρ];rfl
  have c2:eNe (eIx (zd (jy (n+1)) [(zm [(eC (.str "either")),(za 1),(za 3)]),(zm [(eC (.str "either")),(za 3),(za 2)])]) (eC (.int 0))) (za 4) ρ=some (.ok 2 (.bool false)):=by
    have h:=Jr n j1 j2 hn (et (w:="either") (k:=.either a c) rfl v1 v3) (et (w:="either") (k:=.either c b) rfl v3 v2)
    have hw:wrd (.either a c) (.either c b)=wrd a b:=by
      unfold wrd
      simp only [Fo]
    rw [hw] at h
    simp only [eNe,e2,h,zk,v4,neS,Option.map_some]
    rfl
  have c3:kf (eNe (zd (zx (n+1)) [(za 3)]) (qp [])) (eNe (eIx (zd (jy (n+1)) [(zm [(eC (.str "both")),(za 3),(za 1)]),(zm [(eC (.str "both")),(za 2),(za 3)])]) (eC (.int 0))) (za 4)) ρ=some (.ok 2 (.bool false)):=by
    have hb:zx (n+1) [enc c]=some (.ok (we (lb c))):=fk c (n+1) (by omega) (by omega) jc.f
    have hq:dNe (we (lb c)) (.list [])=some (.bool (!(lb c == []))):=by
      have:=DS (lb c) []
      unfold dNe
      rw [show (PyData.list [])=we [] from rfl,this]
      rfl
    have hl:qp [] ρ=some (.ok 2 (.list [])):=rfl
    have hc:eNe (zd (zx (n+1)) [(za 3)]) (qp []) ρ=some (.ok 2 (.bool (!(lb c == [])))):=by
      simp only [eNe,e2,zd,zo,e3,zv,hb,j8,zk,hl,hq,Option.map_some]
      rfl
    cases q:(lb c == []) with
    | true=>
      rw [q] at hc
      simp only [kf,hc,zk,Bool.not_true]
    | false=>
      rw [q] at hc
      have hne:lb c≠[]:=by simpa using q
      have h:=Jr n j3 j4 hn (et (w:="both") (k:=.both c a) rfl v3 v1) (et (w:="both") (k:=.both b c) rfl v2 v3)
      have hw:wrd (.both c a) (.both b c)=wrd a b:=by
        unfold wrd
        simp only [Kq hne (Gx oa (by omega)) (Gx ob (by omega))]
      rw [hw] at h
      simp only [kf,hc,zk,Bool.not_false]
      simp only [eNe,e2,h,zk,v4,neS,Option.map_some]
      rfl
  have c4:eNe (eIx (zd (jy (n+1)) [(za 1),(za 1)]) (eC (.int 0))) (eC (.str "same")) ρ=some (.ok 2 (.bool false)):=by
    have h:=Jr n ja ja hn e1 e1
    rw [JO] at h
    simp only [eNe,e2,h,zk,eC,neS,Option.map_some]
    rfl
  have c5:eEq (eIx (zd (jy (n+1)) [(zm [(eC (.str "either")),(za 1),(za 2)]),(zm [(eC (.str "either")),(za 2),(za 1)])]) (eC (.int 0))) (eC (.str "same")) ρ=some (.ok 2 (.bool true)):=by
    have h:=Jr n j5 j6 hn (et (w:="either") (k:=.either a b) rfl v1 v2) (et (w:="either") (k:=.either b a) rfl v2 v1)
    have hw:wrd (.either a b) (.either b a)= "same":=if_pos (E7 a b)
    rw [hw] at h
    simp only [eEq,e2,h,zk,eC,Bm,Option.map_some,beq_self_eq_true]
    rfl
  have n2:sIf (eNe (eIx (zd (jy (n+1)) [(zm [(eC (.str "either")),(za 1),(za 3)]),(zm [(eC (.str "either")),(za 3),(za 2)])]) (eC (.int 0))) (za 4)) (zu (eC (.bool false))) zj ρ=some (.next ρ):=Jf c2
  have n3:sIf (kf (eNe (zd (zx (n+1)) [(za 3)]) (qp [])) (eNe (eIx (zd (jy (n+1)) [(zm [(eC (.str "both")),(za 3),(za 1)]),(zm [(eC (.str "both")),(za 2),(za 3)])]) (eC (.int 0))) (za 4))) (zu (eC (.bool false))) zj ρ=some (.next ρ):=Jf c3
  have n4:sIf (eNe (eIx (zd (jy (n+1)) [(za 1),(za 1)]) (eC (.int 0))) (eC (.str "same"))) (zu (eC (.bool false))) zj ρ=some (.next ρ):=Jf c4
  rw [z7 n2,z7 n3,z7 n4]
  simp only [zu,c5,zi]
  rfl
theorem Jt(ns:List Int)(_:ns.length≤63):BJ 72 [.list (ns.map .int)]=some (.ok (.bool true)):=by
  show qt 5 (GB (jy 71) (zx 71) (q5 71) (zy 71) (jt 71) (wf 71)) [.list (ns.map .int)]=_
  have c0:=ao 69 ns 0
  have c1:=ao 69 ns 1
  have c12:=ao 69 ns 12
  have c13:=ao 69 ns 13
  have c14:=ao 69 ns 14
  simp only [Nat.reduceAdd,Int.cast_ofNat_Int] at c0 c1 c12 c13 c14
  generalize vm ns 0=v0 at c0
  generalize vm ns 1=v1 at c1
  generalize vm ns 12=v12 at c12
  generalize vm ns 13=v13 at c13
  generalize vm ns 14=v14 at c14
  have m4:0≤v1 % 4∧v1 % 4 < 4:=by omega
  have m2:0≤v14 % 2∧v14 % 2 < 2:=by omega
  obtain ⟨a,ek,oa,la⟩:=tt 8 70 v0 (1+v1 % 4) 1 (by omega) (by omega)
  obtain ⟨c,ec,oc,lc⟩:=tt 8 70 v13 (1+v14 % 2) 1 (by omega) (by omega)
  have hl4:a.leaves≤4:=by omega
  have hl2:c.leaves≤2:=by omega
  have tb4:∀ i:Nat,i≤4→TS i≤8∧TN i≤4:=by
    intro i h
    have:i=0∨i=1∨i=2∨i=3∨i=4:=by omega
    rcases this with rfl | rfl | rfl | rfl | rfl<;>decide
  have tb2:∀ i:Nat,i≤2→TS i≤2∧TN i≤2:=by
    intro i h
    have:i=0∨i=1∨i=2:=by omega
    rcases this with rfl | rfl | rfl<;>decide
  have sa:sE a≤8:=Nat.le_trans (E2 a (by omega)).2 (tb4 _ hl4).1
  have na:nE a≤4:=Nat.le_trans (E2 a (by omega)).1 (tb4 _ hl4).2
  have sc:sE c≤2:=Nat.le_trans (E2 c (by omega)).2 (tb2 _ hl2).1
  have nc:nE c≤2:=Nat.le_trans (E2 c (by omega)).1 (tb2 _ hl2).2
  obtain ⟨b0,r,g,eo⟩:=ID 67 ns 2 a (by omega) (by omega)
  simp only [Nat.reduceAdd,Int.cast_ofNat_Int] at eo
  have sb0:sE b0≤8:=Nat.le_trans (K5 _ _ _ g) sa
  have nb0:nE b0≤4:=Nat.le_trans (OJ _ _ _ g) na
  have ob0:b0.Ok:=M3 r a b0 g oa
  have lb0:=vi b0
  obtain ⟨b1,el,hsh,ob1⟩:=bv b0 70 v12 1 (by omega)
  have sb1:sE b1≤8:=by rw [← (cq b1).1,hsh,(cq b0).1];exact sb0
  have nb1:nE b1≤4:=by rw [← (cq b1).2.1,hsh,(cq b0).2.1];exact nb0
  simp only [Nat.reduceAdd] at el ek ec
  have mod4:A7 (.int v1) (.int 4)=some (.int (v1 % 4)):=Ad (by decide)
  have mod2:A7 (.int v14) (.int 2)=some (.int (v14 % 2)):=Ad (by decide)
  have div4:Ig (.int v1) (.int 4)=some (.int (v1 / 4)):=NC (by decide) (by decide)
  have mod3:A7 (.int (v1 / 4)) (.int 3)=some (.int (v1 / 4 % 3)):=Ad (by decide)
  have lfa:=qv a
  have lfb0:=qv b0
  have lfb1:=qv b1
  have lfc:=qv c
  have e:GB (jy 71) (zx 71) (q5 71) (zy 71) (jt 71) (wf 71)=(ze (zn 1 (zd (q5 71) [(zd (zy 71) [(za 0),(eC (.int 0))]),(qc (eC (.int 1)) (yv (zd (zy 71) [(za 0),(eC (.int 1))]) (eC (.int 4)))),(eC (.int 1))])) (ze (zn 2 (zd (wf 71) [(za 0),(eC (.int 2)),(za 1)])) (ze (sIf (eGt (yv (A4 (zd (zy 71) [(za 0),(eC (.int 1))]) (eC (.int 4))) (eC (.int 3))) (eC (.int 0))) (zn 2 (zd (jt 71) [(za 2),(zd (zy 71) [(za 0),(eC (.int 12))]),(eC (.int 1))])) zj) (ze (zn 3 (zd (q5 71) [(zd (zy 71) [(za 0),(eC (.int 13))]),(qc (eC (.int 1)) (yv (zd (zy 71) [(za 0),(eC (.int 14))]) (eC (.int 2)))),(eC (.int 1))])) (JB (jy 71) (zx 71)))))):=rfl
  generalize PyData.list (ns.map .int)=D at *
  have s1:zn 1 (zd (q5 71) [(zd (zy 71) [(za 0),(eC (.int 0))]),(qc (eC (.int 1)) (yv (zd (zy 71) [(za 0),(eC (.int 1))]) (eC (.int 4)))),(eC (.int 1))]) [some (.par D),none,none,none,none]=some (.next [some (.par D),some (.loc (enc a)),none,none,none]):=by
    simp [zn,zd,zo,za,eC,zv,zk,zi,c0,c1,j8,qc,yv,e2,mod4,p8,ek,asg,lfa]
  have s2:zn 2 (zd (wf 71) [(za 0),(eC (.int 2)),(za 1)]) [some (.par D),some (.loc (enc a)),none,none,none]=some (.next [some (.par D),some (.loc (enc a)),some (.loc (enc b0)),none,none]):=by
    simp [zn,zd,zo,za,eC,zv,zi,eo,j8,asg,lfb0]
  have s3:∃ b:Kd,sE b≤8∧nE b≤4∧b.Ok∧sIf (eGt (yv (A4 (zd (zy 71) [(za 0),(eC (.int 1))]) (eC (.int 4))) (eC (.int 3))) (eC (.int 0))) (zn 2 (zd (jt 71) [(za 2),(zd (zy 71) [(za 0),(eC (.int 12))]),(eC (.int 1))])) zj [some (.par D),some (.loc (enc a)),some (.loc (enc b0)),none,none]=some (.next [some (.par D),some (.loc (enc a)),some (.loc (enc b)),none,none]):=by
    cases q:(decide ((0:Int) < v1 / 4 % 3)) with
    | true=>exact ⟨b1,sb1,nb1,ob1 ob0,by simp only [sIf,eGt,yv,A4,e2,zd,zo,za,eC,zv,zk,zi,List.getElem?_cons_succ,List.getElem?_cons_zero,c1,j8,div4,mod3,dGt,q,Option.map_some];simp [zn,zd,zo,za,eC,zv,zi,c12,j8,el,asg,lfb1]⟩
    | false=>exact ⟨b0,sb0,nb0,ob0,by simp only [sIf,eGt,yv,A4,e2,zd,zo,za,eC,zv,zk,zi,List.getElem?_cons_succ,List.getElem?_cons_zero,c1,j8,div4,mod3,dGt,q,Option.map_some,zj]⟩
  obtain ⟨b,sb,nb,ob,s3⟩:=s3
  have s4:zn 3 (zd (q5 71) [(zd (zy 71) [(za 0),(eC (.int 13))]),(qc (eC (.int 1)) (yv (zd (zy 71) [(za 0),(eC (.int 14))]) (eC (.int 2)))),(eC (.int 1))]) [some (.par D),some (.loc (enc a)),some (.loc (enc b)),none,none]=some (.next [some (.par D),some (.loc (enc a)),some (.loc (enc b)),some (.loc (enc c)),none]):=by
    simp [zn,zd,zo,za,eC,zv,zk,zi,c13,c14,j8,qc,yv,e2,mod2,p8,ec,asg,lfc]
  have lb:=vi b
  have ja:Jd a:=jd1 (by omega) (by omega)
  have jb:Jd b:=jd1 (by omega) (by omega)
  have jc:Jd c:=jd1 (by omega) (by omega)
  have p1:nE c * nE a≤2 * 4:=Nat.mul_le_mul nc na
  have p2:nE b * nE c≤4 * 2:=Nat.mul_le_mul nb nc
  have p3:sE c * nE a≤2 * 4:=Nat.mul_le_mul sc na
  have p4:sE a * nE c≤8 * 2:=Nat.mul_le_mul sa nc
  have p5:sE b * nE c≤8 * 2:=Nat.mul_le_mul sb nc
  have p6:sE c * nE b≤2 * 4:=Nat.mul_le_mul sc nb
  have s5:=Ko 70 (Nat.le_refl _) oa ob ja jb jc (em ja jc (by omega) (by omega) (by omega)) (em jc jb (by omega) (by omega) (by omega)) (G0 jc ja (by omega) (by omega) (by omega)) (G0 jb jc (by omega) (by omega) (by omega)) (em ja jb (by omega) (by omega) (by omega)) (em jb ja (by omega) (by omega) (by omega)) (some (.par D))
  refine g9 ?_
  show GB (jy 71) (zx 71) (q5 71) (zy 71) (jt 71) (wf 71) [some (.par D),none,none,none,none]=_
  rw [e,z7 s1,z7 s2,z7 s3,z7 s4]
  exact s5
end KT
namespace KT
open PySem PySem.Spec PyProof.Rows L2
structure TxtF(K:PySem.W.Frag)(mg:Str→Option Value):Prop where
  t_without_noughts:FunT K mg "without_noughts" va ["terms"]
  t_with_size:FunT K mg "with_size" uc ["terms","name","size"]
  t_difference:FunT K mg "difference" fe ["ones","others"]
  t_parting_sizes:FunT K mg "parting_sizes" ke ["ones","others"]
  t_merged:FunT K mg "merged" eh ["first","second","path","row"]
  t_in_line:FunT K mg "in_line" af ["tree","path","row"]
  t_is_barren:FunT K mg "is_barren" f9 ["kind"]
  t_barren_tree:FunT K mg "barren_tree" xm ["kind","path","row"]
  t_spread_tree:FunT K mg "spread_tree" xg ["first","second","path","row"]
  t_both_of_trees:FunT K mg "both_of_trees" ki ["first","second","path","row"]
  t_factors_in_line:FunT K mg "factors_in_line" yx ["kind","path","row"]
  t_product_tree:FunT K mg "product_tree" kq ["kind","path","row"]
  t_tree_of:FunT K mg "tree_of" aa ["kind","path","row"]
  t_row_to_plain:FunT K mg "row_to_plain" ko ["kind"]
  t_gathered:FunT K mg "gathered" u7 ["kind"]
  t_bundles:FunT K mg "bundles" aq ["kind"]
  t_judged:FunT K mg "judged" e8 ["one","other"]
  t_law_bundles:FunT K mg "_law_bundles" xn ["kind"]
  t_law_draw:FunT K mg "_law_draw" ux ["cell","k","bound"]
  t_law_kind:FunT K mg "_law_kind" uy ["cell","leaves","k"]
  t_law_stir:FunT K mg "_law_stir" u6 ["cell"]
  t_law_cell:FunT K mg "_law_cell" u0 ["script","k"]
  t_law_leafed:FunT K mg "_law_leafed" g8 ["kind","cell","k"]
  t_law_part:FunT K mg "_law_part" u4 ["kind","path"]
  t_law_paths:FunT K mg "_law_paths" ua ["kind"]
  t_law_put:FunT K mg "_law_put" ah ["kind","path","piece"]
  t_law_here:FunT K mg "_law_here" uz ["kind","word"]
  t_law_turned:FunT K mg "_law_turned" fg ["kind","word","path"]
  t_law_all_turnings:FunT K mg "_law_all_turnings" yj ["kind"]
  t_law_other:FunT K mg "_law_other" f6 ["script","first","kind"]
  t_law:FunT K mg "law" dk ["script"]
structure ClsF(K:PySem.W.Frag)(mg:Str→Option Value)(cv:Nat→Value)(pp:Params):Prop where
  nought:True
  KT_NAMES:KTup K mg "NAMES" (.tuple [.int 0,.int 1,.int 2,.int 3])
  N_dict:mg "dict" =none
  N_sorted:mg "sorted" =none
structure AllF(P:Program)(w:World)(K:PySem.W.Frag)(mg:Str→Option Value)(base:Heap)(cv:Nat→Value)(n:Nat):Prop where
  f_without_noughts:FnF (CX1 P w) P w K mg base cv n "without_noughts" 1 (qr n)
  f_with_size:FnF (CX1 P w) P w K mg base cv n "with_size" 3 (qy n)
  f_difference:FnF (CX1 P w) P w K mg base cv n "difference" 2 (yc n)
  f_parting_sizes:FnF (CX1 P w) P w K mg base cv n "parting_sizes" 2 (wj n)
  f_merged:FnR (CX1 P w) P w K mg base cv n "merged" 4 (ju n)
  f_in_line:FnR (CX1 P w) P w K mg base cv n "in_line" 3 (yk n)
  f_is_barren:FnF (CX1 P w) P w K mg base cv n "is_barren" 1 (qe n)
  f_barren_tree:FnR (CX1 P w) P w K mg base cv n "barren_tree" 3 (vf n)
  f_spread_tree:FnR (CX1 P w) P w K mg base cv n "spread_tree" 4 (q9 n)
  f_both_of_trees:FnR (CX1 P w) P w K mg base cv n "both_of_trees" 4 (z8 n)
  f_factors_in_line:FnR (CX1 P w) P w K mg base cv n "factors_in_line" 3 (qg n)
  f_product_tree:FnR (CX1 P w) P w K mg base cv n "product_tree" 3 (yr n)
  f_tree_of:FnR (CX1 P w) P w K mg base cv n "tree_of" 3 (jm n)
  f_row_to_plain:FnF (CX1 P w) P w K mg base cv n "row_to_plain" 1 (qk n)
  f_gathered:FnF (CX1 P w) P w K mg base cv n "gathered" 1 (jh n)
  f_bundles:FnF (CX1 P w) P w K mg base cv n "bundles" 1 (wg n)
  f_judged:FnF (CX1 P w) P w K mg base cv n "judged" 2 (jy n)
  f_law_bundles:FnF (CX1 P w) P w K mg base cv n "_law_bundles" 1 (zx n)
  f_law_draw:FnF (CX1 P w) P w K mg base cv n "_law_draw" 3 (vw n)
  f_law_kind:FnF (CX1 P w) P w K mg base cv n "_law_kind" 3 (q5 n)
  f_law_stir:FnF (CX1 P w) P w K mg base cv n "_law_stir" 1 (xz n)
  f_law_cell:FnF (CX1 P w) P w K mg base cv n "_law_cell" 2 (zy n)
  f_law_leafed:FnF (CX1 P w) P w K mg base cv n "_law_leafed" 3 (jt n)
  f_law_part:FnF (CX1 P w) P w K mg base cv n "_law_part" 2 (jp n)
  f_law_paths:FnF (CX1 P w) P w K mg base cv n "_law_paths" 1 (qm n)
  f_law_put:FnF (CX1 P w) P w K mg base cv n "_law_put" 3 (vh n)
  f_law_here:FnF (CX1 P w) P w K mg base cv n "_law_here" 2 (wo n)
  f_law_turned:FnF (CX1 P w) P w K mg base cv n "_law_turned" 3 (jw n)
  f_law_all_turnings:FnF (CX1 P w) P w K mg base cv n "_law_all_turnings" 1 (qi n)
  f_law_other:FnF (CX1 P w) P w K mg base cv n "_law_other" 3 (wf n)
  f_law:FnF (CX1 P w) P w K mg base cv n "law" 1 (BJ n)
section
variable{P:Program}{w:World}{K:PySem.W.Frag}{mg:Str→Option Value}{base:Heap}{cv:Nat→Value}
theorem Oo(T:TxtF K mg):AllF P w K mg base cv 0:=⟨ul T.t_without_noughts,ul T.t_with_size,ul T.t_difference,ul T.t_parting_sizes,Es T.t_merged,Es T.t_in_line,ul T.t_is_barren,Es T.t_barren_tree,Es T.t_spread_tree,Es T.t_both_of_trees,Es T.t_factors_in_line,Es T.t_product_tree,Es T.t_tree_of,ul T.t_row_to_plain,ul T.t_gathered,ul T.t_bundles,ul T.t_judged,ul T.t_law_bundles,ul T.t_law_draw,ul T.t_law_kind,ul T.t_law_stir,ul T.t_law_cell,ul T.t_law_leafed,ul T.t_law_part,ul T.t_law_paths,ul T.t_law_put,ul T.t_law_here,ul T.t_law_turned,ul T.t_law_all_turnings,ul T.t_law_other,ul T.t_law⟩
theorem O6{n:Nat}(M:MF mg)(T:TxtF K mg)(C:ClsF K mg cv w.params)(A:AllF P w K mg base cv n):AllF P w K mg base cv (n+1):=
  ⟨um T.t_without_noughts fun f fd F=>iz M F C.N_dict,
  um T.t_with_size fun f fd F=>Dm M F A.f_without_noughts,
  um T.t_difference fun f fd F=>Bv M F A.f_without_noughts,
  um T.t_parting_sizes fun f fd F=>ou M F A.f_with_size A.f_difference C.KT_NAMES,
  DP T.t_merged fun f fd F=>Hn M F,
  DP T.t_in_line fun f fd F=>FY M F A.f_merged A.f_in_line,
  um T.t_is_barren fun f fd F=>Cq M F A.f_is_barren,
  DP T.t_barren_tree fun f fd F=>Bh M F A.f_is_barren A.f_tree_of,
  DP T.t_spread_tree fun f fd F=>A0 M F A.f_both_of_trees,
  DP T.t_both_of_trees fun f fd F=>pe M F A.f_merged A.f_spread_tree,
  DP T.t_factors_in_line fun f fd F=>lh M F A.f_merged A.f_factors_in_line,
  DP T.t_product_tree fun f fd F=>sk M F A.f_both_of_trees A.f_tree_of A.f_factors_in_line,
  DP T.t_tree_of fun f fd F=>F0 M F A.f_tree_of A.f_is_barren A.f_barren_tree A.f_product_tree,
  um T.t_row_to_plain fun f fd F=>sq M F A.f_in_line A.f_tree_of,
  um T.t_gathered fun f fd F=>Ei M F A.f_gathered A.f_is_barren C.N_sorted,
  um T.t_bundles fun f fd F=>Ft M F A.f_gathered C.N_sorted,
  um T.t_judged fun f fd F=>HQ M F A.f_parting_sizes A.f_row_to_plain A.f_bundles,
  um T.t_law_bundles fun f fd F=>Al M F A.f_law_bundles C.N_sorted,
  um T.t_law_draw fun f fd F=>D4 M F,
  um T.t_law_kind fun f fd F=>EN M F A.f_law_kind A.f_law_draw,
  um T.t_law_stir fun f fd F=>Eu M F,
  um T.t_law_cell fun f fd F=>DD M F A.f_law_stir,
  um T.t_law_leafed fun f fd F=>Bl M F A.f_law_leafed A.f_law_draw,
  um T.t_law_part fun f fd F=>Eg M F,
  um T.t_law_paths fun f fd F=>Dk M F A.f_law_part,
  um T.t_law_put fun f fd F=>Fv M F A.f_law_put,
  um T.t_law_here fun f fd F=>D8 M F,
  um T.t_law_turned fun f fd F=>Bt M F A.f_law_put A.f_law_here A.f_law_part A.f_law_paths,
  um T.t_law_all_turnings fun f fd F=>ik M F A.f_law_here A.f_law_part A.f_law_paths,
  um T.t_law_other fun f fd F=>De M F A.f_law_paths A.f_law_turned A.f_law_cell A.f_law_all_turnings,
  um T.t_law fun f fd F=>IO M F A.f_judged A.f_law_bundles A.f_law_kind A.f_law_cell A.f_law_leafed A.f_law_other⟩
theorem M4(M:MF mg)(T:TxtF K mg)(C:ClsF K mg cv w.params):∀ n,AllF P w K mg base cv n
  | 0=>Oo T
  | n+1=>O6 M T C (M4 M T C n)
theorem N8{f:Addr}{fd:FuncData}(M:MF mg)(T:TxtF K mg)(C:ClsF K mg cv w.params)(F:Fun K "law" "law" dk f fd):FnOk P w K mg base (CX1 P w) 72 f fd ["script"] (spD cv 1 (BJ 72)):=
  have A:=M4 (P:=P) (w:=w) (base:=base) M T C 71
  IO M F A.f_judged A.f_law_bundles A.f_law_kind A.f_law_cell A.f_law_leafed A.f_law_other
def FD(K:PySem.W.Frag)(x:Str)(st:Stmt):Prop:=∃ (f:Addr) (od an:Option Addr) (sl:Array (Option Value)) (oc kV dc pm cd ct:Value),PySem.W.nsIn K mainGlobals x=some (some (.ref f))∧
  K.lookup f=some ⟨oc,od,.func (PySem.W.fnOf x x (kh st) (vb st) (zq st) .none kV dc pm an cd ct),sl⟩∧PySem.W.codeIn K cd x=true∧PySem.W.keepIn K (.ref f)=true
theorem wp{x:Str}{st:Stmt}{f:Addr}{od an:Option Addr}{sl:Array (Option Value)}{oc kV dc pm cd ct:Value}(a:PySem.W.nsIn K mainGlobals x=some (some (.ref f)))
    (l:K.lookup f=some ⟨oc,od,.func (PySem.W.fnOf x x (kh st) (vb st) (zq st) .none kV dc pm an cd ct),sl⟩) (c:PySem.W.codeIn K cd x=true) (k:PySem.W.keepIn K (.ref f)=true):FD K x st:=⟨f,od,an,sl,oc,kV,dc,pm,cd,ct,a,l,c,k⟩
theorem CA{h:Heap}{x:Str}{st:Stmt}{ps:List Str}(X:K.In h)(G:h.Ns mainGlobals mg)(d:FD K x st)
    (hb:∀ (kV doc pm:Value) (an:Option Addr) (cdv ct:Value) (us:List Value),us.length=ps.length→bindArgs (PySem.W.fnOf x x (kh st) (vb st) (zq st) .none kV doc pm an cdv ct) ⟨us,[]⟩=pure (ps.zip us)):FunT K mg x st ps:=
  let ⟨_,_,_,_,_,_,_,_,_,_,a,l,c,k⟩:=d
  KF X G a l c k hb
theorem bf{h:Heap}{x y0:Str}{st:Stmt}(X:K.In h)(G:h.Ns mainGlobals mg)(d:FD K x st)(H:∀ (kV doc pm:Value) (an:Option Addr) (cdv ct a0:Value),bindArgs (PySem.W.fnOf x x (kh st) (vb st) (zq st) .none kV doc pm an cdv ct) ⟨[a0],[]⟩=pure ([y0].zip [a0])):FunT K mg x st [y0]:=
  CA X G d fun kV doc pm an cdv ct us hl=>let ⟨a0,e⟩:=OB hl;e ▸ H kV doc pm an cdv ct a0
theorem o4{h:Heap}{x y0 y1:Str}{st:Stmt}(X:K.In h)(G:h.Ns mainGlobals mg)(d:FD K x st)(H:∀ (kV doc pm:Value) (an:Option Addr) (cdv ct a0 a1:Value),bindArgs (PySem.W.fnOf x x (kh st) (vb st) (zq st) .none kV doc pm an cdv ct) ⟨[a0,a1],[]⟩=pure ([y0,y1].zip [a0,a1])):FunT K mg x st [y0,y1]:=
  CA X G d fun kV doc pm an cdv ct us hl=>let ⟨a0,a1,e⟩:=OW hl;e ▸ H kV doc pm an cdv ct a0 a1
theorem fw{h:Heap}{x y0 y1 y2:Str}{st:Stmt}(X:K.In h)(G:h.Ns mainGlobals mg)(d:FD K x st)(H:∀ (kV doc pm:Value) (an:Option Addr) (cdv ct a0 a1 a2:Value),bindArgs (PySem.W.fnOf x x (kh st) (vb st) (zq st) .none kV doc pm an cdv ct) ⟨[a0,a1,a2],[]⟩=pure ([y0,y1,y2].zip [a0,a1,a2])):FunT K mg x st [y0,y1,y2]:=
  CA X G d fun kV doc pm an cdv ct us hl=>let ⟨a0,a1,a2,e⟩:=O4 hl;e ▸ H kV doc pm an cdv ct a0 a1 a2
theorem FA{h:Heap}{x y0 y1 y2 y3:Str}{st:Stmt}(X:K.In h)(G:h.Ns mainGlobals mg)(d:FD K x st)(H:∀ (kV doc pm:Value) (an:Option Addr) (cdv ct a0 a1 a2 a3:Value),bindArgs (PySem.W.fnOf x x (kh st) (vb st) (zq st) .none kV doc pm an cdv ct) ⟨[a0,a1,a2,a3],[]⟩=pure ([y0,y1,y2,y3].zip [a0,a1,a2,a3])):FunT K mg x st [y0,y1,y2,y3]:=
  CA X G d fun kV doc pm an cdv ct us hl=>let ⟨a0,a1,a2,a3,e⟩:=PB hl;e ▸ H kV doc pm an cdv ct a0 a1 a2 a3
set_option maxHeartbeats 0 in
theorem NV{h:Heap}(X:K.In h)(G:h.Ns mainGlobals mg)
    (d1:FD K "without_noughts" va)
    (d2:FD K "with_size" uc)
    (d3:FD K "difference" fe)
    (d4:FD K "parting_sizes" ke)
    (d5:FD K "merged" eh)
    (d6:FD K "in_line" af)
    (d7:FD K "is_barren" f9)
    (d8:FD K "barren_tree" xm)
    (d9:FD K "spread_tree" xg)
    (d10:FD K "both_of_trees" ki)
    (d11:FD K "factors_in_line" yx)
    (d12:FD K "product_tree" kq)
    (d13:FD K "tree_of" aa)
    (d14:FD K "row_to_plain" ko)
    (d15:FD K "gathered" u7)
    (d16:FD K "bundles" aq)
    (d17:FD K "judged" e8)
    (d18:FD K "_law_bundles" xn)
    (d19:FD K "_law_draw" ux)
    (d20:FD K "_law_kind" uy)
    (d21:FD K "_law_stir" u6)
    (d22:FD K "_law_cell" u0)
    (d23:FD K "_law_leafed" g8)
    (d24:FD K "_law_part" u4)
    (d25:FD K "_law_paths" ua)
    (d26:FD K "_law_put" ah)
    (d27:FD K "_law_here" uz)
    (d28:FD K "_law_turned" fg)
    (d29:FD K "_law_all_turnings" yj)
    (d30:FD K "_law_other" f6)
    (d31:FD K "law" dk)
    (zM:(["len","int","bool","str","tuple","list","isinstance","range","enumerate","zip","reversed"]:List Str).all (fun x=>PySem.W.nsIn K mainGlobals x == some none)=true) (zTNAMES:J1 K "NAMES" (.tuple [.int 0,.int 1,.int 2,.int 3])=true) (zNdict:PySem.W.nsIn K mainGlobals "dict" =some none) (zNsorted:PySem.W.nsIn K mainGlobals "sorted" =some none):
    FunT K mg "law" dk ["script"]∧∀ f fd,Fun K "law" "law" dk f fd→∀ base:Heap,FnOk P w K mg base (CX1 P w) 72 f fd ["script"] (spD (L3 K) 1 (BJ 72)):=by
  have T:TxtF K mg:=⟨bf X G d1 fun _ _ _ _ _ _ _=>rfl,fw X G d2 fun _ _ _ _ _ _ _ _ _=>rfl,o4 X G d3 fun _ _ _ _ _ _ _ _=>rfl,o4 X G d4 fun _ _ _ _ _ _ _ _=>rfl,FA X G d5 fun _ _ _ _ _ _ _ _ _ _=>rfl,fw X G d6 fun _ _ _ _ _ _ _ _ _=>rfl,bf X G d7 fun _ _ _ _ _ _ _=>rfl,fw X G d8 fun _ _ _ _ _ _ _ _ _=>rfl,FA X G d9 fun _ _ _ _ _ _ _ _ _ _=>rfl,FA X G d10 fun _ _ _ _ _ _ _ _ _ _=>rfl,fw X G d11 fun _ _ _ _ _ _ _ _ _=>rfl,fw X G d12 fun _ _ _ _ _ _ _ _ _=>rfl,fw X G d13 fun _ _ _ _ _ _ _ _ _=>rfl,bf X G d14 fun _ _ _ _ _ _ _=>rfl,bf X G d15 fun _ _ _ _ _ _ _=>rfl,bf X G d16 fun _ _ _ _ _ _ _=>rfl,o4 X G d17 fun _ _ _ _ _ _ _ _=>rfl,bf X G d18 fun _ _ _ _ _ _ _=>rfl,fw X G d19 fun _ _ _ _ _ _ _ _ _=>rfl,fw X G d20 fun _ _ _ _ _ _ _ _ _=>rfl,bf X G d21 fun _ _ _ _ _ _ _=>rfl,o4 X G d22 fun _ _ _ _ _ _ _ _=>rfl,fw X G d23 fun _ _ _ _ _ _ _ _ _=>rfl,o4 X G d24 fun _ _ _ _ _ _ _ _=>rfl,bf X G d25 fun _ _ _ _ _ _ _=>rfl,fw X G d26 fun _ _ _ _ _ _ _ _ _=>rfl,o4 X G d27 fun _ _ _ _ _ _ _ _=>rfl,fw X G d28 fun _ _ _ _ _ _ _ _ _=>rfl,bf X G d29 fun _ _ _ _ _ _ _=>rfl,fw X G d30 fun _ _ _ _ _ _ _ _ _=>rfl,bf X G d31 fun _ _ _ _ _ _ _=>rfl⟩
  have M:MF mg:=OU X G zM
  have C:ClsF K mg (L3 K) w.params:=⟨trivial,Lw X G zTNAMES,PySem.W.mg_none_of X G zNdict,PySem.W.mg_none_of X G zNsorted⟩
  exact ⟨T.t_law,fun f fd F base=>N8 M T C F⟩
end
end KT
open PySem PySem.W PyProof.Rows
theorem PySem.W.Fast.te9954085645741210476 : True := trivial
def PySem.W.Fast.tw677736546184646594 : Unit := ()
def PySem.W.Fast.tw10222443675281334828 : PySem.Program := PySem.Challenge.pw_kindturn_k14_whole_put_to_both
theorem PySem.W.Fast.te10222443675281334828 : PySem.Challenge.pw_kindturn_k14_whole_put_to_both = PySem.W.Fast.tw10222443675281334828 := rfl
def PySem.W.Fast.tw5578963273626220561 : Unit := ()
def PySem.W.Fast.tw3163558393950317379 : Unit := ()
def PySem.W.Fast.tw2160072745677465430 : Unit := ()
def PySem.W.Fast.tw15988783746486146324 : Unit := ()
set_option maxRecDepth 100000 in
set_option maxHeartbeats 0 in
theorem PySem.Challenge.cw_kindturn_k14_whole_put_to_both_holds : PySem.Challenge.rw_kindturn_k14_whole_put_to_both.Holds := by
  w_on;o_law;k_head;(case hw=>w_witness2)
  k_fill
  refine KT.Pp (l:=PySem.Challenge.rw_kindturn_k14_whole_put_to_both) (g:=KT.BJ 72) (N:=72) (st:=KT.dk) rfl rfl ⟨rfl,by decide,by decide⟩ (fun w h Y=>PySem.W.kIn_of Y) rfl ?F ?L fun ns hns=>KT.Jt ns hns
  case L=>intro w;kernel_rfl
  case F=>
    intro w mg h KX G
    refine' KT.NV KX G (KT.wp ?a1 ?l1 ?c1 ?k1) (KT.wp ?a2 ?l2 ?c2 ?k2) (KT.wp ?a3 ?l3 ?c3 ?k3) (KT.wp ?a4 ?l4 ?c4 ?k4) (KT.wp ?a5 ?l5 ?c5 ?k5) (KT.wp ?a6 ?l6 ?c6 ?k6) (KT.wp ?a7 ?l7 ?c7 ?k7) (KT.wp ?a8 ?l8 ?c8 ?k8) (KT.wp ?a9 ?l9 ?c9 ?k9) (KT.wp ?a10 ?l10 ?c10 ?k10) (KT.wp ?a11 ?l11 ?c11 ?k11) (KT.wp ?a12 ?l12 ?c12 ?k12) (KT.wp ?a13 ?l13 ?c13 ?k13) (KT.wp ?a14 ?l14 ?c14 ?k14) (KT.wp ?a15 ?l15 ?c15 ?k15) (KT.wp ?a16 ?l16 ?c16 ?k16) (KT.wp ?a17 ?l17 ?c17 ?k17) (KT.wp ?a18 ?l18 ?c18 ?k18) (KT.wp ?a19 ?l19 ?c19 ?k19) (KT.wp ?a20 ?l20 ?c20 ?k20) (KT.wp ?a21 ?l21 ?c21 ?k21) (KT.wp ?a22 ?l22 ?c22 ?k22) (KT.wp ?a23 ?l23 ?c23 ?k23) (KT.wp ?a24 ?l24 ?c24 ?k24) (KT.wp ?a25 ?l25 ?c25 ?k25) (KT.wp ?a26 ?l26 ?c26 ?k26) (KT.wp ?a27 ?l27 ?c27 ?k27) (KT.wp ?a28 ?l28 ?c28 ?k28) (KT.wp ?a29 ?l29 ?c29 ?k29) (KT.wp ?a30 ?l30 ?c30 ?k30) (KT.wp ?a31 ?l31 ?c31 ?k31) ?zM ?zTNAMES ?zNdict ?zNsorted
    (case a1=>k_is);(case l1=>k_is);(case c1=>k_is);(case k1=>k_is)
    (case a2=>k_is);(case l2=>k_is);(case c2=>k_is);(case k2=>k_is)
    (case a3=>k_is);(case l3=>k_is);(case c3=>k_is);(case k3=>k_is)
    (case a4=>k_is);(case l4=>k_is);(case c4=>k_is);(case k4=>k_is)
    (case a5=>k_is);(case l5=>k_is);(case c5=>k_is);(case k5=>k_is)
    (case a6=>k_is);(case l6=>k_is);(case c6=>k_is);(case k6=>k_is)
    (case a7=>k_is);(case l7=>k_is);(case c7=>k_is);(case k7=>k_is)
    (case a8=>k_is);(case l8=>k_is);(case c8=>k_is);(case k8=>k_is)
    (case a9=>k_is);(case l9=>k_is);(case c9=>k_is);(case k9=>k_is)
    (case a10=>k_is);(case l10=>k_is);(case c10=>k_is);(case k10=>k_is)
    (case a11=>k_is);(case l11=>k_is);(case c11=>k_is);(case k11=>k_is)
    (case a12=>k_is);(case l12=>k_is);(case c12=>k_is);(case k12=>k_is)
    (case a13=>k_is);(case l13=>k_is);(case c13=>k_is);(case k13=>k_is)
    (case a14=>k_is);(case l14=>k_is);(case c14=>k_is);(case k14=>k_is)
    (case a15=>k_is);(case l15=>k_is);(case c15=>k_is);(case k15=>k_is)
    (case a16=>k_is);(case l16=>k_is);(case c16=>k_is);(case k16=>k_is)
    (case a17=>k_is);(case l17=>k_is);(case c17=>k_is);(case k17=>k_is)
    (case a18=>k_is);(case l18=>k_is);(case c18=>k_is);(case k18=>k_is)
    (case a19=>k_is);(case l19=>k_is);(case c19=>k_is);(case k19=>k_is)
    (case a20=>k_is);(case l20=>k_is);(case c20=>k_is);(case k20=>k_is)
    (case a21=>k_is);(case l21=>k_is);(case c21=>k_is);(case k21=>k_is)
    (case a22=>k_is);(case l22=>k_is);(case c22=>k_is);(case k22=>k_is)
    (case a23=>k_is);(case l23=>k_is);(case c23=>k_is);(case k23=>k_is)
    (case a24=>k_is);(case l24=>k_is);(case c24=>k_is);(case k24=>k_is)
    (case a25=>k_is);(case l25=>k_is);(case c25=>k_is);(case k25=>k_is)
    (case a26=>k_is);(case l26=>k_is);(case c26=>k_is);(case k26=>k_is)
    (case a27=>k_is);(case l27=>k_is);(case c27=>k_is);(case k27=>k_is)
    (case a28=>k_is);(case l28=>k_is);(case c28=>k_is);(case k28=>k_is)
    (case a29=>k_is);(case l29=>k_is);(case c29=>k_is);(case k29=>k_is)
    (case a30=>k_is);(case l30=>k_is);(case c30=>k_is);(case k30=>k_is)
    (case a31=>k_is);(case l31=>k_is);(case c31=>k_is);(case k31=>k_is)
    (case zM=>kernel_rfl)
    (case zTNAMES=>kernel_rfl)
    (case zNdict=>kernel_rfl)
    (case zNsorted=>kernel_rfl)
