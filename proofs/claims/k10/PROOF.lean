import PyProof.Rows.All
import Wide.All
import OpenK.AllK
import Wide.FinOn
import Lean
import PyProof.EqAt
import PyProof.EqKinds
import PyProof.TupleCall
import KE.KLam
import KE.KNestM
import PySem.Challenge.RW_onechoice_k10_whole_either_order
abbrev wB:=@PySem.wpAny_bind
abbrev hPs:=@PySem.Heap.get?_push_of_some
abbrev wQ:=@PySem.wpAny_pure
abbrev hPz:=@PySem.Heap.get?_push_size
abbrev hLz:=@PySem.Heap.lt_size
abbrev nLr:=@Nat.le_refl
abbrev lMc:=@List.mem_cons_of_mem
abbrev nLl:=@Nat.lt_of_lt_of_le
abbrev lGe:=@List.getElem?_eq_getElem
abbrev nNl:=@Nat.ne_of_lt
set_option Elab.async false
set_option linter.all false
set_option maxRecDepth 100000
namespace L2
open PySem PySem.Spec PyProof.Rows
noncomputable abbrev Key:=Sum Int Str
noncomputable def zjk:Key->Value->Bool
 | .inl k,v=>Value.isInt k v
 | .inr x,v=>Value.isStrOf x v
noncomputable def ztH(w:World):Key->Int
 | .inl k=>hashInt k
 | .inr x=>hashStr w x
theorem zaM:∀ {k:Key} {v:Value},zjk k v=true->(∃ i t,k=Sum.inl i/\v=Value.int i t)∨(∃ x t,k=Sum.inr x/\v=Value.str x t)
 | .inl i,v,h=>by
  obtain⟨t,e⟩:=Value.isInt_shape (k:=i) (v:=v) h
  exact .inl ⟨i,t,rfl,e⟩
 | .inr x,v,h=>by
  obtain⟨t,e⟩:=Value.isStrOf_shape (x:=x) (v:=v) h
  exact .inr ⟨x,t,rfl,e⟩
theorem zmi(i:Int)(t:Tok):zjk (.inl i) (.int i t)=true:=by simp[zjk,Value.isInt]
theorem zmh(x:Str)(t:Tok):zjk (.inr x) (.str x t)=true:=by simp[zjk,Value.isStrOf]
theorem zrq(a b:Int):decide ((Sum.inl a:Key)=Sum.inl b)=(a==b):=by
 by_cases e:a=b
 ·subst e; simp
 ·have h:¬ (Sum.inl a:Key)=Sum.inl b:=λq=>e (Sum.inl.inj q);rw[decide_eq_false h];exact(beq_eq_false_iff_ne.mpr e).symm
theorem zrn(a b:Str):decide ((Sum.inr a:Key)=Sum.inr b)=decide (a=b):=by
 by_cases e:a=b
 ·subst e; simp
 ·have h:¬ (Sum.inr a:Key)=Sum.inr b:=λq=>e (Sum.inr.inj q);rw[decide_eq_false h,decide_eq_false e]
theorem zrp(a:Int)(b:Str):decide ((Sum.inl a:Key)=Sum.inr b)=false:=decide_eq_false (λq=>nomatch q)
theorem zro(a:Str)(b:Int):decide ((Sum.inr a:Key)=Sum.inl b)=false:=decide_eq_false (λq=>nomatch q)
noncomputable def zaD(prog:Program)(w:World):PySem.KeyKind prog w Key where
 is:=zjk
 hash:=ztH w
 inj:=λv a b ha hb=>by
  rcases zaM ha with ⟨i,t,rfl,rfl⟩ | ⟨x,t,rfl,rfl⟩
  ·rcases zaM hb with ⟨j,u,rfl,e⟩ | ⟨y,u,rfl,e⟩
   ·injection e with e1 _; rw[e1]
   ·exact nomatch e
  ·rcases zaM hb with ⟨j,u,rfl,e⟩ | ⟨y,u,rfl,e⟩
   ·exact nomatch e
   ·injection e with e1 _; rw[e1]
 byValue:=λk v h=>by
  rcases zaM h with ⟨i,t,rfl,rfl⟩ | ⟨x,t,rfl,rfl⟩<;>rfl
 pyHash:=λhv h=>by
  rcases zaM hv with ⟨i,t,rfl,rfl⟩ | ⟨x,t,rfl,rfl⟩
  ·exact wpAny_pyHash_int h
  ·exact wpAny_pyHash_str h
 eqBool:=λhu hv h=>by
  rcases zaM hu with ⟨i,t,rfl,rfl⟩ | ⟨x,t,rfl,rfl⟩
  ·rcases zaM hv with ⟨j,u,rfl,rfl⟩ | ⟨y,u,rfl,rfl⟩
   ·rw[zrq]at h; exact wpAny_eqBool_int h
   ·rw[zrp]at h; exact SeqAt.EqAt.int_str i t y u _ _ _ _ h
  ·rcases zaM hv with ⟨j,u,rfl,rfl⟩ | ⟨y,u,rfl,rfl⟩
   ·rw[zro]at h; exact SeqAt.EqAt.str_int x t j u _ _ _ _ h
   ·rw[zrn]at h; exact wpAny_eqBool_str h
 «strs»:=λk x t v h=>by
  rcases zaM h with ⟨i,u,rfl,e⟩ | ⟨y,u,rfl,e⟩
  ·exact nomatch e
  ·injection e with e1 _
   subst e1
   cases v<;>rfl
theorem zjd(prog:Program)(w:World)(i:Int)(t:Tok):(zaD prog w).is (.inl i) (.int i t)=true:=zmi i t
theorem zjc(prog:Program)(w:World)(x:Str)(t:Tok):(zaD prog w).is (.inr x) (.str x t)=true:=zmh x t
inductive V where
 | non | bl (b:Bool) | int (i:Int) | str (x:Str) | byt (b:Array UInt8) | flt (b:UInt64) | ref (a:Addr) | ty (n:String)
 deriving DecidableEq
def zaR:V->Value->Prop
 | .non,u=>u=Value.none
 | .bl b,u=>u=Value.bool b
 | .int i,u=>∃ t,u=Value.int i t
 | .str x,u=>∃ t,u=Value.str x t
 | .byt b,u=>∃ t,u=Value.bytes b t
 | .flt b,u=>∃ t,u=Value.float b t
 | .ref a,u=>u=Value.ref a
 | .ty n,u=>u=Value.type n
abbrev zaF:List V->List Value->Prop:=Paired zaR
theorem zaF.length{xs:List V}{us:List Value}(r:zaF xs us):xs.length=us.length:=Paired.length r
theorem zaF.get:∀ {xs:List V} {us:List Value} {i:Nat} {x:V},zaF xs us->xs[i]?=some x->∃ u,us[i]?=some u/\zaR x u
 | _,_,_,_,.nil,e=>by simp at e
 | _,_,0,_,.cons r _,e=>by simp at e; subst e; exact⟨_,rfl,r⟩
 | _,_,i+1,x,.cons _ t,e=>by
  obtain⟨u,h1,h2⟩:=zaF.get (i:=i) (x:=x) t (by simpa using e)
  exact⟨u,by simpa using h1,h2⟩
theorem zaF.set{x:V}{u:Value}(r:zaR x u):∀ {xs:List V} {us:List Value} (i:Nat),zaF xs us->zaF (xs.set i x) (us.set i u)
 | _,_,_,.nil=>.nil
 | _,_,0,.cons _ t=>.cons r t
 | _,_,i+1,.cons q t=>.cons q (zaF.set r i t)
theorem zaF.append:∀ {xs ys:List V} {us ws:List Value},zaF xs us->zaF ys ws->zaF (xs++ys) (us++ws)
 | _,_,_,_,.nil,s=>s
 | _,_,_,_,.cons r t,s=>.cons r (zaF.append t s)
theorem zaF.take:∀ {xs:List V} {us:List Value} (n:Nat),zaF xs us->zaF (xs.take n) (us.take n)
 | _,_,0,_=>.nil
 | _,_,_+1,.nil=>.nil
 | _,_,n+1,.cons r t=>.cons r (zaF.take n t)
theorem zaF.drop:∀ {xs:List V} {us:List Value} (n:Nat),zaF xs us->zaF (xs.drop n) (us.drop n)
 | _,_,0,r=>r
 | _,_,_+1,.nil=>.nil
 | _,_,n+1,.cons _ t=>zaF.drop n t
def zg3:Option V->Option Value->Prop
 | some v,some u=>zaR v u
 | none,none=>True
 | _,_=>False
def KV{κ:Type}:List (κ×V)->List (κ×Value)->Prop:=Paired λ(p:κ×V) (q:κ×Value)=>p.1=q.1/\zaR p.2 q.2
noncomputable def kV:Key->V
 | .inl i=>.int i
 | .inr x=>.str x
inductive HO where
 | lst (xs:List V)
 | tup (xs:List V)
 | dK (kvs:List (Key×V)) | dT (kvs:List (List Key×V))
 | set (S:Int->Bool) (n:Nat)
 | ins (C dx:Addr) (fs:List (Str×V))
 | own (x:Addr)
 | xd (fs:List (Str×V))
 | met (f x:Addr)
 | rng (lo hi:Int)
 | frz (o:Obj) (u:HO)
 | tbl (ps:Array Value)
 | ext (φ:Heap->Prop)
noncomputable abbrev Hp:=Addr->Option HO
noncomputable def upd(H:Hp)(a:Addr)(o:HO):Hp:=λb=>if b=a then some o else H b
theorem zak{H:Hp}{a:Addr}{o:HO}:upd H a o a=some o:=by unfold upd; rw[if_pos rfl]
theorem zal{H:Hp}{a b:Addr}{o:HO}(h:b≠a):upd H a o b=H b:=by unfold upd; rw[if_neg h]
theorem zsN{H:Hp}{a b:Addr}{o u:HO}(h:H a=some o)(h':H b=some u)(d:o≠u):a≠b:=by
 intro e; subst e; rw[h]at h'; exact d (Option.some.inj h')
theorem zao{H:Hp}{a b:Addr}{o:HO}(h:H a=some o)(h':H b=none):a≠b:=by
 intro e; subst e; rw[h]at h'; cases h'
def zm3(h:Heap)(a:Addr)(items:Array Value):Prop:=∃ o,h.get? a=some o/\o.cls=.type "tuple"/\(∃ n,o.data=.seq items n)/\o.dict=none
theorem zm3.tup{h:Heap}{a:Addr}{items:Array Value}(x:zm3 h a items):IsTup h a items:=let ⟨o,e,c,d,_⟩:=x; ⟨o,e,c,d⟩
theorem zm3.lt{h:Heap}{a:Addr}{items:Array Value}(x:zm3 h a items):a < h.objs.size:=x.tup.lt
theorem zm3.new(h:Heap)(items:Array Value):zm3 (h.push { cls:=.type "tuple",data:=.seq items }) h.objs.size items:=⟨_,Heap.get?_push_size _ rfl,rfl,⟨_,rfl⟩,rfl⟩
section
variable (P:Program)(w:World)
def zbg(H:Hp)(h:Heap)(a:Addr):HO->Prop
 | .lst xs=>xs.length<=sizeLine/\∃ (its:List Value) (n:Nat),zaF xs its/\h.get? a=some { cls:=.type "list",data:=.seq its.toArray n }
 | .tup xs=>xs.length<=sizeLine/\∃ its:List Value,zaF xs its/\zm3 h a its.toArray
 | .dK kvs=>kvs.length<=sizeLine/\(a==sysModules)=false/\∃ vs,KV kvs vs/\h.DictOf (zaD P w) a vs
 | .dT kvs=>kvs.length<=sizeLine/\(a==sysModules)=false/\∃ xs:List (List Key×Addr×Value),
   Paired (λ(p:List Key×V) (q:List Key×Addr×Value)=>p.1=q.1/\H q.2.1=some (.tup (p.1.map kV))/\zaR p.2 q.2.2) kvs xs /\
   ∃ o es ep,h.get? a=some o/\o.ExactDict/\o.data=.dict es ep/\es.toList=xs.map (entryOfKey (tupleKind (zaD P w)))/\(xs.map (·.1)).Nodup
 | .set S n=>h.SetOf (intKind P w) a S n
 | .ins C dx fs=>H dx=some (.own a)/\fs.length<=1000/\dx≠a/\h.get? a=some (W.instObj C dx) /\
   ∃ mA,h.Ns1 dx mA/\(∀ f,zg3 (fs.lookup f) (mA f))/\PySem.Within mA (fs.map (·.1))
 | .own _=>∃ o,h.get? a=some o
 | .xd fs=>∃ mA,h.Ns1 a mA/\∀ f,zg3 (fs.lookup f) (mA f)
 | .rng lo hi=>∃ t u v,h.get? a=some { cls:=.type "range",data:=.fields #[.int lo t,.int hi u,.int 1 v] }
 | .frz o u=>h.get? a=some o/\zbg H h a u
 | .tbl ps=>h.get? a=some { cls:=.none,data:=.fields ps }
 | .met f x=>h.get? a=some (W.methodObj (.ref f) (.ref x))
 | .ext φ=>φ h/\(∃ o,h.get? a=some o)/\∀ h1 h2:Heap,φ h1->(∀ o,h1.get? a=some o->h2.get? a=some o)->φ h2
def HOk(H:Hp)(h:Heap):Prop:=∀ a o,H a=some o->zbg P w H h a o
end
section
variable {P:Program}{w:World}{H H':Hp}{h h':Heap}{a:Addr}{o:HO}
theorem zbg.lt(x:zbg P w H h a o):a < h.objs.size:=by
 cases o with
 | lst xs=>obtain⟨_,_,_,_,e⟩:=x; exact hLz e
 | tup xs=>obtain⟨_,_,_,p⟩:=x; exact p.lt
 | dK kvs=>obtain⟨_,_,_,_,o,_,_,e,_⟩:=x; exact hLz e
 | dT kvs=>obtain⟨_,_,_,_,o,_,_,e,_⟩:=x; exact hLz e
 | set S n=>obtain⟨o,_,_,_,e,_⟩:=x; exact hLz e
 | ins C dx fs=>obtain⟨_,_,_,e,_⟩:=x; exact hLz e
 | own y=>obtain⟨_,e⟩:=x; exact hLz e
 | xd fs=>obtain⟨_,⟨_,_,_,e,_⟩,_⟩:=x; exact hLz e
 | rng lo hi=>obtain⟨_,_,_,e⟩:=x; exact hLz e
 | frz ob u=>obtain⟨e,_⟩:=x; exact hLz e
 | tbl ps=>exact hLz (show h.get? a=some _ from x)
 | met f y=>exact hLz (show h.get? a=some _ from x)
 | ext φ=>obtain⟨_,⟨_,e⟩,_⟩:=x; exact hLz e
theorem Paired.mapP{α β:Type}{F G:α->β->Prop}:∀ {l₁:List α} {l₂:List β},Paired F l₁ l₂->(∀ a b,F a b->G a b)->Paired G l₁ l₂
 | _,_,.nil,_=>.nil
 | _,_,.cons r t,f=>.cons (f _ _ r) (Paired.mapP t f)
theorem zbg.stay(x:zbg P w H h a o)(k:∀ b u,(b=a∨H b=some (.own a))->h.get? b=some u->h'.get? b=some u)
  (ho:∀ b,H b=some (.own a)->H' b=some (.own a)) (ht:∀ b xs,H b=some (.tup xs)->H' b=some (.tup xs)):zbg P w H' h' a o:=by
 induction o with
 | lst xs=>obtain⟨z,its,n,r,e⟩:=x; exact⟨z,its,n,r,k _ _ (.inl rfl) e⟩
 | tup xs=>obtain⟨z,its,r,ob,e,c⟩:=x; exact⟨z,its,r,ob,k _ _ (.inl rfl) e,c⟩
 | dK kvs=>obtain⟨z,y,vs,r,ob,es,ep,e,c⟩:=x; exact⟨z,y,vs,r,ob,es,ep,k _ _ (.inl rfl) e,c⟩
 | dT kvs =>
  obtain⟨z,y,xs,r,ob,es,ep,e,c⟩:=x;exact⟨z,y,xs,Paired.mapP r λp q z=>⟨z.1,ht _ _ z.2.1,z.2.2⟩,ob,es,ep,k _ _ (.inl rfl) e,c⟩
 | set S n=>obtain⟨ob,es,ep,t,e,c⟩:=x; exact⟨ob,es,ep,t,k _ _ (.inl rfl) e,c⟩
 | ins C dx fs =>
  obtain⟨d,z,ne,e,mA,⟨od,es,ep,e2,c⟩,r⟩:=x;exact⟨ho _ d,z,ne,k _ _ (.inl rfl) e,mA,⟨od,es,ep,k _ _ (.inr d) e2,c⟩,r⟩
 | own y=>obtain⟨ob,e⟩:=x; exact⟨ob,k _ _ (.inl rfl) e⟩
 | xd fs=>obtain⟨mA,⟨od,es,ep,e,c⟩,r⟩:=x; exact⟨mA,⟨od,es,ep,k _ _ (.inl rfl) e,c⟩,r⟩
 | rng lo hi=>obtain⟨t,u,v,e⟩:=x; exact⟨t,u,v,k _ _ (.inl rfl) e⟩
 | frz ob u ih=>obtain⟨e,q⟩:=x; exact⟨k _ _ (.inl rfl) e,ih q⟩
 | tbl ps =>
  have e:h.get? a=some { cls:=.none,data:=.fields ps }:=x;show h'.get? a=some { cls:=.none,data:=.fields ps };exact k a _ (.inl rfl) e
 | met f y =>
  have e:h.get? a=some (W.methodObj (.ref f) (.ref y)):=x;show h'.get? a=some (W.methodObj (.ref f) (.ref y));exact k a _ (.inl rfl) e
 | ext φ=>obtain⟨p,⟨o,e⟩,st⟩:=x; exact⟨st _ _ p λo q=>k _ _ (.inl rfl) q,⟨o,k _ _ (.inl rfl) e⟩,st⟩
theorem HOk.lt(x:HOk P w H h)(e:H a=some o):a < h.objs.size:=(x a o e).lt
theorem HOk.fresh(x:HOk P w H h)(e:h.objs.size<=a):H a=none:=by
 cases q:H a with
 | none=>rfl
 | some u=>exact absurd (nLl (x.lt q) e) (Nat.lt_irrefl _)
theorem HOk.kept(x:HOk P w H h)(k:∀ b u,h.get? b=some u->h'.get? b=some u):HOk P w H h':=λa o e =>
 (x a o e).stay (λb u _ q=>k b u q) (λ_ q=>q) λ_ _ q=>q
theorem HOk.laid(x:HOk P w H h)(k:∀ b u,h.get? b=some u->h'.get? b=some u)(hp:h.objs.size<=a)(new:zbg P w (upd H a o) h' a o):HOk P w (upd H a o) h':=λb u e=>by
 have hn:=x.fresh hp
 by_cases hb:b=a
 ·subst hb; rw[zak]at e; cases e; exact new
 ·rw[zal hb]at e
  exact(x b u e).stay (λc v _ q=>k c v q) (λc q=>by rw[zal (zao q hn)]; exact q) λc xs q=>by rw[zal (zao q hn)]; exact q
end
def Rd(H:Hp)(a:Addr)(u:HO):Prop:=H a=some u∨∃ o,H a=some (.frz o u)
theorem Rd.ok{P:Program}{w:World}{H:Hp}{h:Heap}{a:Addr}{u:HO}(r:Rd H a u)(x:HOk P w H h):zbg P w H h a u:=by
 rcases r with r | ⟨o,r⟩
 ·exact x a u r
 ·obtain⟨_,q⟩:=x a _ r;exact q
def Mut:Option HO->Prop
 | some (.lst _)=>True
 | some (.dK _)=>True
 | some (.dT _)=>True
 | some (.set _ _)=>True
 | some (.ins _ _ _)=>True
 | some (.ext _)=>True
 | _=>False
section
variable {P:Program}{w:World}{H:Hp}{h h':Heap}{x e:Addr}{o':HO}
theorem HOk.write(ok:HOk P w H h)(mu:Mut (H x))(he:e=x∨H e=some (.own x))(k:∀ b u,b≠e->h.get? b=some u->h'.get? b=some u)(heo:∃ u,h'.get? e=some u)
  (new:zbg P w (upd H x o') h' x o'):HOk P w (upd H x o') h':=λb u q=>by
 have nown:∀ c y,H c=some (.own y)->c≠x:=λc y r z=>by subst z; rw[r]at mu; exact mu
 have ntup:∀ c xs,H c=some (.tup xs)->c≠x:=λc xs r z=>by subst z; rw[r]at mu; exact mu
 by_cases hb:b=x
 ·subst hb; rw[zak]at q; cases q; exact new
 ·rw[zal hb]at q
  by_cases hbe:b=e
  ·have q':H b=some (.own x):=by
    rcases he with z | z
    ·exact absurd (hbe.trans z) hb
    ·rw[hbe]; exact z
   rw[q]at q'; cases q';obtain⟨v,hv⟩:=heo;exact⟨v,by rw[hbe]; exact hv⟩
  ·refine (ok b u q).stay (λc v hc r=>k c v ?_ r) (λc r=>by rw[zal (nown c b r)]; exact r) λc xs r=>by rw[zal (ntup c xs r)]; exact r
   rcases hc with rfl | hc
   ·exact hbe
   ·rintro rfl;rcases he with z | z
    ·exact nown c b hc z
    ·rw[hc]at z; cases z; exact hb rfl
end
structure Un(fs ex:List Addr)(H H':Hp)(h h':Heap):Prop where
 keep:∀ b o,h.get? b=some o->H b=none->b∉fs->b∉ex->h'.get? b=some o
 slot:∀ b o,h.get? b=some o->H b=none->b∈fs->b∉ex->∃ sl,h'.get? b=some { o with slots:=sl }
 free:∀ b o,h.get? b=some o->H b=none->b∉ex->H' b=none
 there:∀ b o,h.get? b=some o->b∉ex->∃ o',h'.get? b=some o'
 tups:∀ b xs,H b=some (.tup xs)->H' b=some (.tup xs)
 frzs:∀ b o u,H b=some (.frz o u)->H' b=some (.frz o u)
 tbls:∀ b ps,H b=some (.tbl ps)->∃ more,H' b=some (.tbl (ps++more))
section
variable {fs fs' ex ex':List Addr}{H H1 H2:Hp}{h h1 h2 h':Heap}{a x e:Addr}{o:HO}
theorem Un.any(u:Un fs ex H H1 h h1){b:Addr}{ob:Obj}(q:h.get? b=some ob)(n:H b=none)(hx:b∉ex):∃ sl,h1.get? b=some { ob with slots:=sl }:=by
 by_cases hb:b∈fs
 ·exact u.slot b ob q n hb hx
 ·exact⟨ob.slots,u.keep b ob q n hb hx⟩
theorem Un.kept(k:∀ b u,h.get? b=some u->h'.get? b=some u):Un fs ex H H h h' :=
 ⟨λb ob q _ _ _=>k b ob q,λb ob q _ _ _=>⟨ob.slots,k b ob q⟩,λ_ _ _ n _=>n,λb ob q _=>⟨ob,k b ob q⟩,λ_ _ q=>q,λ_ _ _ q=>q,λ_ ps q=>⟨#[],by rw[q]; simp⟩⟩
theorem Un.refl:Un fs ex H H h h:=Un.kept λ_ _ q=>q
theorem Un.laid(k:∀ b u,h.get? b=some u->h'.get? b=some u)(hp:h.objs.size<=a)(hn:H a=none):Un fs ex H (upd H a o) h h' where
 keep:=λb u q _ _ _=>k b u q
 slot:=λb u q _ _ _=>⟨u.slots,k b u q⟩
 free:=λb u q n _=>by rw[zal (Nat.ne_of_lt (Nat.lt_of_lt_of_le (Heap.lt_size q) hp))]; exact n
 there:=λb u q _=>⟨u,k b u q⟩
 tups:=λb xs q=>by rw[zal (zao q hn)]; exact q
 frzs:=λb u xs q=>by rw[zal (zao q hn)]; exact q
 tbls:=λb ps q=>⟨#[],by rw[zal (zao q hn),q]; simp⟩
theorem Un.write(mu:Mut (H x))(he:e=x∨H e=some (.own x))(k:∀ b u,b≠e->h.get? b=some u->h'.get? b=some u)(heo:∃ u,h'.get? e=some u):Un fs ex H (upd H x o) h h':=by
 have hx:∀ b,H b=none->b≠x:=λb n z=>by subst z; rw[n]at mu; exact mu
 have hb:∀ b,H b=none->b≠e:=λb n z=>by
  subst z;rcases he with r | r
  ·exact hx b n r
  ·rw[n]at r; cases r
 have hm:∀ b u,H b=some u->¬ Mut (some u)->b≠x:=λb u q nm z=>by subst z; rw[q]at mu; exact nm mu
 refine⟨λb u q n _ _=>k b u (hb b n) q,λb u q n _ _=>⟨u.slots,k b u (hb b n) q⟩,λb u q n _=>by rw[zal (hx b n)]; exact n,λb u q _=>?_,
  λb xs q=>by rw[zal (hm b _ q λz=>z)]; exact q,λb u xs q=>by rw[zal (hm b _ q λz=>z)]; exact q,λb ps q=>⟨#[],by rw[zal (hm b _ q λz=>z),q]; simp⟩⟩
 by_cases hbe:b=e
 ·subst hbe; exact heo
 ·exact⟨u,k b u hbe q⟩
end
noncomputable def trk(h:Heap)(H:Hp):List Addr:=(List.range h.objs.size).filter λa=>(H a).isSome
noncomputable def znU(h:Heap)(H:Hp):Heap:=W.hideAll h (trk h H)
theorem zmn(h:Heap)(H:Hp):(znU h H).objs.size=h.objs.size:=W.hideAll_size _ _
theorem zhH{h:Heap}{H:Hp}{b:Addr}{o:Obj}(e:h.get? b=some o)(n:H b=none):(znU h H).get? b=some o :=
 W.hideAll_get _ e λhm=>by
  have q:(H b).isSome=true:=(List.mem_filter.mp hm).2
  rw[n]at q; simp at q
theorem zpm{h:Heap}{H:Hp}{b:Addr}{o:Obj}(e:(znU h H).get? b=some o):h.get? b=some o/\H b=none:=by
 have e':h.get? b=some o:=W.of_hideAll (trk h H) e;refine⟨e',?_⟩;cases q:H b with
 | none=>rfl
 | some x =>
  have hm:b∈trk h H:=List.mem_filter.mpr ⟨List.mem_range.mpr (Heap.lt_size e'),by simp[q]⟩;have z:(znU h H).get? b=none:=W.hideAll_none (trk h H) hm;rw[z]at e; cases e
noncomputable def zpR(g h:Heap)(L:Addr):List (Addr×Obj):=(List.range h.objs.size).filterMap λa=>if a=L∨(g.get? a).isSome=true then none else (h.get? a).map λo=>(a,o)
noncomputable def rest(g h:Heap)(L d:Addr):List (Addr×Obj):=(zpR g h L).filter λp=>decide (p.1≠d)
structure Mod(K:W.Frag)(mg:Str->Option Value)(base:Heap):Prop where
 kin:K.In base
 glob:base.Ns mainGlobals mg
 blt:∃ mb,base.Ns builtinsNs mb/\∀ x:Str,x≠"__name__"->mb x=bootBuiltins x
 nolimit:base.NoLimit
structure Cx where
 prog:Program
 w:World
 K:W.Frag
 mg:Str->Option Value
 base:Heap
 A:Around
 N:List Str
 s₀:Shared
 H₀:Hp
 env:Env
 outer:List Env
 stack:List Env
 ex:List Addr
 fn:Str->Bool
 calm:Bool
 pn:List (Addr×Obj)
 xe:Value->Shared->Prop
noncomputable def frs(l:List Env):List Addr:=l.filterMap (·.frame)
noncomputable abbrev Cx.fs(X:Cx):List Addr:=frs X.outer
def Vis(sc:Scope)(x:Str):Prop:=sc.names.lookup x=some .local∨sc.names.lookup x=some .cell∨sc.names.lookup x=some .free
def Loc(sc:Scope)(x:Str):Prop:=sc.names.lookup x=some .local∨sc.names.lookup x=some .cell
def ztT(env:Env)(h:Heap)(m:Str->Option Value)(x:Str)(u:Value):Prop :=
 (env.kindOf x=some .local/\m x=some u)∨((env.kindOf x=some .cell∨env.kindOf x=some .free)/\∃ c,env.cells.lookup x=some c/\h.IsCell c (some u))
structure Cx.Ok(X:Cx):Prop where
 mod:Mod X.K X.mg X.base
 kind:X.env.scope.kind=.function
 glob:X.env.globals=mainGlobals
 blt:X.env.builtins=builtinsNs
 above:X.s₀.heap.objs.size<=X.env.locals
 inj:∀ x y c,X.env.cells.lookup x=some c->X.env.cells.lookup y=some c->x=y
 has:∀ x,(X.env.kindOf x=some .cell∨X.env.kindOf x=some .free)->∃ c,X.env.cells.lookup x=some c
 cab:∀ x c,X.fn x=true->X.env.cells.lookup x=some c->X.s₀.heap.objs.size<=c
 hd:X.calm=true->X.A.handled=none
 frames:X.A.frames=some X.stack
 stk:X.stack=X.outer∨(X.stack=X.env::X.outer/\X.env.frame=some X.env.locals)
 exf:∀ b∈X.ex,b≠X.env.locals/\∀ x c,X.env.cells.lookup x=some c->c≠b
 bs:∀ b o,X.base.get? b=some o->X.s₀.heap.get? b=some o/\X.H₀ b=none
 bsz:X.base.objs.size<=X.s₀.heap.objs.size
 noex:∀ b o,X.base.get? b=some o->b∉X.ex
 exfs:∀ b∈X.ex,b∉X.fs
 funs:X.s₀.heap.FunFrames X.base X.outer
 frf:∀ b∈X.fs,X.H₀ b=none
structure Inv(X:Cx)(pins:List (Addr×Obj))(σ:List (Option V))(H:Hp)(s:Shared):Prop where
 ok:X.Ok
 os:s.os=X.s₀.os
 bare:AllBare s.gens
 base:Un X.fs X.ex X.H₀ H X.s₀.heap s.heap
 loc:∃ m,s.heap.Ns X.env.locals m/\∀ (i:Nat) (x:Str) (v:V),X.N[i]?=some x->σ[i]?=some (some v)->Vis X.env.scope x->∃ u,zaR v u/\ztT X.env s.heap m x u
 cell:∀ x c,X.env.cells.lookup x=some c->∃ v,s.heap.IsCell c v
 free:H X.env.locals=none
 freeC:∀ x c,X.env.cells.lookup x=some c->H c=none
 pin:∀ p∈X.pn++pins,s.heap.get? p.1=some p.2/\H p.1=none/\p.1≠X.env.locals/\p.1∉X.fs/\∀ v,p.2.data≠.cell v
 hok:HOk X.prog X.w H s.heap
 len:σ.length=X.N.length
section
variable {X:Cx}{pins:List (Addr×Obj)}{σ:List (Option V)}{H H':Hp}{s:Shared}{h':Heap}
theorem Cx.Ok.nofr(ok:X.Ok){b:Addr}{o:Obj}(e:X.base.get? b=some o):b∉X.fs:=λhb=>by
 have:=(ok.funs.mem hb).1
 rw[e]at this; cases this
theorem Inv.bs(I:Inv X pins σ H s):∀ b o,X.base.get? b=some o->s.heap.get? b=some o/\H b=none:=λb o e =>
 ⟨I.base.keep b o (I.ok.bs b o e).1 (I.ok.bs b o e).2 (I.ok.nofr e) (I.ok.noex b o e),I.base.free b o (I.ok.bs b o e).1 (I.ok.bs b o e).2 (I.ok.noex b o e)⟩
theorem Inv.bk(I:Inv X pins σ H s):∀ b o,X.base.get? b=some o->s.heap.get? b=some o:=λb o e=>(I.bs b o e).1
theorem Inv.mod(I:Inv X pins σ H s):Mod X.K X.mg X.base:=I.ok.mod
theorem Inv.kIn(I:Inv X pins σ H s):X.K.In s.heap:=I.ok.mod.kin.keeps I.bk
theorem Inv.nolimit(I:Inv X pins σ H s):s.heap.NoLimit:=I.ok.mod.nolimit.keeps I.bk
theorem Inv.lt(I:Inv X pins σ H s):X.env.locals < s.heap.objs.size:=let ⟨_,hn,_⟩:=I.loc; hn.lt
theorem Inv.sz(I:Inv X pins σ H s):X.s₀.heap.objs.size<=s.heap.objs.size:=Nat.le_trans I.ok.above (Nat.le_of_lt I.lt)
theorem Inv.nofs(I:Inv X pins σ H s){a:Addr}(h:s.heap.objs.size<=a):a∉X.fs:=λhb=>by
 obtain⟨_,o,ho,_⟩:=I.ok.funs.mem hb
 exact absurd (nLl (hLz ho) (Nat.le_trans I.sz h)) (Nat.lt_irrefl _)
theorem Inv.cne(I:Inv X pins σ H s):∀ x c,X.env.cells.lookup x=some c->c≠X.env.locals:=λx c e z=>by
 obtain⟨v,o,ho,hd⟩:=I.cell x c e
 obtain⟨m,⟨o',es,ep,ho',hd',_⟩,_⟩:=I.loc
 rw[z,ho']at ho; cases ho; rw[hd']at hd; cases hd
theorem Inv.funs(I:Inv X pins σ H s):s.heap.FunFrames X.base X.outer:=by
 have all:∀ (l:List Env),(∀ b∈frs l,b∈X.fs)->X.s₀.heap.FunFrames X.base l->s.heap.FunFrames X.base l:=by
  intro l;induction l with
  | nil=>intro _ _; trivial
  | cons env r ih =>
   intro hs hl;obtain⟨hk,⟨L,o,hf,hn,ho,hd⟩,hr⟩:=hl;have hL:L∈X.fs:=hs L (by unfold frs; rw[List.filterMap_cons,hf]; exact List.mem_cons_self);obtain⟨sl,e⟩:=I.base.slot L o ho (I.ok.frf L hL) hL λz=>I.ok.exfs L z hL;exact⟨hk,⟨L,_,hf,hn,e,hd⟩,ih (λb hb=>hs b (by unfold frs; rw[List.filterMap_cons,hf]; exact List.mem_cons_of_mem _ hb)) hr⟩
 exact all X.outer (λ_ hb=>hb) I.ok.funs
theorem Inv.stack(I:Inv X pins σ H s):s.heap.FunFrames X.base X.stack:=by
 rcases I.ok.stk with e | ⟨e,hf⟩
 ·rw[e]; exact I.funs
 ·rw[e];obtain⟨m,hn,_⟩:=I.loc;refine .cons (by rw[I.ok.kind]; decide) hf hn ?_ I.funs;exact Heap.get?_none_of_le (Nat.le_trans I.ok.bsz I.ok.above)
theorem Inv.stkSub(I:Inv X pins σ H s):∀ b∈frs X.stack,b∈X.env.locals::X.fs:=λb hb=>by
 rcases I.ok.stk with e | ⟨e,hf⟩
 ·rw[e]at hb; exact List.mem_cons_of_mem _ hb
 ·rw[e]at hb
  unfold frs at hb
  rw[List.filterMap_cons,hf]at hb
  exact hb
theorem Inv.stkFree(I:Inv X pins σ H s):∀ b∈frs X.stack,H b=none:=λb hb=>by
 rcases List.mem_cons.mp (I.stkSub b hb)with e | hb
 ·rw[e]; exact I.free
 ·obtain⟨_,o,ho,_⟩:=I.ok.funs.mem hb
  exact I.base.free b o ho (I.ok.frf b hb) λz=>I.ok.exfs b z hb
theorem Inv.step{g':Array GenState}{t':Nat}{d':Drawn}{ch:List Addr}(I:Inv X pins σ H s)
  (hch:∀ b∈ch,(b∈X.ex∨X.s₀.heap.objs.size<=b)/\b≠X.env.locals/\(∀ x c,X.env.cells.lookup x=some c->c≠b)/\∀ p∈X.pn++pins,p.1≠b)
  (keep:∀ b o,b≠X.env.locals->b∉X.fs->b∉ch->s.heap.get? b=some o->H b=none->h'.get? b=some o)
  (slot:∀ b o,b≠X.env.locals->b∈X.fs->b∉ch->s.heap.get? b=some o->H b=none->∃ sl,h'.get? b=some { o with slots:=sl }) (free:∀ b o,b∉ch->s.heap.get? b=some o->H b=none->H' b=none)
  (there:∀ b o,b∉ch->s.heap.get? b=some o->∃ o',h'.get? b=some o')
  (tups:∀ b xs,H b=some (.tup xs)->H' b=some (.tup xs)) (frzs:∀ b o u,H b=some (.frz o u)->H' b=some (.frz o u)) (tbls:∀ b ps,H b=some (.tbl ps)->∃ more,H' b=some (.tbl (ps++more)))
  (ns:∀ m,s.heap.Ns X.env.locals m->h'.Ns X.env.locals m) (hok:HOk X.prog X.w H' h') (hg:AllBare g') :
  Inv X pins σ H' { s with heap:=h',gens:=g',drawn:=d',toks:=t' }:=by
 have neL:∀ b o,X.s₀.heap.get? b=some o->b≠X.env.locals:=λb o e=>nNl (nLl (hLz e) I.ok.above);have neC:∀ b o,X.s₀.heap.get? b=some o->b∉X.ex->b∉ch:=λb o e hx hb=>by
  rcases (hch b hb).1 with z | z
  ·exact hx z
  ·exact absurd (nLl (hLz e) z) (Nat.lt_irrefl _)
 have cellK:∀ x c,X.env.cells.lookup x=some c->∀ v,s.heap.IsCell c v->h'.IsCell c v:=λx c e v ⟨o,ho,hd⟩=>by
  have nch:c∉ch:=λz=>(hch c z).2.2.1 x c e rfl;by_cases hc:c∈X.fs
  ·obtain⟨sl,q⟩:=slot c o (I.cne x c e) hc nch ho (I.freeC x c e);exact⟨_,q,hd⟩
  ·exact⟨o,keep c o (I.cne x c e) hc nch ho (I.freeC x c e),hd⟩
 refine⟨I.ok,I.os,hg,⟨λb o e n hb hx=>?_,λb o e n hb hx=>?_,λb o e n hx=>?_,λb o e hx=>?_,λb xs e=>tups b xs (I.base.tups b xs e),λb o xs e=>frzs b o xs (I.base.frzs b o xs e),λb ps e=>?_⟩,?_,λx c e=>?_,?_,λx c e=>?_,λp hp=>?_,hok,I.len⟩
 ·exact keep b o (neL b o e) hb (neC b o e hx) (I.base.keep b o e n hb hx) (I.base.free b o e n hx)
 ·obtain⟨sl,e1⟩:=I.base.slot b o e n hb hx;obtain⟨sl',e2⟩:=slot b _ (neL b o e) hb (neC b o e hx) e1 (I.base.free b o e n hx);exact⟨sl',e2⟩
 ·obtain⟨o',e1⟩:=I.base.there b o e hx;exact free b o' (neC b o e hx) e1 (I.base.free b o e n hx)
 ·obtain⟨o',e1⟩:=I.base.there b o e hx;exact there b o' (neC b o e hx) e1
 ·obtain⟨m1,e1⟩:=I.base.tbls b ps e;obtain⟨m2,e2⟩:=tbls b _ e1;exact⟨m1++m2,by rw[e2,Array.append_assoc]⟩
 ·obtain⟨m,hn,hl⟩:=I.loc;refine⟨m,ns m hn,λi x v e1 e2 e3=>?_⟩;obtain⟨u,r,l⟩:=hl i x v e1 e2 e3;refine⟨u,r,?_⟩;rcases l with l | ⟨k,c,e,z⟩
  ·exact .inl l
  ·exact .inr ⟨k,c,e,cellK x c e _ z⟩
 ·obtain⟨v,z⟩:=I.cell x c e;exact⟨v,cellK x c e v z⟩
 ·obtain⟨m,⟨o,_,_,ho,_⟩,_⟩:=I.loc;exact free _ o (λz=>(hch _ z).2.1 rfl) ho I.free
 ·obtain⟨v,o,ho,hd⟩:=I.cell x c e;exact free c o (λz=>(hch c z).2.2.1 x c e rfl) ho (I.freeC x c e)
 ·obtain⟨e,n,ne,nf,d⟩:=I.pin p hp;have nch:p.1∉ch:=λz=>(hch p.1 z).2.2.2 p hp rfl;exact⟨keep p.1 p.2 ne nf nch e n,free p.1 p.2 nch e n,ne,nf,d⟩
theorem Inv.un{t':Nat}(I:Inv X pins σ H s)(u:Un X.fs [] H H' s.heap h')(hok:HOk X.prog X.w H' h'):Inv X pins σ H' { s with heap:=h',toks:=t' }:=by
 obtain⟨m,⟨o,es,ep,ho,r⟩,_⟩:=id I.loc;obtain⟨sl,hL⟩:=u.any ho I.free (by simp);exact I.step (g':=s.gens) (d':=s.drawn) (ch:=[]) (λ_ z=>nomatch z) (λb o _ hb _ e n=>u.keep b o e n hb (by simp)) (λb o _ hb _ e n=>u.slot b o e n hb (by simp)) (λb o _ e n=>u.free b o e n (by simp)) (λb o _ e=>u.there b o e (by simp)) u.tups u.frzs u.tbls (λm' hm=>by
  obtain⟨o',es',ep',ho',r'⟩:=hm;rw[ho]at ho'; cases ho';exact⟨_,es',ep',hL,r'⟩) hok I.bare
theorem Inv.call{g':Array GenState}{t':Nat}{d':Drawn}{ch:List Addr}(I:Inv X pins σ H s)(u:Un (frs X.stack) ch H H' s.heap h')(hok:HOk X.prog X.w H' h')(hg:AllBare g')
  (hch:∀ b∈ch,(b∈X.ex∨X.s₀.heap.objs.size<=b)/\b≠X.env.locals/\(∀ x c,X.env.cells.lookup x=some c->c≠b)/\∀ p∈X.pn++pins,p.1≠b) :
  Inv X pins σ H' { s with heap:=h',gens:=g',drawn:=d',toks:=t' }:=by
 obtain⟨m,⟨o,es,ep,ho,r⟩,_⟩:=id I.loc;obtain⟨sl,hL⟩:=u.any ho I.free λz=>(hch _ z).2.1 rfl;exact I.step (ch:=ch) hch (λb o hL hb hc e n=>u.keep b o e n (λz=>(List.mem_cons.mp (I.stkSub b z)).elim hL hb) hc) (λb o _ _ hc e n=>u.any e n hc) (λb o hc e n=>u.free b o e n hc) (λb o hc e=>u.there b o e hc) u.tups u.frzs u.tbls (λm' hm=>by
  obtain⟨o',es',ep',ho',r'⟩:=hm;rw[ho]at ho'; cases ho';exact⟨_,es',ep',hL,r'⟩) hok hg
theorem Inv.turned{t':Nat}{it:Addr}(I:Inv X pins σ H s)(k:∀ b o,b≠it->s.heap.get? b=some o->h'.get? b=some o)(hn:H it=none)(hL:it≠X.env.locals)
  (h1:it∈X.ex∨X.s₀.heap.objs.size<=it) (h2:∀ x c,X.env.cells.lookup x=some c->c≠it) (h3:∀ p∈X.pn++pins,p.1≠it):Inv X pins σ H { s with heap:=h',toks:=t' }:=by
 have nit:∀ b u,H b=some u->b≠it:=λb u e z=>by rw[z,hn]at e; cases e
 refine I.step (g':=s.gens) (d':=s.drawn) (ch:=[it]) (λb hb=>?_) (λb o _ _ hc e _=>k b o (λz=>hc (by simp[z])) e) (λb o _ _ hc e _=>⟨o.slots,k b o (λz=>hc (by simp[z])) e⟩) (λ_ _ _ _ n=>n)
  (λb o hc e=>⟨o,k b o (λz=>hc (by simp[z])) e⟩) (λ_ _ e=>e) (λ_ _ _ e=>e) (λb ps e=>⟨#[],by rw[e]; simp⟩) (λm hm=>?_) (λb u e=>?_) I.bare
 ·have e:b=it:=by simpa using hb
  subst e;exact⟨h1,hL,h2,h3⟩
 ·obtain⟨o,es,ep,ho,r⟩:=hm;exact⟨o,es,ep,k _ o (Ne.symm hL) ho,r⟩
 ·refine (I.hok b u e).stay (λc v hc q=>k c v ?_ q) (λ_ q=>q) λ_ _ q=>q;rcases hc with z | z
  ·rw[z]; exact nit b u e
  ·exact nit c _ z
theorem Inv.tok(I:Inv X pins σ H s)(t:Nat):Inv X pins σ H { s with toks:=t }:=I.un (h':=s.heap) (t':=t) Un.refl I.hok
theorem Inv.kept{t':Nat}(I:Inv X pins σ H s)(k:∀ b u,s.heap.get? b=some u->h'.get? b=some u):Inv X pins σ H { s with heap:=h',toks:=t' }:=I.un (Un.kept k) (I.hok.kept k)
theorem Inv.laid{a:Addr}{o:HO}{t':Nat}(I:Inv X pins σ H s)(k:∀ b u,s.heap.get? b=some u->h'.get? b=some u)(hp:s.heap.objs.size<=a)(new:zbg X.prog X.w (upd H a o) h' a o) :
  Inv X pins σ (upd H a o) { s with heap:=h',toks:=t' }:=I.un (Un.laid k hp (I.hok.fresh hp)) (I.hok.laid k hp new)
theorem Inv.write{x e:Addr}{o:HO}{t':Nat}(I:Inv X pins σ H s)(mu:Mut (H x))(he:e=x∨H e=some (.own x))(k:∀ b u,b≠e->s.heap.get? b=some u->h'.get? b=some u)(heo:∃ u,h'.get? e=some u)
  (new:zbg X.prog X.w (upd H x o) h' x o):Inv X pins σ (upd H x o) { s with heap:=h',toks:=t' }:=I.un (Un.write mu he k heo) (I.hok.write mu he k heo new)
theorem Inv.pins_of{pins':List (Addr×Obj)}(I:Inv X pins σ H s)(h:∀ p∈pins',s.heap.get? p.1=some p.2/\H p.1=none/\p.1≠X.env.locals/\p.1∉X.fs/\∀ v,p.2.data≠.cell v):Inv X pins' σ H s :=
 ⟨I.ok,I.os,I.bare,I.base,I.loc,I.cell,I.free,I.freeC,λp hp=>(List.mem_append.mp hp).elim (λz=>I.pin p (List.mem_append_left _ z)) (h p),I.hok,I.len⟩
theorem zjU{N:List Str}(hN:N.Nodup){i j:Nat}{x:Str}(a:N[i]?=some x)(b:N[j]?=some x):i=j:=by
 obtain⟨h1,e1⟩:=List.getElem?_eq_some_iff.mp a;obtain⟨h2,e2⟩:=List.getElem?_eq_some_iff.mp b;exact(List.getElem_inj hN).mp (e1.trans e2.symm)
theorem zlm{M:Model}{A:Around}{E:Value->Shared->Prop}{i:Nat}{x:Str}{v:V}{u:Value}{Q:Unit->Shared->Prop}(I:Inv X pins σ H s)(hN:X.N.Nodup)(hi:X.N[i]?=some x)(hx:Loc X.env.scope x)(r:zaR v u)
  (h:∀ s',Inv X pins (σ.set i (some v)) H s'->(∃ a,Heap.SameBut a s.heap s'.heap/\(a=X.env.locals∨X.env.cells.lookup x=some a))->Q () s') (hf:X.fn x=true∨X.env.scope.names.lookup x=some .local:=by first | exact .inl rfl | exact .inr rfl | assumption):wpAny M A (storeName X.env x u) Q E s:=by
 obtain⟨m,hn,hl⟩:=id I.loc;have hcls:(X.env.scope.kind==.class||(X.env.scope.kind==.module&&X.env.locals != X.env.globals))=false:=by rw[I.ok.kind]; rfl
 have hiσ:i < σ.length:=by rw[I.len]; exact(List.getElem?_eq_some_iff.mp hi).1
 have cne:=I.cne;have tracked:∀ {a:Addr} {h':Heap},(∃ o,s.heap.get? a=some o/\H a=none)->Heap.SameBut a s.heap h'->HOk X.prog X.w H h':=λ{a h'} ha hs b ob e=>by
  obtain⟨_,_,hfree⟩:=ha;refine (I.hok b ob e).stay (λc w' hc q=>(hs.2 c ?_).trans q) (λ_ q=>q) λ_ _ q=>q;rintro rfl;rcases hc with rfl | hc
  ·rw[hfree]at e; cases e
  ·rw[hfree]at hc; cases hc
 rcases hx with hk | hk
 ·refine wpAny_storeName_local hk hn (λh' hn' hs=>?_) hcls;obtain⟨oL,_,_,hoL,_⟩:=id hn;refine h _ ⟨I.ok,I.os,I.bare,⟨λb o e n hb hx=>?_,λb o e n hb hx=>?_,I.base.free,λb o e hx=>?_,I.base.tups,I.base.frzs,I.base.tbls⟩,⟨_,hn',λj y v' e1 e2 e3=>?_⟩,λy c e=>?_,I.free,I.freeC,λp hp=>?_,tracked ⟨oL,hoL,I.free⟩ hs,by simpa using I.len⟩ ⟨_,hs,.inl rfl⟩
  ·exact(hs.2 b (nNl (nLl (hLz e) I.ok.above))).trans (I.base.keep b o e n hb hx)
  ·obtain⟨sl,e1⟩:=I.base.slot b o e n hb hx;exact⟨sl,(hs.2 b (nNl (nLl (hLz e) I.ok.above))).trans e1⟩
  ·obtain⟨o',e1⟩:=I.base.there b o e hx;exact⟨o',(hs.2 b (nNl (nLl (hLz e) I.ok.above))).trans e1⟩
  ·by_cases hj:j=i
   ·subst hj;rw[hi]at e1; cases e1;rw[List.getElem?_set_self hiσ]at e2;cases e2
    exact⟨u,r,.inl ⟨hk,by simp⟩⟩
   ·rw[List.getElem?_set_ne (Ne.symm hj)]at e2;obtain⟨u',r',q⟩:=hl j y v' e1 e2 e3;refine⟨u',r',?_⟩;rcases q with ⟨k,e⟩ | ⟨k,c,e,z⟩
    ·refine .inl ⟨k,?_⟩;have:y≠x:=λe=>hj (zjU hN e1 (e ▸ hi));simp[this,e]
    ·exact .inr ⟨k,c,e,z.sameBut hs (cne y c e)⟩
  ·obtain⟨w',z⟩:=I.cell y c e;exact⟨w',z.sameBut hs (cne y c e)⟩
  ·obtain⟨e,n,ne,nf,d⟩:=I.pin p hp;exact⟨(hs.2 p.1 ne).trans e,n,ne,nf,d⟩
 ·have hfn:X.fn x=true:=by
   rcases hf with z | z
   ·exact z
   ·rw[z]at hk; cases hk
  obtain⟨c,hc⟩:=I.ok.has x (.inl hk);obtain⟨w',z⟩:=I.cell x c hc;refine wpAny_storeName_cell I.ok.kind hk hc z (λh' hc' hs=>?_);obtain⟨oc,hoc,hocd⟩:=id z;refine h { s with heap:=h' } ⟨I.ok,I.os,I.bare,⟨λb o e n hb hx=>?_,λb o e n hb hx=>?_,I.base.free,λb o e hx=>?_,I.base.tups,I.base.frzs,I.base.tbls⟩,⟨m,hn.sameBut hs (Ne.symm (cne x c hc)),λj y v' e1 e2 e3=>?_⟩,λy c' e=>?_,I.free,I.freeC,λp hp=>?_,tracked ⟨oc,hoc,I.freeC x c hc⟩ hs,by simpa using I.len⟩ ⟨c,hs,.inr hc⟩
  ·exact(hs.2 b (nNl (nLl (hLz e) (I.ok.cab x c hfn hc)))).trans (I.base.keep b o e n hb hx)
  ·obtain⟨sl,e1⟩:=I.base.slot b o e n hb hx;exact⟨sl,(hs.2 b (nNl (nLl (hLz e) (I.ok.cab x c hfn hc)))).trans e1⟩
  ·obtain⟨o',e1⟩:=I.base.there b o e hx;exact⟨o',(hs.2 b (nNl (nLl (hLz e) (I.ok.cab x c hfn hc)))).trans e1⟩
  ·by_cases hj:j=i
   ·subst hj;rw[hi]at e1; cases e1;rw[List.getElem?_set_self hiσ]at e2;cases e2
    exact⟨u,r,.inr ⟨.inl hk,c,hc,hc'⟩⟩
   ·rw[List.getElem?_set_ne (Ne.symm hj)]at e2;obtain⟨u',r',q⟩:=hl j y v' e1 e2 e3;refine⟨u',r',?_⟩;rcases q with q | ⟨k,c',e,z'⟩
    ·exact .inl q
    ·refine .inr ⟨k,c',e,z'.sameBut hs ?_⟩;rintro rfl;exact hj (zjU hN e1 (I.ok.inj _ _ _ e hc ▸ hi))
  ·by_cases hcc:c'=c
   ·subst hcc; exact⟨_,hc'⟩
   ·obtain⟨w2,z2⟩:=I.cell y c' e;exact⟨w2,z2.sameBut hs hcc⟩
  ·obtain⟨e,n,ne,nf,d⟩:=I.pin p hp;refine⟨(hs.2 p.1 ?_).trans e,n,ne,nf,d⟩;intro q;rw[q,hoc]at e;have q':oc=p.2:=Option.some.inj e;exact d w' (by rw[<- q']; exact hocd)
theorem zjH{M:Model}{A:Around}{E:Value->Shared->Prop}{i:Nat}{x:Str}{v:V}{u:Value}{Q:Unit->Shared->Prop}(I:Inv X pins σ H s)(hN:X.N.Nodup)(hi:X.N[i]?=some x)(hx:Loc X.env.scope x)(r:zaR v u)
  (h:∀ s',Inv X pins (σ.set i (some v)) H s'->Q () s') (hf:X.fn x=true∨X.env.scope.names.lookup x=some .local:=by first | exact .inl rfl | exact .inr rfl | assumption):wpAny M A (storeName X.env x u) Q E s :=
 zlm I hN hi hx r (λs' I' _=>h s' I') hf
theorem Inv.call'{s':Shared}{ch:List Addr}(I:Inv X pins σ H s)(ho:s'.os=s.os)(u:Un (frs X.stack) ch H H' s.heap s'.heap)(hok:HOk X.prog X.w H' s'.heap)(hg:AllBare s'.gens)
  (hch:∀ b∈ch,(b∈X.ex∨X.s₀.heap.objs.size<=b)/\b≠X.env.locals/\(∀ x c,X.env.cells.lookup x=some c->c≠b)/\∀ p∈X.pn++pins,p.1≠b):Inv X pins σ H' s':=by
 obtain⟨h',g',d',t',o'⟩:=s';have e:o'=s.os:=ho;subst e;exact I.call (g':=g') (t':=t') (d':=d') u hok hg hch
end
noncomputable abbrev XK:=Value->Option Addr->Hp->Prop
noncomputable abbrev St:=List (Option V)
noncomputable abbrev VK:=V->Hp->Prop
noncomputable abbrev TE:=St->Hp->VK->Prop
noncomputable abbrev TT:=St->Hp->(Bool->Hp->Prop)->Prop
noncomputable abbrev TA:=St->Hp->(List V->Hp->Prop)->Prop
structure Ends where
 nx:St->Hp->Prop
 rt:VK
 bk:St->Hp->Prop:=λ_ _=>False
 ct:St->Hp->Prop:=λ_ _=>False
noncomputable abbrev TS:=Ends->St->Hp->Prop
def EP(X:Cx)(pins:List (Addr×Obj))(σ:St)(Q:VK)(u:Value)(s':Shared):Prop:=∃ v H',Inv X pins σ H' s'/\zaR v u/\Q v H'
def TP(X:Cx)(pins:List (Addr×Obj))(σ:St)(Q:Bool->Hp->Prop)(b:Bool)(s':Shared):Prop:=∃ H',Inv X pins σ H' s'/\Q b H'
def AP(X:Cx)(pins:List (Addr×Obj))(σ:St)(Q:List V->Hp->Prop)(us:List Value)(s':Shared):Prop:=∃ vs H',Inv X pins σ H' s'/\zaF vs us/\Q vs H'
def SP(X:Cx)(pins:List (Addr×Obj))(D:Ends)(f:Flow)(s':Shared):Prop :=
 match f with
 | .next=>∃ σ' H',Inv X pins σ' H' s'/\D.nx σ' H'
 | .brk=>∃ σ' H',Inv X pins σ' H' s'/\D.bk σ' H'
 | .cont=>∃ σ' H',Inv X pins σ' H' s'/\D.ct σ' H'
 | .ret u=>∃ v σ' H',Inv X pins σ' H' s'/\zaR v u/\D.rt v H'
def PE(X:Cx)(e:Expr)(t:TE):Prop :=
 ∀ (pins:List (Addr×Obj)) (s:Shared) (σ:St) (H:Hp) (Q:VK),Inv X pins σ H s->t σ H Q->wpAny (model X.prog X.w) X.A (eval e X.env) (EP X pins σ Q) X.xe s
def PT(X:Cx)(e:Expr)(t:TT):Prop :=
 ∀ (pins:List (Addr×Obj)) (s:Shared) (σ:St) (H:Hp) (Q:Bool->Hp->Prop),Inv X pins σ H s->t σ H Q->wpAny (model X.prog X.w) X.A (isTrue e X.env (eval e X.env)) (TP X pins σ Q) X.xe s
def PW(X:Cx)(e:Expr)(t:TT):Prop :=
 ∀ (whole:Sem Value) (pins:List (Addr×Obj)) (s:Shared) (σ:St) (H:Hp) (Q:Bool->Hp->Prop),Inv X pins σ H s->t σ H Q->wpAny (model X.prog X.w) X.A (isTrue e X.env whole) (TP X pins σ Q) X.xe s
theorem PW.pt{X:Cx}{e:Expr}{t:TT}(h:PW X e t):PT X e t:=h _
def PA(X:Cx)(es:List Expr)(t:TA):Prop :=
 ∀ (pos:Pos) (pins:List (Addr×Obj)) (s:Shared) (σ:St) (H:Hp) (Q:List V->Hp->Prop),Inv X pins σ H s->t σ H Q->wpAny (model X.prog X.w) X.A (spliced (backTo pos (starEach es X.env))) (AP X pins σ Q) X.xe s
def PS(X:Cx)(st:Stmt)(t:TS):Prop :=
 ∀ (pins:List (Addr×Obj)) (s:Shared) (σ:St) (H:Hp) (D:Ends),Inv X pins σ H s->t D σ H->wpAny (model X.prog X.w) X.A (exec st X.env) (SP X pins D) X.xe s
def PSs(X:Cx)(st:List Stmt)(t:TS):Prop :=
 ∀ (pins:List (Addr×Obj)) (s:Shared) (σ:St) (H:Hp) (D:Ends),Inv X pins σ H s->t D σ H->wpAny (model X.prog X.w) X.A (execs st X.env) (SP X pins D) X.xe s
theorem thn{α:Type}{t:Sem α}{Q Q':α->Shared->Prop}{M:Model}{A:Around}{E:Value->Shared->Prop}{s:Shared}(h:wpAny M A t Q E s)(hQ:∀ a s,Q a s->Q' a s):wpAny M A t Q' E s:=wpAny_mono h hQ λ_ _ x=>x
section
variable {X:Cx}
def zti(i:Nat):TE:=λσ H Q=>∃ v,σ[i]?=some (some v)/\Q v H
def tC(v:V):TE:=λ_ H Q=>Q v H
theorem zqN{i:Nat}{x:Str}{pos:Pos}(hN:X.N[i]?=some x)(hv:Vis X.env.scope x)(hd:(x==("__debug__":Str))=false:=by decide) (hcd:(x==("__classdict__":Str))=false:=by decide):PE X (.Name x pos) (zti i):=by
 intro pins s σ H Q I h;obtain⟨v,e,h⟩:=h;obtain⟨m,hn,hl⟩:=I.loc;obtain⟨u,r,l⟩:=hl i x v hN e hv;have fin:EP X pins σ Q u s:=⟨v,H,I,r,h⟩;rcases l with ⟨hk,hm⟩ | ⟨hk,c,hc,hcell⟩
 ·exact wpAny_Name (wpAny_loadName_local I.ok.kind hk hn hm fin) hd
 ·rcases hk with hk | hk
  ·exact wpAny_Name (wpAny_loadName_cell I.ok.kind hk hc hcell fin) hd
  ·exact wpAny_Name (wpAny_loadName_free I.ok.kind hk hc hcell fin hcd) hd
theorem zqS{i j pos}:PE X (.Constant (.int i) j pos) (tC (.int i)):=λ_ _ _ H _ I h=>wpAny_Constant_int ⟨.int i,H,I.tok _,⟨_,rfl⟩,h⟩
theorem zsJ{b j pos}:PE X (.Constant (.bool b) j pos) (tC (.bl b)):=λ_ _ _ H _ I h=>Constant_bool ⟨.bl b,H,I,rfl,h⟩
theorem zqQ{j pos}:PE X (.Constant .none j pos) (tC .non):=λ_ _ _ H _ I h=>Constant_none ⟨.non,H,I,rfl,h⟩
theorem zqP{x j pos}:PE X (.Constant (.str x) j pos) (tC (.str x)):=λ_ _ _ H _ I h=>Calls.Constant_str ⟨.str x,H,I.tok _,⟨_,rfl⟩,h⟩
def Gl(X:Cx)(x:Str):Prop:=X.env.kindOf x=some .globalImplicit
theorem zhF{E:Value->Shared->Prop}{pins:List (Addr×Obj)}{s:Shared}{σ:St}{H:Hp}{x:Str}{u:Value}{pos:Pos}{Q:Value->Shared->Prop}(I:Inv X pins σ H s)(hg:Gl X x)(hm:X.mg x=some u)(h:Q u s)
  (hd:(x==("__debug__":Str))=false:=by decide):wpAny (model X.prog X.w) X.A (eval (.Name x pos) X.env) Q E s :=
 Calls.Name_function_global I.ok.kind hg (Calls.loadGlobal_global (by rw[I.ok.glob]; exact I.mod.glob.keeps I.bk) hm h) hd
theorem ze8{E:Value->Shared->Prop}{pins:List (Addr×Obj)}{s:Shared}{σ:St}{H:Hp}{x:Str}{u:Value}{pos:Pos}{Q:Value->Shared->Prop}(I:Inv X pins σ H s)(hg:Gl X x)(hm:X.mg x=none)(hv:bootBuiltins x=some u)(h:Q u s)
  (hn:x≠"__name__":=by decide) (hd:(x==("__debug__":Str))=false:=by decide):wpAny (model X.prog X.w) X.A (eval (.Name x pos) X.env) Q E s:=by
 obtain⟨mb,h1,h2⟩:=I.mod.blt;exact Calls.Name_function_global I.ok.kind hg (Calls.loadGlobal_builtin (by rw[I.ok.glob]; exact I.mod.glob.keeps I.bk) hm (by rw[I.ok.blt]; exact h1.keeps I.bk) ((h2 x hn).trans hv) h) hd
theorem zpd{x:Str}{v:V}{u:Value}{pos:Pos}(hg:Gl X x)(hm:X.mg x=some u)(r:zaR v u)(hd:(x==("__debug__":Str))=false:=by decide):PE X (.Name x pos) (tC v) :=
 λ_ _ _ H _ I h=>zhF I hg hm ⟨v,H,I,r,h⟩ hd
variable {a b:Expr}{ta tb:TE}{pos:Pos}
def tB(t:TE):TT:=λσ H Q=>t σ H λx H1=>∃ c,x=.bl c/\Q c H1
variable {tA tB':TT}{rest:List Expr}
def ztr(t u:TT):TT:=λσ H Q=>t σ H λc H1=>if c=true then u σ H1 Q else Q false H1
def tOr(t u:TT):TT:=λσ H Q=>t σ H λc H1=>if c=true then Q true H1 else u σ H1 Q
def ztm(t:TT):TT:=λσ H Q=>t σ H λc H1=>Q (!c) H1
theorem zo1(ha:PT X a tA):PW X (.BoolOp .And [a] pos) tA:=by
 intro wh pins s σ H Q I h;refine isTrue_and (thn (ha pins s σ H Q I h) λc s1 e=>?_);cases c with
 | true=>exact isTrue_and_nil e
 | false=>exact e
theorem zqD(ha:PT X a tA):PW X (.BoolOp .Or [a] pos) tA:=by
 intro wh pins s σ H Q I h;refine isTrue_or (thn (ha pins s σ H Q I h) λc s1 e=>?_);cases c with
 | false=>exact isTrue_or_nil e
 | true=>exact e
theorem zqE(ha:PT X a tA)(hb:PW X (.BoolOp .And (b::rest) pos) tB'):PW X (.BoolOp .And (a::b::rest) pos) (ztr tA tB'):=by
 intro wh pins s σ H Q I h;refine isTrue_and (thn (ha pins s σ H _ I h) λc s1 ⟨H1,I1,q1⟩=>?_);cases c with
 | true=>exact hb wh pins s1 σ H1 Q I1 q1
 | false=>exact⟨H1,I1,q1⟩
theorem zsE(ha:PT X a tA)(hb:PW X (.BoolOp .Or (b::rest) pos) tB'):PW X (.BoolOp .Or (a::b::rest) pos) (tOr tA tB'):=by
 intro wh pins s σ H Q I h;refine isTrue_or (thn (ha pins s σ H _ I h) λc s1 ⟨H1,I1,q1⟩=>?_);cases c with
 | true=>exact⟨H1,I1,q1⟩
 | false=>exact hb wh pins s1 σ H1 Q I1 q1
theorem zqF(ha:PT X a tA):PT X (.UnaryOp .Not a pos) (ztm tA):=by
 intro pins s σ H Q I h;exact isTrue_not (ha pins s σ H (λc H1=>Q (!c) H1) I h)
end
def SqL(K:W.Frag)(H:Hp)(a:Addr)(xs:List V):Prop :=
 Rd H a (.lst xs) ∨
  ∃ (o:Obj) (its:Array Value) (n:Nat),K.lookup a=some o/\o.cls=.type "list"/\o.dict=none/\o.data=.seq its n/\its.size<=sizeLine/\zaF xs its.toList
def SqT(K:W.Frag)(H:Hp)(a:Addr)(xs:List V):Prop :=
 Rd H a (.tup xs) ∨
  ∃ (o:Obj) (its:Array Value) (n:Nat),K.lookup a=some o/\o.cls=.type "tuple"/\o.dict=none/\o.data=.seq its n/\its.size<=sizeLine/\zaF xs its.toList
noncomputable def ztQ:Value->Option V
 | .none=>some .non
 | .bool b=>some (.bl b)
 | .int i _=>some (.int i)
 | .str x _=>some (.str x)
 | .bytes b _=>some (.byt b)
 | .float b _=>some (.flt b)
 | .ref a=>some (.ref a)
 | .type n=>some (.ty n)
 | _=>none
theorem zaR.abs{x:V}{u:Value}(r:zaR x u):ztQ u=some x:=by
 cases x with
 | non=>cases r; rfl
 | bl _=>cases r; rfl
 | int _=>obtain⟨t,rfl⟩:=r; rfl
 | str _=>obtain⟨t,rfl⟩:=r; rfl
 | byt _=>obtain⟨t,rfl⟩:=r; rfl
 | flt _=>obtain⟨t,rfl⟩:=r; rfl
 | ref _=>cases r; rfl
 | ty _=>cases r; rfl
theorem zaR.inj{x y:V}{u:Value}(r:zaR x u)(q:zaR y u):x=y:=Option.some.inj (r.abs.symm.trans q.abs)
theorem zaF.inj:∀ {xs ys:List V} {us:List Value},zaF xs us->zaF ys us->xs=ys
 | _,_,_,.nil,.nil=>rfl
 | _,_,_,.cons r t,.cons r' t'=>by rw[r.inj r',zaF.inj t t']
section
variable {X:Cx}{pins:List (Addr×Obj)}{σ:St}{H:Hp}{s:Shared}{a:Addr}{xs ys:List V}
theorem SqL.of{K:W.Frag}(h:H a=some (.lst xs)):SqL K H a xs:=.inl (.inl h)
theorem SqT.of{K:W.Frag}(h:H a=some (.tup xs)):SqT K H a xs:=.inl (.inl h)
theorem Inv.list(I:Inv X pins σ H s)(h:SqL X.K H a xs):∃ its:List Value,zaF xs its/\PlainL s.heap a its.toArray/\xs.length<=sizeLine:=by
 rcases h with h | ⟨o,its,n,hk,hc,hd,hs,hz,r⟩
 ·obtain⟨z,its,n,r,e⟩:=h.ok I.hok;exact⟨its,r,⟨_,n,e,rfl,rfl,rfl⟩,z⟩
 ·refine⟨its.toList,r,⟨o,n,I.kIn a o hk,hc,hd,by simpa using hs⟩,?_⟩;have e:=r.length;simp only[Array.length_toList]at e;lia
theorem Inv.tupD(I:Inv X pins σ H s)(h:SqT X.K H a xs):∃ its:List Value,zaF xs its/\zm3 s.heap a its.toArray/\xs.length<=sizeLine:=by
 rcases h with h | ⟨o,its,n,hk,hc,hd,hs,hz,r⟩
 ·obtain⟨z,its,r,p⟩:=h.ok I.hok;exact⟨its,r,p,z⟩
 ·refine⟨its.toList,r,⟨o,I.kIn a o hk,hc,⟨n,by simpa using hs⟩,hd⟩,?_⟩;have e:=r.length;simp only[Array.length_toList]at e;lia
theorem Inv.tuple(I:Inv X pins σ H s)(h:SqT X.K H a xs):∃ its:List Value,zaF xs its/\IsTup s.heap a its.toArray/\xs.length<=sizeLine:=let ⟨its,r,p,z⟩:=I.tupD h; ⟨its,r,p.tup,z⟩
theorem Inv.list_inj(I:Inv X pins σ H s)(h:SqL X.K H a xs)(h':SqL X.K H a ys):xs=ys:=by
 obtain⟨its,r,⟨o,n,e,_,_,d⟩,_⟩:=I.list h;obtain⟨its',r',⟨o',n',e',_,_,d'⟩,_⟩:=I.list h';rw[e]at e'; cases e';rw[d]at d';injection d' with d1 _;have:its=its':=by simpa using congrArg Array.toList d1
 subst this;exact r.inj r'
theorem Inv.tuple_inj(I:Inv X pins σ H s)(h:SqT X.K H a xs)(h':SqT X.K H a ys):xs=ys:=by
 obtain⟨its,r,⟨o,e,_,n,d⟩,_⟩:=I.tuple h;obtain⟨its',r',⟨o',e',_,n',d'⟩,_⟩:=I.tuple h';rw[e]at e'; cases e';rw[d]at d';injection d' with d1 _;have:its=its':=by simpa using congrArg Array.toList d1
 subst this;exact r.inj r'
end
noncomputable abbrev Cx.wish(X:Cx)(E:Value->Shared->Prop):Cx:={ X with xe:=E }
noncomputable abbrev Cx.nox(X:Cx):Cx:=X.wish λ_ _=>False
theorem Cx.Ok.wish{X:Cx}(ok:X.Ok)(E:Value->Shared->Prop):(X.wish E).Ok :=
 ⟨ok.mod,ok.kind,ok.glob,ok.blt,ok.above,ok.inj,ok.has,ok.cab,ok.hd,ok.frames,ok.stk,ok.exf,ok.bs,ok.bsz,ok.noex,ok.exfs,ok.funs,ok.frf⟩
theorem Cx.Ok.unwish{X:Cx}{E:Value->Shared->Prop}(ok:(X.wish E).Ok):X.Ok :=
 ⟨ok.mod,ok.kind,ok.glob,ok.blt,ok.above,ok.inj,ok.has,ok.cab,ok.hd,ok.frames,ok.stk,ok.exf,ok.bs,ok.bsz,ok.noex,ok.exfs,ok.funs,ok.frf⟩
section
variable {X:Cx}{pins:List (Addr×Obj)}{σ:St}{H:Hp}{s:Shared}{E:Value->Shared->Prop}
theorem Inv.wish(I:Inv X pins σ H s)(E:Value->Shared->Prop):Inv (X.wish E) pins σ H s:=⟨I.ok.wish E,I.os,I.bare,I.base,I.loc,I.cell,I.free,I.freeC,I.pin,I.hok,I.len⟩
theorem Inv.unwish(I:Inv (X.wish E) pins σ H s):Inv X pins σ H s:=⟨I.ok.unwish,I.os,I.bare,I.base,I.loc,I.cell,I.free,I.freeC,I.pin,I.hok,I.len⟩
theorem SP.unwish{D:Ends}{f:Flow}{s':Shared}(h:SP (X.wish E) pins D f s'):SP X pins D f s':=by
 cases f with
 | next=>obtain⟨σ',H',I,q⟩:=h; exact⟨σ',H',I.unwish,q⟩
 | brk=>obtain⟨σ',H',I,q⟩:=h; exact⟨σ',H',I.unwish,q⟩
 | cont=>obtain⟨σ',H',I,q⟩:=h; exact⟨σ',H',I.unwish,q⟩
 | ret u=>obtain⟨v,σ',H',I,r,q⟩:=h; exact⟨v,σ',H',I.unwish,r,q⟩
theorem PSs.nox{st:List Stmt}{t:TS}(h:PSs X.nox st t):PSs X st t:=λpins s σ H D I hw =>
 wpAny_mono (h pins s σ H D (I.wish _) hw) (λ_ _ q=>q.unwish) λ_ _ z=>False.elim z
end
section
variable {X:Cx}{st:Stmt}{rest:List Stmt}{t u:TS}{e:Expr}{te:TE}{pos:Pos}
def zsg:TS:=λD σ H=>D.nx σ H
def ztk(t u:TS):TS:=λD σ H=>t { D with nx:=u D } σ H
theorem zo5:PSs X [] zsg:=λ_ _ σ H _ I h=>wpAny_execs_nil ⟨σ,H,I,h⟩
theorem znn(h1:PS X st t)(h2:PSs X rest u):PSs X (st::rest) (ztk t u):=by
 intro pins s σ H D I h;refine wpAny_execs_cons (thn (h1 pins s σ H { D with nx:=u D } I h) λf s1 q=>?_);cases f with
 | next =>
  obtain⟨σ',H',I',q⟩:=q;exact h2 pins s1 σ' H' D I' q
 | ret v=>exact q
 | brk=>exact q
 | cont=>exact q
theorem zo4(h1:PS X st t):PSs X [st] t:=by
 intro pins s σ H D I h;refine wpAny_execs_cons (thn (h1 pins s σ H D I h) λf s1 q=>?_);cases f with
 | next=>exact wpAny_execs_nil q
 | ret v=>exact q
 | brk=>exact q
 | cont=>exact q
theorem Inv.quiet{pins:List (Addr×Obj)}{σ:St}{H:Hp}{s:Shared}(I:Inv X pins σ H s):interactive X.env=false:=by simp[interactive,I.ok.kind]
def zsh(te:TE):TS:=λD σ H=>te σ H λ_ H1=>D.nx σ H1
theorem zo7(he:PE X e te)(hs:swapsWith e none pos.line X.env=pure false:=by rfl):PS X (.Expr e pos) (zsh te):=by
 intro pins s σ H D I h;exact wpAny_Expr_any (thn (he pins s σ H _ I h) λv s1 ⟨x,H1,I1,r1,q1⟩=>⟨σ,H1,I1,q1⟩) I.quiet hs
def ztl(te:TE):TS:=λD σ H=>te σ H D.rt
theorem zqH(he:PE X e te):PS X (.Return (some e) pos) (ztl te):=by
 intro pins s σ H D I h;exact wpAny_Return_some (thn (he pins s σ H _ I h) λv s1 ⟨x,H1,I1,r1,q1⟩=>⟨x,σ,H1,I1,r1,q1⟩)
def zsd:TS:=λD _ H=>D.rt .non H
theorem zo6:PS X (.Return none pos) zsd:=λ_ _ σ H _ I h=>wpAny_Return_none ⟨.non,σ,H,I,rfl,h⟩
def zto(c:TT)(t u:TS):TS:=λD σ H=>c σ H λb H1=>if b=true then t D σ H1 else u D σ H1
theorem zsF{c:Expr}{a b:List Stmt}{tc:TT}(hc:PT X c tc)(ha:PSs X a t)(hb:PSs X b u):PS X (.If c a b pos) (zto tc t u):=by
 intro pins s σ H D I h;refine wpAny_If (thn (hc pins s σ H _ I h) λd s1 ⟨H1,I1,q1⟩=>?_);cases d with
 | true=>exact ha pins s1 σ H1 D I1 q1
 | false=>exact hb pins s1 σ H1 D I1 q1
def zqb:TS:=λ_ _ _=>False
theorem zno:PS X st zqb:=λ_ _ _ _ _ _ h=>h.elim
end
noncomputable abbrev TG:=V->St->Hp->(St->Hp->Prop)->Prop
noncomputable abbrev TGs:=List V->St->Hp->(St->Hp->Prop)->Prop
def PG(X:Cx)(target:Expr)(t:TG):Prop :=
 ∀ (pins:List (Addr×Obj)) (s:Shared) (σ:St) (H:Hp) (v:V) (u:Value) (Q:St->Hp->Prop),Inv X pins σ H s->zaR v u->t v σ H Q ->
  wpAny (model X.prog X.w) X.A (assign target X.env u) (λ_ s'=>∃ σ' H',Inv X pins σ' H' s'/\Q σ' H') X.xe s
def PGs(X:Cx)(ts:List Expr)(t:TGs):Prop :=
 ∀ (pins:List (Addr×Obj)) (s:Shared) (σ:St) (H:Hp) (vs:List V) (us:List Value) (Q:St->Hp->Prop),Inv X pins σ H s->zaF vs us->t vs σ H Q ->
  wpAny (model X.prog X.w) X.A (assignInOrder ((assignEach ts X.env).map (·.2)) us) (λ_ s'=>∃ σ' H',Inv X pins σ' H' s'/\Q σ' H') X.xe s
noncomputable abbrev zr0:=V->V->V->Hp->(Hp->Prop)->Prop
def zs4(X:Cx)(t:zr0):Prop :=
 ∀ (pins:List (Addr×Obj)) (s:Shared) (σ:St) (H:Hp) (o i v:V) (ov iv u:Value) (Q:Hp->Prop),Inv X pins σ H s->zaR o ov->zaR i iv->zaR v u->t o i v H Q ->
  wpAny (model X.prog X.w) X.A (setItem ov iv u) (λ_ s'=>∃ H',Inv X pins σ H' s'/\Q H') X.xe s
section
variable {X:Cx}{pos:Pos}
def zpG(i:Nat):TG:=λv σ H Q=>Q (σ.set i (some v)) H
theorem zlM{i:Nat}{x:Str}(hN:X.N.Nodup)(hi:X.N[i]?=some x)(hx:Loc X.env.scope x)(hf:X.fn x=true∨X.env.scope.names.lookup x=some .local:=by first | exact .inl rfl | exact .inr rfl | assumption):PG X (.Name x pos) (zpG i):=by
 intro pins s σ H v u Q I r h;exact wpAny_assign_Name (zjH I hN hi hx r (λs' I'=>⟨_,H,I',h⟩) hf)
def ztL:TGs:=λvs σ H Q=>vs=[]/\Q σ H
def zsT(t:TG)(u:TGs):TGs:=λvs σ H Q=>∃ v r,vs=v::r/\t v σ H λσ' H'=>u r σ' H' Q
theorem zpa:PGs X [] ztL:=by
 intro pins s σ H vs us Q I r h;obtain⟨e,h⟩:=h;subst e;cases r
 exact assignInOrder_nil ⟨σ,H,I,h⟩
theorem znt{e:Expr}{es:List Expr}{t:TG}{u:TGs}(h1:PG X e t)(h2:PGs X es u)
  (hs:(assignEach (e::es) X.env).map (·.2)=assign e X.env::(assignEach es X.env).map (·.2):=by rfl):PGs X (e::es) (zsT t u):=by
 intro pins s σ H vs us Q I r h;obtain⟨v,vr,e1,h⟩:=h;subst e1;cases r with
 | cons r rr =>
  rw[hs];refine assignInOrder_cons (thn (h1 pins s σ H _ _ _ I r h) λ_ s1 ⟨σ1,H1,I1,q1⟩=>?_);exact h2 pins s1 σ1 H1 _ _ Q I1 rr q1
def ztJ(K:W.Frag)(n:Nat)(t:TGs):TG:=λv σ H Q=>∃ a xs,v=.ref a/\SqT K H a xs/\xs.length=n/\t xs σ H Q
theorem zqL{es:List Expr}{k:Nat}{t:TGs}{n:Nat}(hc:X.calm=true)(h:PGs X es t)
  (hn:(assignEach es X.env).length=n:=by rfl) (hst:(assignEach es X.env).findIdx? (·.1)=none:=by rfl):PG X (.Tuple es k pos) (ztJ X.K n t):=by
 intro pins s σ H v u Q I r hw;obtain⟨a,xs,e1,hq,hl,hw⟩:=hw;subst e1;cases r
 obtain⟨its,rv,ht,hz⟩:=I.tuple hq;refine assign_Tuple_tuple (I.ok.hd hc) ht (by simp[hn,<- hl,rv.length]) hst λh' hx=>?_;have I1:Inv X pins σ H { s with heap:=h' }:=I.kept (t':=s.toks) λb o e=>hx b o (nNl (hLz e)) e;exact h pins _ σ H xs _ Q I1 (by simpa using rv) hw
def ztK(to ti:TE)(t:zr0):TG:=λv σ H Q=>to σ H λo H1=>ti σ H1 λi H2=>t o i v H2 λH3=>Q σ H3
theorem zqM{o i:Expr}{to ti:TE}{t:zr0}(ho:PE X o to)(hi:PE X i ti)(hs:zs4 X t)
  (ha:∀ v,assign (.Subscript o i pos) X.env v=(do
   let ov <- holding [v] (eval o X.env)
   let iv <- holding [v,ov] (eval i X.env)
   standAt pos
   holding [v,ov,iv] (setItem ov iv v)
   release [v,ov,iv] []):=by intro _; rfl):PG X (.Subscript o i pos) (ztK to ti t):=by
 intro pins s σ H v u Q I r h;rw[ha];refine wB (wpAny_holding (thn (ho pins s σ H _ I h) λov s1 ⟨x,H1,I1,r1,q1⟩=>?_));refine wB (wpAny_holding (thn (hi pins s1 σ H1 _ I1 q1) λiv s2 ⟨y,H2,I2,r2,q2⟩=>?_));refine wB (wpAny_standAt (wB (wpAny_holding (thn (hs pins s2 σ H2 x y v ov iv u _ I2 r1 r2 r q2) λ_ s3 ⟨H3,I3,q3⟩=>?_))));exact wpAny_release ⟨σ,H3,I3,q3⟩
def zsj(te:TE)(g:TG):TS:=λD σ H=>te σ H λx H1=>g x σ H1 D.nx
theorem zqK{tg e:Expr}{te:TE}{g:TG}(he:PE X e te)(hg:PG X tg g)(hs:swapsWithSole [tg] e pos.line X.env=pure false:=by rfl)(hw:swappedStores [tg] e X.env=pure none:=by rfl)
  (h1:(assignEach [tg] X.env).map (·.2)=[assign tg X.env]:=by rfl):PS X (.Assign [tg] e pos) (zsj te g):=by
 intro pins s σ H D I h;refine wpAny_Assign_stores (thn (he pins s σ H _ I h) λv s1 ⟨x,H1,I1,r1,q1⟩=>?_) hs hw;rw[h1];exact thn (hg pins s1 σ H1 x v _ I1 r1 q1) λ_ s2 q=>q
theorem zqG{i:Nat}{x:Str}{e:Expr}{te:TE}{pos':Pos}(hN:X.N.Nodup)(hi:X.N[i]?=some x)(hx:Loc X.env.scope x)(he:PE X e te)(hs:swapsWith e (some (.Name x pos')) pos.line X.env=pure false:=by rfl)(hf:X.fn x=true∨X.env.scope.names.lookup x=some .local:=by first | exact .inl rfl | exact .inr rfl | assumption) :
  PS X (.Assign [.Name x pos'] e pos) (zsj te (zpG i)):=by
 intro pins s σ H D I h;refine wpAny_Assign_Name (thn (he pins s σ H _ I h) λv s1 ⟨y,H1,I1,r1,q1⟩=>?_) hs;exact zjH I1 hN hi hx r1 (λs2 I2=>⟨_,H1,I2,q1⟩) hf
end
section
variable {X:Cx}{pos:Pos}
end
structure It where
 go:Nat->Hp->Prop
 yld:Nat->Hp->V->Hp->Prop
 stop:Nat->Hp->Prop
def zk6(X:Cx)(pins:List (Addr×Obj))(H:Hp)(b:Addr):Prop :=
 H b=none/\b≠X.env.locals/\b∉X.fs/\(b∈X.ex∨X.s₀.heap.objs.size<=b)/\(∀ x c,X.env.cells.lookup x=some c->c≠b)/\∀ p∈X.pn++pins,p.1≠b
theorem Inv.fpOk{X:Cx}{pins:List (Addr×Obj)}{σ:St}{H H':Hp}{s:Shared}{b:Addr}(I:Inv X pins σ H s)(hb:s.heap.objs.size<=b)(hn:H' b=none):zk6 X pins H' b:=by
 refine⟨hn,Nat.ne_of_gt (nLl I.lt hb),I.nofs hb,.inr (Nat.le_trans I.sz hb),λx c e z=>?_,λp hp z=>?_⟩
 ·obtain⟨v,q⟩:=I.cell x c e;exact absurd (Nat.lt_of_lt_of_le q.lt (by rw[z]; exact hb)) (Nat.lt_irrefl _)
 ·exact absurd (Nat.lt_of_lt_of_le (Heap.lt_size (I.pin p hp).1) (by rw[z]; exact hb)) (Nat.lt_irrefl _)
structure Turn(P:Program)(w:World)(K:W.Frag)(tg:Expr)(J:It)(fp:List Addr)(it:Addr)(tn:Nat->Heap->Prop):Prop where
 mem:it∈fp
 obj:∀ i h,tn i h->∀ b∈fp,∃ o,h.get? b=some o/\∀ v,o.data≠.cell v
 keep:∀ i h h',tn i h->(∀ b∈fp,∀ o,h.get? b=some o->h'.get? b=some o)->tn i h'
 item:∀ (X:Cx),X.prog=P->X.w=w->X.K=K->X.calm=true->∀ (i:Nat) (pins:List (Addr×Obj)) (s:Shared) (σ:St) (H:Hp) (E:Value->Shared->Prop),Inv X pins σ H s->(∀ b∈fp,zk6 X pins H b)->tn i s.heap->J.go i H ->
  wpAny (model P w) X.A (pyNext (.ref it)) (λr s1=>∃ u,r=some u /\
   wpAny (model P w) X.A (letOwnedTupleGo tg (.ref it) u) (λ_ s2=>∃ x H',Inv X pins σ H' s2/\zaR x u/\J.yld i H x H'/\tn (i+1) s2.heap/\∀ b∈fp,H' b=none) E s1) E s
 done:∀ (X:Cx),X.prog=P->X.w=w->X.K=K->X.calm=true->∀ (i:Nat) (pins:List (Addr×Obj)) (s:Shared) (σ:St) (H:Hp) (E:Value->Shared->Prop),Inv X pins σ H s->(∀ b∈fp,zk6 X pins H b)->tn i s.heap->J.stop i H ->
  wpAny (model P w) X.A (pyNext (.ref it)) (λr s1=>r=none/\Inv X pins σ H s1) E s
 self:∀ (A:Around) (i:Nat) (s:Shared) (Q:Value->Shared->Prop) (E:Value->Shared->Prop),tn i s.heap->Q (.ref it) s->wpAny (model P w) A (pyIter (.ref it)) Q E s
noncomputable abbrev TI:=St->Hp->(It->Hp->Prop)->Prop
def PIE(X:Cx)(pins:List (Addr×Obj))(σ:St)(tg:Expr)(R:It->Hp->Prop)(itv:Value)(s2:Shared):Prop :=
 ∃ (it:Addr) (fp:List Addr) (tn:Nat->Heap->Prop) (J:It) (H':Hp),itv=.ref it/\Inv X pins σ H' s2/\Turn X.prog X.w X.K tg J fp it tn/\tn 0 s2.heap/\(∀ b∈fp,zk6 X pins H' b)/\R J H'
def PI(X:Cx)(tg iter:Expr)(wi:TI):Prop :=
 ∀ (pins:List (Addr×Obj)) (s:Shared) (σ:St) (H:Hp) (R:It->Hp->Prop),Inv X pins σ H s->wi σ H R ->
  wpAny (model X.prog X.w) X.A (eval iter X.env) (λv s1=>wpAny (model X.prog X.w) X.A (pyIter v) (PIE X pins σ tg R) X.xe s1) X.xe s
theorem zmq{M:Model}{A:Around}{E:Value->Shared->Prop}{s:Shared}{tg:Expr}{it:Addr}{u:Value}{o:Obj}{n:String}{vs:Array Value}{Q:Unit->Shared->Prop}(ho:s.heap.get? it=some o)(hc:o.cls=.type n)(hd:o.data=.fields vs)
  (hn:["enumerate","zip","dict_itemiterator","dict_reverseitemiterator","odict_iterator","itertools.zip_longest","itertools.pairwise"].contains n=false) (hQ:Q () s):wpAny M A (letOwnedTupleGo tg (.ref it) u) Q E s:=by
 unfold letOwnedTupleGo;cases tg<;>first
  | exact wQ hQ
  | (cases u<;>first
    | exact wQ hQ
    | (refine wB (wpAny_load ho ?_)
       rw[hc,hd];show wpAny M A (if (["enumerate","zip","dict_itemiterator","dict_reverseitemiterator","odict_iterator","itertools.zip_longest","itertools.pairwise"].contains n&&vs[0]?==some (rawInt _))=true then _ else _) Q E s;rw[if_neg (by intro h; rw[hn,Bool.false_and]at h; cases h)];exact wQ hQ))
noncomputable def Itl(K:W.Frag)(a:Addr):It :=
 ⟨λi H=>∃ xs x,SqL K H a xs/\xs[i]?=some x,λi H x H'=>H'=H/\∀ xs,SqL K H a xs->xs[i]?=some x,λi H=>∃ xs,SqL K H a xs/\xs.length<=i⟩
noncomputable def Itt(K:W.Frag)(a:Addr):It :=
 ⟨λi H=>∃ xs x,SqT K H a xs/\xs[i]?=some x,λi H x H'=>H'=H/\∀ xs,SqT K H a xs->xs[i]?=some x,λi H=>∃ xs,SqT K H a xs/\xs.length<=i⟩
noncomputable def Itr(lo:Int)(n:Nat):It:=⟨λi _=>i < n,λi H x H'=>H'=H/\x=.int (lo+i),λi _=>n<=i⟩
theorem zhR{P:Program}{w:World}{K:W.Frag}{tg:Expr}(a it:Addr):Turn P w K tg (Itl K a) [it] it (λi h=>h.IsListIter it a i) where
 mem:=by simp
 obj:=λi h st b hb=>by
  have e:b=it:=by simpa using hb
  subst e
  obtain⟨o,e,c,d⟩:=st
  exact⟨o,e,λv z=>by rw[d]at z; cases z⟩
 keep:=λi h h' st k=>st.at λo e=>k it (by simp) o e
 item:=by
  intro X hP hw hK hc i pins s σ H E I hf st hg;subst hP hw hK;obtain⟨xs,x,hq,hx⟩:=hg;obtain⟨its,rv,p,hz⟩:=I.list hq;obtain⟨u,hu,ru⟩:=rv.get hx;obtain⟨f0,f1,f2,f3,f4,f5⟩:=hf it (by simp);refine wpAny_pyNext_list_item st p.isList (x:=u) (by simpa using hu) λh' st' sb=>?_;have I1:Inv X pins σ H { s with heap:=h' }:=I.turned (t':=s.toks) (λb o hb e=>(sb.2 b hb).trans e) f0 f1 f3 f4 f5;obtain⟨o,e,c,d⟩:=id st';exact⟨u,rfl,zmq (s:={ s with heap:=h' }) e c d (by decide) ⟨x,H,I1,ru,⟨rfl,λys hy=>by rw[I.list_inj hy hq]; exact hx⟩,st',λb hb=>(hf b hb).1⟩⟩
 done:=by
  intro X hP hw hK hc i pins s σ H E I hf st hg;subst hP hw hK;obtain⟨xs,hq,hx⟩:=hg;obtain⟨its,rv,p,hz⟩:=I.list hq;obtain⟨f0,f1,f2,f3,f4,f5⟩:=hf it (by simp);have hl:=rv.length;exact wpAny_pyNext_list_end (I.ok.hd hc) st p.isList (by simp; lia) λh' eb=>⟨rfl,I.turned (t':=s.toks) (λb o hb e=>eb b o hb e) f0 f1 f3 f4 f5⟩
 self:=λ_ _ _ _ _ st h=>wpAny_pyIter_listiter st h
theorem zkt{P:Program}{w:World}{K:W.Frag}{tg:Expr}(a it:Addr):Turn P w K tg (Itt K a) [it] it (λi h=>h.IsTupleIter it a i) where
 mem:=by simp
 obj:=λi h st b hb=>by
  have e:b=it:=by simpa using hb
  subst e
  obtain⟨o,e,c,d⟩:=st
  exact⟨o,e,λv z=>by rw[d]at z; cases z⟩
 keep:=λi h h' st k=>st.at λo e=>k it (by simp) o e
 item:=by
  intro X hP hw hK hc i pins s σ H E I hf st hg;subst hP hw hK;obtain⟨xs,x,hq,hx⟩:=hg;obtain⟨its,rv,p,hz⟩:=I.tuple hq;obtain⟨u,hu,ru⟩:=rv.get hx;obtain⟨f0,f1,f2,f3,f4,f5⟩:=hf it (by simp);refine wpAny_pyNext_tuple_item st (show s.heap.IsTuple a its.toArray from p) (x:=u) (by simpa using hu) λh' st' sb=>?_;have I1:Inv X pins σ H { s with heap:=h' }:=I.turned (t':=s.toks) (λb o hb e=>(sb.2 b hb).trans e) f0 f1 f3 f4 f5;obtain⟨o,e,c,d⟩:=id st';exact⟨u,rfl,zmq (s:={ s with heap:=h' }) e c d (by decide) ⟨x,H,I1,ru,⟨rfl,λys hy=>by rw[I.tuple_inj hy hq]; exact hx⟩,st',λb hb=>(hf b hb).1⟩⟩
 done:=by
  intro X hP hw hK hc i pins s σ H E I hf st hg;subst hP hw hK;obtain⟨xs,hq,hx⟩:=hg;obtain⟨its,rv,p,hz⟩:=I.tuple hq;obtain⟨f0,f1,f2,f3,f4,f5⟩:=hf it (by simp);have hl:=rv.length;exact wpAny_pyNext_tuple_end (I.ok.hd hc) st (show s.heap.IsTuple a its.toArray from p) (by simp; lia) λh' eb=>⟨rfl,I.turned (t':=s.toks) (λb o hb e=>eb b o hb e) f0 f1 f3 f4 f5⟩
 self:=λ_ _ _ _ _ st h=>wpAny_pyIter_tupleiter st h
theorem zku{P:Program}{w:World}{K:PySem.W.Frag}{tg:Expr}(it:Addr)(lo:Int)(n:Nat):Turn P w K tg (Itr lo n) [it] it (λi h=>IsRangeIter h it (lo+(i:Nat) * 1) ((n:Int) - (i:Nat)) 1) where
 mem:=by simp
 obj:=λi h st b hb=>by
  have e:b=it:=by simpa using hb
  subst e
  exact⟨_,st,λv z=>by
   have z':Data.fields _=Data.cell v:=z
   cases z'⟩
 keep:=λi h h' st k=>k it (by simp) _ st
 item:=by
  intro X hP hw hK hc i pins s σ H E I hf st hg;subst hP hw hK;obtain⟨f0,f1,f2,f3,f4,f5⟩:=hf it (by simp);have W:=Walks.range (prog:=X.prog) (w:=X.w) (I.ok.hd hc) it lo 1 n;refine W.item i s _ _ hg st λv h' tk hv st' kk=>?_;obtain⟨t,rfl⟩:=hv;have I1:Inv X pins σ H { s with heap:=h',toks:=tk }:=I.turned (λb o hb e=>kk b o (by simpa using hb) e) f0 f1 f3 f4 f5;refine⟨_,rfl,zmq (s:={ s with heap:=h',toks:=tk }) (n:="range_iterator") st' rfl rfl (by decide) ⟨.int (lo+i),H,I1,⟨t,?_⟩,⟨rfl,rfl⟩,st',λb hb=>(hf b hb).1⟩⟩;rw[Int.mul_one]
 done:=by
  intro X hP hw hK hc i pins s σ H E I hf st hg;subst hP hw hK;obtain⟨f0,f1,f2,f3,f4,f5⟩:=hf it (by simp);exact wpAny_pyNext_range_end (I.ok.hd hc) st (by have:n<=i:=hg; lia) λh' eb=>⟨rfl,I.turned (t':=s.toks) (λb o hb e=>eb b o hb e) f0 f1 f3 f4 f5⟩
 self:=λ_ _ _ _ _ st h=>wpAny_pyIter_rangeiter st h
section
variable {X:Cx}{tg:Expr}
theorem znh{pins:List (Addr×Obj)}{σ:St}{H:Hp}{s:Shared}{R:It->Hp->Prop}{E:Value->Shared->Prop}{lo hi:Int}{t u v:Tok}{tk:Nat}(I:Inv X pins σ H s)(h1:-(2 ^ 62)<=lo)(h2:lo < 2 ^ 62)(h3:-(2 ^ 62)<=hi)(h4:hi < 2 ^ 62)
  (q:R (Itr lo (hi - lo).toNat) H):wpAny (model X.prog X.w) X.A (pyIter (.ref s.heap.objs.size)) (PIE X pins σ tg R) E { s with heap:=s.heap.push { cls:=.type "range",data:=.fields #[.int lo t,.int hi u,.int 1 v] },toks:=tk }:=by
 refine wpAny_pyIter_range (IsRange.new ..) (small_one h1 h2 h3 h4) ?_;have I1:Inv X pins σ H { s with heap:=s.heap.push { cls:=.type "range",data:=.fields #[.int lo t,.int hi u,.int 1 v] },toks:=tk }:=I.kept λb o e=>Heap.get?_push_of_some _ e;refine⟨(s.heap.push { cls:=.type "range",data:=.fields #[.int lo t,.int hi u,.int 1 v] }).objs.size,[(s.heap.push { cls:=.type "range",data:=.fields #[.int lo t,.int hi u,.int 1 v] }).objs.size],_,_,H,rfl,
  I1.kept (t':=tk) λb o e=>hPs _ e,zku _ lo (hi - lo).toNat,?_,λb hb=>?_,q⟩
 ·have e1:lo+((0:Nat):Int) * 1=lo:=by simp
  have e2:(((hi - lo).toNat:Nat):Int) - ((0:Nat):Int)=Builtin.Range.rangeSize lo hi 1:=by rw[rangeSize_one]; split<;>lia
  show IsRangeIter _ _ (lo+((0:Nat):Int) * 1) ((((hi - lo).toNat:Nat):Int) - ((0:Nat):Int)) 1;rw[e1,e2];exact hPz _ rfl
 ·have e:b=(s.heap.push { cls:=.type "range",data:=.fields #[.int lo t,.int hi u,.int 1 v] }).objs.size:=by simpa using hb
  subst e;exact I1.fpOk (nLr _) (I1.hok.fresh (nLr _))
def zsS(ta:TA):TI:=λσ H R=>ta σ H λvs H1=>∃ j:Int,vs=[.int j]/\-(2 ^ 62)<=j/\j < 2 ^ 62/\R (Itr 0 j.toNat) H1
theorem zlL{a:Expr}{ta:TA}{p pos:Pos}(hg:Gl X "range") (hm:X.mg "range"=none) (ha:PA X [a] ta) (hs:starEach [a] X.env=[(false,eval a X.env)]:=by rfl):PI X tg (.Call (.Name "range" p) [a] [] pos) (zsS ta):=by
 intro pins s σ H R I h;refine Call_ (ze8 I hg hm boot_range (PyProof.Rows.callWith_type1 (thn (ha pos pins s σ H _ I h) λus s1 ⟨vs,H1,I1,r1,q1⟩=>?_) hs rfl));obtain⟨j,e,q1,q2,q⟩:=q1;subst e;cases r1 with
 | cons r rr =>
  cases rr
  obtain⟨t,rfl⟩:=r;exact call_range_1 (znh I1 (by lia) (by lia) q1 q2 (by simpa using q))
def ztp(wi:TI)(g:TG)(tb:TS):TS:=λD σ H=>wi σ H λJ H1=>∃ W:Nat->Nat->St->Hp->Prop,(∃ m,W 0 m σ H1)/\∀ i m σ H,W i m σ H ->
 (J.stop i H/\D.nx σ H)∨(J.go i H/\∃ N:St->Hp->Prop,(∀ σ' H',N σ' H'->∃ m',m' < m/\W (i+1) m' σ' H')/\∀ x H',J.yld i H x H'->g x σ H' λσ2 H2=>tb { D with nx:=N,ct:=N,bk:=D.nx } σ2 H2)
noncomputable def zfU(fp:List Addr)(h:Heap):List (Addr×Obj):=fp.filterMap λb=>(h.get? b).map λo=>(b,o)
theorem zdv{fp:List Addr}{h:Heap}{b:Addr}{o:Obj}(hb:b∈fp)(e:h.get? b=some o):(b,o)∈zfU fp h:=List.mem_filterMap.mpr ⟨b,hb,by rw[e]; rfl⟩
theorem zii{fp:List Addr}{h:Heap}{p:Addr×Obj}(hp:p∈zfU fp h):p.1∈fp/\h.get? p.1=some p.2:=by
 obtain⟨b,hb,e⟩:=List.mem_filterMap.mp hp;cases q:h.get? b with
 | none=>rw[q]at e; cases e
 | some o =>
  rw[q]at e;have e':(b,o)=p:=Option.some.inj e;subst e';exact⟨hb,q⟩
theorem Inv.pinned{pins:List (Addr×Obj)}{σ:St}{H:Hp}{s:Shared}{fp:List Addr}(I:Inv X pins σ H s)(hf:∀ b∈fp,zk6 X pins H b)(ho:∀ b∈fp,∃ o,s.heap.get? b=some o/\∀ v,o.data≠.cell v):Inv X (pins++zfU fp s.heap) σ H s :=
 I.pins_of λp hp=>(List.mem_append.mp hp).elim (λz=>I.pin p (List.mem_append_right _ z)) λz=>by
  obtain⟨hb,e⟩:=zii z
  obtain⟨f0,f1,f2,_⟩:=hf p.1 hb
  obtain⟨o,e',d⟩:=ho p.1 hb
  rw[e]at e'; cases e'
  exact⟨e,f0,f1,f2,d⟩
theorem Inv.unpinned{pins pl:List (Addr×Obj)}{σ:St}{H:Hp}{s:Shared}(I:Inv X (pins++pl) σ H s):Inv X pins σ H s:=I.pins_of λp hp=>I.pin p (List.mem_append_right _ (List.mem_append_left _ hp))
theorem zqI{iter:Expr}{body:List Stmt}{wi:TI}{g:TG}{tb:TS}{pos:Pos}(hp:PassesOwn (model X.prog X.w) X.A X.env X.xe)(hc:X.calm=true)(hi:PI X tg iter wi)(hg:PG X tg g)(hb:PSs X body tb)
  (hs:∀ x,foldedSetIterable iter X.env x=pure x:=by intro _; rfl):PS X (.For tg iter body [] pos) (ztp wi g tb):=by
 intro pins s σ H D I h;refine wpAny_For (thn (hi pins s σ H _ I h) λv s1 h1=>thn h1 λitv s2 h2=>?_) hs;obtain⟨it,fp,tn,J,H2,e,I2,T,st2,f2,W,⟨m0,w0⟩,turn⟩:=h2;subst e;have stat:∀ {H':Hp},(∀ b∈fp,H' b=none)->∀ b∈fp,zk6 X pins H' b:=λhn b hb=>⟨hn b hb,(f2 b hb).2⟩;refine codeAny_forLoop_any (λn s'=>∃ i σ' H',Inv X pins σ' H' s'/\tn i s'.heap/\(∀ b∈fp,H' b=none)/\W i n σ' H') ?_ m0 ⟨0,σ,H2,I2,st2,λb hb=>(f2 b hb).1,w0⟩;rintro n s3 ⟨i,σ3,H3,I3,st3,fr3,w3⟩;rcases turn i n σ3 H3 w3 with ⟨stop,qn⟩ | ⟨go,N,hN,step⟩
 ·refine wpAny_passesOwn hp (thn (T.done X rfl rfl rfl hc i pins s3 σ3 H3 X.xe I3 (stat fr3) st3 stop) λr s4 ⟨hr,I4⟩=>?_);subst hr;exact wpAny_execs_nil ⟨σ3,H3,I4,qn⟩
 ·refine wpAny_passesOwn hp (thn (T.item X rfl rfl rfl hc i pins s3 σ3 H3 X.xe I3 (stat fr3) st3 go) λr s4 ⟨u,hr,h4⟩=>?_);subst hr;refine wpAny_passesOwn hp (thn h4 λ_ s5 ⟨x,H5,I5,r5,y5,st5,fr5⟩=>?_);have I5':=I5.pinned (stat fr5) (T.obj _ _ st5);refine wpAny_passesOwn hp (thn (hg _ s5 σ3 H5 x u _ I5' r5 (step x H5 y5)) λ_ s6 ⟨σ6,H6,I6,q6⟩=>?_);refine wpAny_passesOwn hp (thn (hb _ s6 σ6 H6 _ I6 q6) λf s7 q7=>?_);have again:∀ {σ7:St} {H7:Hp},Inv X (pins++zfU fp s5.heap) σ7 H7 s7->N σ7 H7->∃ m,m < n/\∃ i σ' H',Inv X pins σ' H' s7/\tn i s7.heap/\(∀ b∈fp,H' b=none)/\W i m σ' H':=λ{σ7 H7} I7 n7=>by
   obtain⟨m',hm,w7⟩:=hN σ7 H7 n7;refine⟨m',hm,i+1,σ7,H7,I7.unpinned,T.keep _ _ _ st5 λb hb o e=>(I7.pin (b,o) (List.mem_append_right _ (List.mem_append_right _ (zdv hb e)))).1,λb hb=>?_,w7⟩;obtain⟨o,e,d⟩:=T.obj _ _ st5 b hb;exact(I7.pin (b,o) (List.mem_append_right _ (List.mem_append_right _ (zdv hb e)))).2.1
  cases f with
  | next=>obtain⟨σ7,H7,I7,n7⟩:=q7; exact again I7 n7
  | cont=>obtain⟨σ7,H7,I7,n7⟩:=q7; exact again I7 n7
  | brk=>obtain⟨σ7,H7,I7,q7⟩:=q7; exact⟨σ7,H7,I7.unpinned,q7⟩
  | ret v=>obtain⟨x7,σ7,H7,I7,r7,q7⟩:=q7; exact⟨x7,σ7,H7,I7.unpinned,r7,q7⟩
end
noncomputable abbrev R2:=V->V->Hp->VK->Prop
def OpR(X:Cx)(f:Value->Value->Sem Value)(r:R2):Prop :=
 ∀ (pins:List (Addr×Obj)) (s:Shared) (σ:St) (H:Hp) (x y:V) (v u:Value) (Q:VK),Inv X pins σ H s->zaR x v->zaR y u->r x y H Q ->
  wpAny (model X.prog X.w) X.A (f v u) (EP X pins σ Q) X.xe s
def zci(X:Cx)(f:Value)(r:List V->Hp->VK->Prop):Prop :=
 ∀ (pins:List (Addr×Obj)) (s:Shared) (σ:St) (H:Hp) (xs:List V) (us:List Value) (Q:VK),Inv X pins σ H s->zaF xs us->r xs H Q ->
  wpAny (model X.prog X.w) X.A (call f us) (EP X pins σ Q) X.xe s
def ztS(X:Cx)(r:V->Hp->(Bool->Hp->Prop)->Prop):Prop :=
 ∀ (pins:List (Addr×Obj)) (s:Shared) (σ:St) (H:Hp) (x:V) (v:Value) (Q:Bool->Hp->Prop),Inv X pins σ H s->zaR x v->r x H Q ->
  wpAny (model X.prog X.w) X.A (truthy v) (TP X pins σ Q) X.xe s
def tOp(r:R2)(ta tb:TE):TE:=λσ H Q=>ta σ H λx H1=>tb σ H1 λy H2=>r x y H2 Q
def rI(C:Int->Int->Prop)(g:Int->Int->V):R2:=λx y H Q=>∃ i j,x=.int i/\y=.int j/\C i j/\Q (g i j) H
def rI0(g:Int->Int->V):R2:=λx y H Q=>∃ i j,x=.int i/\y=.int j/\Q (g i j) H
section
variable {X:Cx}{a b c:Expr}{ta tb tc:TE}{pos:Pos}
theorem zs0(ha:PE X a ta)(hb:PE X b tb){pins:List (Addr×Obj)}{s:Shared}{σ:St}{H:Hp}{R:V->V->Hp->Prop}(I:Inv X pins σ H s)
  (h:ta σ H λx H1=>tb σ H1 λy H2=>R x y H2) {Q:Value->Shared->Prop} {f:Value->Value->Sem Value}
  (hf:∀ v u s2 x y H2,Inv X pins σ H2 s2->zaR x v->zaR y u->R x y H2->wpAny (model X.prog X.w) X.A (f v u) Q X.xe s2) :
  wpAny (model X.prog X.w) X.A (eval a X.env) (λv s₁=>wpAny (model X.prog X.w) X.A (eval b X.env) (λu s₂=>wpAny (model X.prog X.w) X.A (f v u) Q X.xe s₂) X.xe s₁) X.xe s:=by
 refine thn (ha pins s σ H _ I h) λv s1 ⟨x,H1,I1,r1,q1⟩=>?_;refine thn (hb pins s1 σ H1 _ I1 q1) λu s2 ⟨y,H2,I2,r2,q2⟩=>?_;exact hf v u s2 x y H2 I2 r1 r2 q2
theorem zsH{op:Operator}{r:R2}(ho:OpR X (binaryOp op) r)(ha:PE X a ta)(hb:PE X b tb):PE X (.BinOp a op b pos) (tOp r ta tb):=by
 intro pins s σ H Q I h;exact wpAny_BinOp (zs0 ha hb I h λv u s2 x y H2 I2 rx ry q=>ho pins s2 σ H2 x y v u Q I2 rx ry q)
theorem opI{f:Value->Value->Sem Value}{C:Int->Int->Prop}{g:Int->Int->Int}
  (rule:∀ (i j:Int) (t u:Tok) (s:Shared) (Q:Value->Shared->Prop) (E:Value->Shared->Prop),C i j->Q (.int (g i j) s.toks) { s with toks:=s.toks+1 }->wpAny (model X.prog X.w) X.A (f (.int i t) (.int j u)) Q E s) :
  OpR X f (rI C λi j=>.int (g i j)):=by
 intro pins s σ H x y v u Q I rx ry h;obtain⟨i,j,rfl,rfl,hc,q⟩:=h;obtain⟨t,rfl⟩:=rx;obtain⟨t',rfl⟩:=ry;exact rule i j t t' s _ _ hc ⟨.int (g i j),H,I.tok _,⟨_,rfl⟩,q⟩
theorem zs8{f:Value->Value->Sem Value}{g:Int->Int->Int}
  (rule:∀ (i j:Int) (t u:Tok) (s:Shared) (Q:Value->Shared->Prop) (E:Value->Shared->Prop),Q (.int (g i j) s.toks) { s with toks:=s.toks+1 }->wpAny (model X.prog X.w) X.A (f (.int i t) (.int j u)) Q E s) :
  OpR X f (rI0 λi j=>.int (g i j)):=by
 intro pins s σ H x y v u Q I rx ry h;obtain⟨i,j,rfl,rfl,q⟩:=h;obtain⟨t,rfl⟩:=rx;obtain⟨t',rfl⟩:=ry;exact rule i j t t' s _ _ ⟨.int (g i j),H,I.tok _,⟨_,rfl⟩,q⟩
theorem zsM{f:Value->Value->Sem Value}{g:Int->Int->Bool}
  (rule:∀ (i j:Int) (t u:Tok) (s:Shared) (Q:Value->Shared->Prop) (E:Value->Shared->Prop),Q (.bool (g i j)) s->wpAny (model X.prog X.w) X.A (f (.int i t) (.int j u)) Q E s) :
  OpR X f (rI0 λi j=>.bl (g i j)):=by
 intro pins s σ H x y v u Q I rx ry h;obtain⟨i,j,rfl,rfl,q⟩:=h;obtain⟨t,rfl⟩:=rx;obtain⟨t',rfl⟩:=ry;exact rule i j t t' s _ _ ⟨.bl (g i j),H,I,rfl,q⟩
def zth(i j:Int):Prop:=0 < j/\j < 1073741824
def ztg(i j:Int):Prop:=0<=j/\j<=1000000/\i.natAbs < 2 ^ 64
def zrU(i j:Int):Prop:=(-(2 ^ 64) < i/\i < 2 ^ 64)∨(-(2 ^ 64) < j/\j < 2 ^ 64)
theorem zrU.ok{i j:Int}(h:zrU i j):IntMulOk i j:=by
 rcases h with ⟨h1,h2⟩ | ⟨h1,h2⟩
 ·exact .of_left (intBits_le_64 h1 h2)
 ·exact .of_right (intBits_le_64 h1 h2)
theorem zq6:OpR X (binaryOp .Add) (rI0 λi j=>.int (i+j)):=zs8 λ_ _ _ _ _ _ _ q=>add_int q
theorem zqX:OpR X (binaryOp .Sub) (rI0 λi j=>.int (i - j)):=zs8 λ_ _ _ _ _ _ _ q=>sub_int q
theorem zq0:OpR X (binaryOp .Mult) (rI zrU λi j=>.int (i * j)):=opI λ_ _ _ _ _ _ _ hc q=>mul_int q hc.ok
theorem zpj:OpR X (binaryOp .FloorDiv) (rI zth λi j=>.int (i / j)):=opI λi j _ _ _ _ _ hc q=>by
 have h1:(0:Int) < j:=hc.1
 have h2:j < 1073741824:=hc.2
 exact floordiv_int (by lia) (by rw[Int.fdiv_eq_ediv_of_nonneg i (by lia)]; exact q) (.inl (PyProof.noPylong_small (by lia)))
theorem zq1:OpR X (binaryOp .Mod) (rI (λ_ j=>0 < j) λi j=>.int (i % j)):=opI λi j _ _ _ _ _ hc q=>by
 have h1:(0:Int) < j:=hc
 exact mod_int' (by lia) (by rw[Int.fmod_eq_emod_of_nonneg i (by lia)]; exact q)
theorem zqY:OpR X (binaryOp .Pow) (rI ztg λi j=>.int (i ^ j.toNat)):=opI λ_ _ _ _ _ _ _ hc q=>pow_int_small hc.1 hc.2.1 hc.2.2 q
end
section
variable {X:Cx}{a b c:Expr}{ta tb tc:TE}{pos:Pos}
theorem zrz{pins:List (Addr×Obj)}{σ:St}{H:Hp}{s:Shared}{Q:VK}{k k':Bool}(I:Inv X pins σ H s)(q:Q (.bl k) H)(e:k=k'):EP X pins σ Q (.bool k') s:=by
 subst e;exact⟨.bl k,H,I,rfl,q⟩
theorem zsK:OpR X (compareOp .Lt) (rI0 λi j=>.bl (decide (i < j))):=zsM λ_ _ _ _ _ _ _ q=>lt_int q
theorem zq3:OpR X (compareOp .Gt) (rI0 λi j=>.bl (decide (j < i))):=zsM λ_ _ _ _ _ _ _ q=>gt_int q
theorem zsL:OpR X (compareOp .GtE) (rI0 λi j=>.bl (decide (j<=i))):=zsM λ_ _ _ _ _ _ _ q=>ge_int q
theorem zpi:OpR X (compareOp .IsNot) (λx y H Q=>y=.non/\Q (.bl (!decide (x=.non))) H):=by
 intro pins s σ H x y v u Q I rx ry h;obtain⟨rfl,q⟩:=h;cases ry
 refine isnot_none_gen (zrz I q ?_);cases x<;>first
  | (cases rx; rfl)
  | (obtain⟨t,rfl⟩:=rx; rfl)
theorem OpR.or{f:Value->Value->Sem Value}{r r':R2}(h:OpR X f r)(h':OpR X f r'):OpR X f (λx y H Q=>r x y H Q∨r' x y H Q):=by
 intro pins s σ H x y v u Q I rx ry q;rcases q with q | q
 ·exact h pins s σ H x y v u Q I rx ry q
 ·exact h' pins s σ H x y v u Q I rx ry q
theorem zoj(b:Expr){op:CmpOp}(h:op≠.In:=by decide)(h2:op≠.NotIn:=by decide):behindInMarks op b=false:=by
 have e1:(op==CmpOp.In)=false:=by cases op<;>first | rfl | exact absurd rfl h
 have e2:(op==CmpOp.NotIn)=false:=by cases op<;>first | rfl | exact absurd rfl h2
 cases b<;>simp[behindInMarks,e1,e2]
theorem zpf{op:CmpOp}{r:R2}(ho:OpR X (compareOp op) r)(ha:PE X a ta)(hb:PE X b tb)(hm:behindInMarks op b=false):PE X (.Compare a [op] [b] pos) (tOp r ta tb):=by
 intro pins s σ H Q I h;exact wpAny_Compare1 (zs0 ha hb I h λv u s2 x y H2 I2 rx ry q=>ho pins s2 σ H2 x y v u Q I2 rx ry q) hm
def zqa(t:TE):TT:=λσ H Q=>t σ H λx H'=>∃ k,x=.bl k/\Q k H'
theorem zo3{op:CmpOp}{r:R2}(ho:OpR X (compareOp op) r)(ha:PE X a ta)(hb:PE X b tb)(hm:behindInMarks op b=false):PT X (.Compare a [op] [b] pos) (zqa (tOp r ta tb)):=by
 intro pins s σ H Q I h;refine wpAny_isTrue_Compare1 (thn (ha pins s σ H _ I h) λv s1 ⟨x,H1,I1,r1,q1⟩=>thn (hb pins s1 σ H1 _ I1 q1) λu s2 ⟨y,H2,I2,r2,q2⟩ =>
  thn (ho pins s2 σ H2 x y v u _ I2 r1 r2 q2) λc s3 ⟨z,H3,I3,r3,k,e,q3⟩=>?_) hm
 subst e;cases r3
 exact wpAny_truthy_bool ⟨H3,I3,q3⟩
def zte(K:W.Frag)(x:V)(H:Hp)(k:Bool):Prop :=
 match x with
 | .non=>k=false
 | .bl b=>k=b
 | .int i=>k=(i != 0)
 | .str y=>y.length<=sizeLine/\k=((y.length:Int) != 0)
 | .byt y=>y.size<=sizeLine/\k=((y.size:Int) != 0)
 | .ref p=>(∃ xs,SqL K H p xs/\k=!xs.isEmpty)∨(∃ xs,SqT K H p xs/\k=!xs.isEmpty)∨∃ kvs,H p=some (.dK kvs)/\k=!kvs.isEmpty
 | _=>False
theorem zkP{κ:Type}{kvs:List (κ×V)}{vs:List (κ×Value)}(r:KV kvs vs):(!vs.isEmpty)=!kvs.isEmpty:=by
 cases r<;>rfl
theorem zgW{xs:List V}{its:List Value}(r:zaF xs its):(!its.toArray.isEmpty)=!xs.isEmpty:=by
 cases r<;>simp
theorem zgU:(sizeLine:Nat) < 2 ^ 63:=by rw[sizeLine_eq]; decide
theorem zp9:ztS X (λx H Q=>∃ k,zte X.K x H k/\Q k H):=by
 intro pins s σ H x v Q I rx h;obtain⟨k,e,q⟩:=h;have hl:=zgU;have hs:sizeLine=16777216:=sizeLine_eq;cases x with
 | non =>
  cases rx
  have e':k=false:=e;subst e';exact truthy_none ⟨H,I,q⟩
 | bl b =>
  cases rx
  have e':k=b:=e;subst e';exact wpAny_truthy_bool ⟨H,I,q⟩
 | int i =>
  obtain⟨t,rfl⟩:=rx;have e':k=(i != 0):=e;subst e';exact PySem.P.truthy_int ⟨H,I,q⟩
 | str y =>
  obtain⟨t,rfl⟩:=rx;obtain⟨hy,e'⟩:y.length<=sizeLine/\k=((y.length:Int) != 0):=e;subst e';exact PySem.P.truthy_str (by lia) ⟨H,I.tok _,q⟩
 | byt y =>
  obtain⟨t,rfl⟩:=rx;obtain⟨hy,e'⟩:y.size<=sizeLine/\k=((y.size:Int) != 0):=e;subst e';exact W.truthy_bytes (by lia) ⟨H,I.tok _,q⟩
 | ref p =>
  cases rx
  have e':(∃ xs,SqL X.K H p xs/\k=!xs.isEmpty)∨(∃ xs,SqT X.K H p xs/\k=!xs.isEmpty)∨∃ kvs,H p=some (.dK kvs)/\k=!kvs.isEmpty:=e;rcases e' with ⟨xs,hx,e'⟩ | ⟨xs,hx,e'⟩ | ⟨kvs,hx,e'⟩
  ·subst e';obtain⟨its,r,pl,hz⟩:=I.list hx;have hlen:=r.length;exact wpAny_truthy_list pl.isList (by simp only[List.size_toArray]; lia) ⟨H,I.tok _,by rw[zgW r]; exact q⟩
  ·subst e';obtain⟨its,r,pl,hz⟩:=I.tuple hx;have hlen:=r.length;exact truthy_tuple pl (by simp only[List.size_toArray]; lia) ⟨H,I.tok _,by rw[zgW r]; exact q⟩
  ·subst e';obtain⟨hz,hS,vs,r,m⟩:kvs.length<=sizeLine/\(p==sysModules)=false/\∃ vs,KV kvs vs/\s.heap.DictOf (zaD X.prog X.w) p vs:=I.hok p _ hx;have hlen:kvs.length=vs.length:=Paired.length r;exact wpAny_truthy_dict hS m (by lia) ⟨H,I.tok _,by rw[zkP r]; exact q⟩
 | _=>exact(show False from e).elim
theorem znm(ha:PE X a ta)(he:∀ whole,isTrue a X.env whole=(do let v <- whole; standAt a.pos; holding [v] (truthy v))) :
  PT X a (λσ H Q=>ta σ H λx H'=>∃ k,zte X.K x H' k/\Q k H'):=by
 intro pins s σ H Q I h;exact isTrue_plain (thn (ha pins s σ H _ I h) λv s1 ⟨x,H1,I1,r1,q1⟩=>zp9 pins s1 σ H1 x v Q I1 r1 q1) (he _)
theorem zg6{x:V}{us:List Value}(r:zaF [x] us):∃ u,us=[u]/\zaR x u:=by
 cases r with
 | cons r1 r2=>cases r2; exact⟨_,rfl,r1⟩
theorem zsa{x y:V}{us:List Value}(r:zaF [x,y] us):∃ u w',us=[u,w']/\zaR x u/\zaR y w':=by
 cases r with
 | cons r1 r2 =>
  cases r2 with
  | cons r3 r4=>cases r4; exact⟨_,_,rfl,r1,r3⟩
theorem zmQ(hc:X.calm=true):zci X (.builtin "max") (λxs H Q=>∃ i j,xs=[.int i,.int j]/\Q (.int (if j > i then j else i)) H):=by
 intro pins s σ H xs us Q I r h;obtain⟨i,j,rfl,q⟩:=h;obtain⟨u,w',rfl,⟨t,rfl⟩,⟨t',rfl⟩⟩:=zsa r;refine max_two_ints (I.ok.hd hc) λh' tk k=>⟨_,H,I.kept k,?_,q⟩;by_cases hj:j > i
 ·rw[if_pos hj,if_pos hj]; exact⟨_,rfl⟩
 ·rw[if_neg hj,if_neg hj]; exact⟨_,rfl⟩
theorem zmS:zci X (.type "int") (λxs H Q=>(∃ i,xs=[.int i]/\Q (.int i) H)∨∃ k,xs=[.bl k]/\Q (.int (if k then 1 else 0)) H):=by
 intro pins s σ H xs us Q I r h;rcases h with ⟨i,rfl,q⟩ | ⟨k,rfl,q⟩
 ·obtain⟨u,rfl,t,rfl⟩:=zg6 r;exact call_int_int ⟨.int i,H,I,⟨_,rfl⟩,q⟩
 ·obtain⟨u,rfl,r1⟩:=zg6 r;cases r1
  exact call_int_bool ⟨.int (if k then 1 else 0),H,I.tok _,⟨_,rfl⟩,q⟩
end
structure ObjM(h:Heap)(x dx C:Addr)(mA:Str->Option Value):Prop where
 obj:h.get? x=some (W.instObj C dx)
 ns:h.Ns1 dx mA
 ne:dx≠x
theorem zl9{h:Heap}{dx:Addr}{mA:Str->Option Value}(n:h.Ns1 dx mA):∃ od,h.get? dx=some od/\∀ name,W.lookIn name od=some (mA name):=by
 obtain⟨o,es,ep,ho,hd,hk,_,hm⟩:=n;refine⟨o,ho,λname=>?_⟩;have e:=hm name;unfold nsFind findBy at e;rw[<- Array.find?_toList]at e;unfold W.lookIn;rw[hd];dsimp only;split
 ·rename_i y q;rw[q]at e;exact congrArg some e
 ·rename_i q;rw[q]at e;have a:es.toList.any (·.refKey)=false:=by
   rw[List.any_eq_false];intro y hy;obtain⟨z,t,hkey⟩:=hk y (Array.mem_toList_iff.mp hy);simp[DictEntry.refKey,hkey]
  have a':¬ es.toList.any (·.refKey)=true:=by rw[a]; exact Bool.false_ne_true
  rw[if_neg a'];exact congrArg some e
theorem ObjM.look{h:Heap}{x dx C:Addr}{mA:Str->Option Value}(I:ObjM h x dx C mA):∃ od,W.InstAt h x (W.instObj C dx) C (some od)/\∀ name,W.lookIn name od=some (mA name) :=
 let ⟨od,ho,hl⟩:=zl9 I.ns
 ⟨od,⟨I.obj,rfl,rfl,ho⟩,hl⟩
section
variable {prog:Program}{w:World}{A:Around}{E:Value->Shared->Prop}{s:Shared}{K:W.Frag}{x dx C f:Addr}{mA:Str->Option Value}{name:Str}{v:Value}
theorem zpF{expr:Bool}{Q:Value->Shared->Prop}(X:K.In s.heap)(I:ObjM s.heap x dx C mA)(hg:PySem.W.plainGet K C name=true)(hh:PySem.W.hasDictIn K C=true)
  (ha:PySem.W.findIn K (.ref C) name=some none) (hv:mA name=some v) (hv':PySem.W.handedIn v=true) (h:Q v { s with toks:=s.toks+1 }) :
  wpAny (model prog w) A (getAttr (.ref x) name expr) Q E s:=by
 obtain⟨od,J,hl⟩:=I.look;exact PySem.W.get_value X J (PySem.W.plainGet_of hg).1 (PySem.W.findObj_own hh ha rfl (by rw[hl,hv])) hv' h
theorem znW{pl:Sem Bool}{Q:Value×List Value->Shared->Prop}(X:K.In s.heap)(I:ObjM s.heap x dx C mA)(hg:W.plainGet K C name=true)
  (hf:W.findIn K (.ref C) name=some (some (.ref f))) (ht:W.isFn K (.ref f)=true) (hv:mA name=none) (h:Q (.ref f,[.ref x]) s) :
  wpAny (model prog w) A (getMethod (.ref x) name pl) Q E s:=by
 obtain⟨od,J,hl⟩:=I.look;exact W.method_fn X J (W.plainGet_of hg).1 (W.plainGet_of hg).2 hf (beq_iff_eq.mp ht) (by show(W.lookIn name od).map (·.isSome)=some false; rw[hl,hv]; rfl) h
theorem zoM{ns:List Str}{Q:Unit->Shared->Prop}(X:K.In s.heap)(I:ObjM s.heap x dx C mA)
  (hs:W.findIn K (.ref C) "__setattr__"=some (some (.builtin "object.__setattr__"))) (hp:W.plainOver K C=true) (ht:W.takerIn K C name=some none) (hh:W.hasDictIn K C=true)
  (hw:PySem.Within mA ns) (hsz:ns.length<=sizeLine)
  (h:∀ h',ObjM h' x dx C (λy=>if y=name then some v else mA y)->Heap.SameBut dx s.heap h'->Q () { s with heap:=h',toks:=s.toks+2 }) :
  wpAny (model prog w) A (setAttr (.ref x) name v) Q E s:=by
 obtain⟨od,J,hl⟩:=I.look;refine W.set_plain X J hs (W.osa_open (s:={ s with toks:=s.toks+1 }) (r:=none) X J hp ht λb=>?_);obtain⟨cd,hc,hd'⟩:=W.any_some hh;have hx:s.heap.get? x=some ⟨.ref C,some dx,.plain,#[]⟩:=I.obj;refine wB (wQ (wB (wB (wpAny_loadPart hx (wB (W.Looks.here (s:={ s with toks:=s.toks+1 }) (W.looks_clsIn X hc) ?_))))));rw[hd'];refine wQ (a:=some dx) (wB (wQ (wB ?_)));refine wpAny_nsSet1 (s:={ s with toks:=s.toks+1 }) I.ns λh' hn2 hs2=>?_;obtain⟨oD,esD,epD,hoD,hdD,hcD⟩:=hn2.count (PySem.Within.cons name v hw);refine wpAny_bind (wpAny_lookBehind hoD (by rw[hdD]; exact pastItsLine_dict (Nat.le_trans hcD (by rw[List.length_cons]; lia))) ?_);exact wQ (h _ ⟨(hs2.2 _ (Ne.symm I.ne)).trans I.obj,hn2,I.ne⟩ hs2)
theorem znI{R:Result->Shared->Prop}{vs:List Value}{kw:List (Str×Value)}(X:K.In s.heap)(hm:W.makesIn K C=true)
  (hi:W.findIn K (.ref C) "__init__"=some (some (.ref f))) (hf:W.typeIn K (.ref f)=some (.type "function"))
  (h:codeAny (model prog w) (A.under (.builtin "type.__call__" ⟨.ref C::vs,kw⟩)) (.call (.ref f) ⟨.ref (s.heap.objs.size+1)::vs,kw⟩) (W.InitBack (s.heap.objs.size+1) R)
   { s with heap:=(s.heap.push W.emptyDict).push (W.instObj C s.heap.objs.size) }) :
  codeAny (model prog w) A (.call (.ref C) ⟨vs,kw⟩) R s:=by
 obtain⟨hh,g,d,t,os⟩:=s;exact W.make_core (W.makes_of X hm) (W.looks_findIn X hi) (λself=>W.bind_fn X self hf) (.inl rfl) h
end
noncomputable def zhn(f:Str)(v:V):List (Str×V)->List (Str×V)
 | []=>[(f,v)]
 | (g,x)::r=>if g=f then (g,v)::r else (g,x)::zhn f v r
theorem zf2(f g:Str)(v:V):∀ fs:List (Str×V),(zhn f v fs).lookup g=if g=f then some v else fs.lookup g
 | []=>by
  show List.lookup g [(f,v)]=_
  by_cases h:g=f
  ·have hb:(g==f)=true:=beq_iff_eq.mpr h
   simp only[List.lookup,hb,if_pos h]
  ·have hb:(g==f)=false:=beq_eq_false_iff_ne.mpr h
   simp only[List.lookup,hb,if_neg h]
 | (k,x)::r=>by
  have ih:=zf2 f g v r
  rw[show zhn f v ((k,x)::r)=(if k=f then (k,v)::r else (k,x)::zhn f v r)from rfl]
  by_cases hk:k=f
  ·rw[if_pos hk]
   by_cases h:g=k
   ·have hb:(g==k)=true:=beq_iff_eq.mpr h
    simp only[List.lookup,hb,if_pos (h.trans hk)]
   ·have hb:(g==k)=false:=beq_eq_false_iff_ne.mpr h
    simp only[List.lookup,hb,if_neg (λe:g=f=>h (e.trans hk.symm))]
  ·rw[if_neg hk]
   by_cases h:g=k
   ·have hb:(g==k)=true:=beq_iff_eq.mpr h
    simp only[List.lookup,hb,if_neg (λe:g=f=>hk (h.symm.trans e))]
   ·have hb:(g==k)=false:=beq_eq_false_iff_ne.mpr h
    simp only[List.lookup,hb]
    exact ih
theorem zf8(f:Str)(v:V):∀ fs:List (Str×V),f∈(zhn f v fs).map (·.1)/\∀ g,g∈fs.map (·.1)->g∈(zhn f v fs).map (·.1)
 | []=>⟨by simp[zhn],λg h=>by simp at h⟩
 | (k,x)::r=>by
  obtain⟨i1,i2⟩:=zf8 f v r
  rw[show zhn f v ((k,x)::r)=(if k=f then (k,v)::r else (k,x)::zhn f v r)from rfl]
  by_cases hk:k=f
  ·rw[if_pos hk]
   subst hk
   exact⟨by simp,λg h=>by simpa using h⟩
  ·rw[if_neg hk]
   refine⟨?_,λg h=>?_⟩
   ·rw[List.map_cons]
    exact lMc _ i1
   ·rw[List.map_cons]at h ⊢
    rcases List.mem_cons.mp h with e | e
    ·exact List.mem_cons.mpr (.inl e)
    ·exact lMc _ (i2 g e)
theorem zf7(f:Str)(v:V):∀ fs:List (Str×V),(zhn f v fs).length<=fs.length+1
 | []=>by simp[zhn]
 | (k,x)::r=>by
  have ih:=zf7 f v r
  rw[show zhn f v ((k,x)::r)=(if k=f then (k,v)::r else (k,x)::zhn f v r)from rfl]
  by_cases hk:k=f
  ·rw[if_pos hk,List.length_cons,List.length_cons]; lia
  ·rw[if_neg hk,List.length_cons,List.length_cons]; lia
theorem zg3.some_of{v:V}{o:Option Value}(r:zg3 (some v) o):∃ u,o=some u/\zaR v u:=by
 cases o with
 | none=>exact(show False from r).elim
 | some u=>exact⟨u,rfl,r⟩
theorem zg3.none_of{o:Option Value}(r:zg3 none o):o=none:=by
 cases o with
 | none=>rfl
 | some u=>exact(show False from r).elim
theorem zmp{v:V}{u:Value}(r:zaR v u):W.handedIn u=true:=by
 cases v with
 | non=>cases (show u=Value.none from r); rfl
 | bl b=>cases (show u=Value.bool b from r); rfl
 | int i=>obtain⟨t,e⟩:=(show ∃ t,u=Value.int i t from r); cases e; rfl
 | str x=>obtain⟨t,e⟩:=(show ∃ t,u=Value.str x t from r); cases e; rfl
 | byt b=>obtain⟨t,e⟩:=(show ∃ t,u=Value.bytes b t from r); cases e; rfl
 | flt b=>obtain⟨t,e⟩:=(show ∃ t,u=Value.float b t from r); cases e; rfl
 | ref a=>cases (show u=Value.ref a from r); rfl
 | ty n=>cases (show u=Value.type n from r); rfl
section
variable {P:Program}{w:World}{H H':Hp}{h h':Heap}{a C dx:Addr}{fs fs':List (Str×V)}
theorem zjm(hok:HOk P w H h)(e:H a=some (.ins C dx fs)):∃ mA,ObjM h a dx C mA/\(∀ f,zg3 (fs.lookup f) (mA f))/\PySem.Within mA (fs.map (·.1))/\fs.length<=1000/\H dx=some (.own a):=by
 obtain⟨d,z,ne,ob,mA,n,r,q⟩:=(show zbg P w H h a (.ins C dx fs)from hok a _ e);exact⟨mA,⟨ob,n,ne⟩,r,q,z,d⟩
end
structure Cls(K:W.Frag)(C:Addr):Prop where
 pg:W.plainGet K C Str.empty=true
 hd:W.hasDictIn K C=true
 po:W.plainOver K C=true
 sa:W.findIn K (.ref C) "__setattr__"=some (some (.builtin "object.__setattr__"))
theorem Cls.get{K:W.Frag}{C:Addr}(c:Cls K C)(f:Str):W.plainGet K C f=true:=c.pg
def zgk(K:W.Frag)(C:Addr)(f:Str):Prop:=W.findIn K (.ref C) f=some none
theorem zgk.taker{K:W.Frag}{C:Addr}{f:Str}(n:zgk K C f):W.takerIn K C f=some none:=by
 unfold W.takerIn;rw[show W.findIn K (.ref C) f=some none from n];rfl
structure Con(K:W.Frag)(C:Addr)(f:Str)(v:V)(u:Value):Prop where
 at_:W.findIn K (.ref C) f=some (some u)
 rel:zaR v u
 get:W.specialIn K u "__get__"=some none
 cp:W.copiedNames.contains f=false
structure Meth(K:W.Frag)(C:Addr)(m:Str)(f:Addr):Prop where
 at_:W.findIn K (.ref C) m=some (some (.ref f))
 fn:W.isFn K (.ref f)=true
 kp:W.keepIn K (.ref f)=true
section
variable {X:Cx}{pins:List (Addr×Obj)}{σ:St}{H:Hp}{s:Shared}{a C dx:Addr}{fs:List (Str×V)}{f:Str}{v:V}{A:Around}{E:Value->Shared->Prop}
theorem zkQ{b:Bool}{Q:Value->Shared->Prop}(I:Inv X pins σ H s)(e:H a=some (.ins C dx fs))(c:Cls X.K C)(n:zgk X.K C f)(l:fs.lookup f=some v)
  (h:∀ u s',Inv X pins σ H s'->zaR v u->Q u s'):wpAny (model X.prog X.w) A (getAttr (.ref a) f b) Q E s:=by
 obtain⟨mA,O,r,_,_,_⟩:=zjm I.hok e;obtain⟨u,hu,ru⟩:=zg3.some_of (v:=v) (o:=mA f) (by rw[<- l]; exact r f);exact zpF I.kIn O (c.get f) c.hd n hu (zmp ru) (h u _ (I.tok _) ru)
theorem zgY{m:Str}{g:Addr}{pl:Sem Bool}{Q:Value×List Value->Shared->Prop}(I:Inv X pins σ H s)(e:H a=some (.ins C dx fs))(c:Cls X.K C)(k:Meth X.K C m g)(l:fs.lookup m=none)
  (h:Q (.ref g,[.ref a]) s):wpAny (model X.prog X.w) A (getMethod (.ref a) m pl) Q E s:=by
 obtain⟨mA,O,r,_,_,_⟩:=zjm I.hok e;have hn:mA m=none:=zg3.none_of (by rw[<- l]; exact r m);exact znW I.kIn O (c.get m) k.at_ k.fn hn h
theorem zkz{y:V}{u:Value}{Q:Unit->Shared->Prop}(I:Inv X pins σ H s)(e:H a=some (.ins C dx fs))(c:Cls X.K C)(n:zgk X.K C f)(hl:fs.length < 1000)(ry:zaR y u)
  (h:∀ s',Inv X pins σ (upd H a (.ins C dx (zhn f y fs))) s'->Q () s'):wpAny (model X.prog X.w) A (setAttr (.ref a) f u) Q E s:=by
 obtain⟨mA,O,r,wi,_,ho⟩:=zjm I.hok e;have hz:(fs.map (·.1)).length<=sizeLine:=by rw[List.length_map,sizeLine_eq]; lia
 refine zoM I.kIn O c.sa c.po n.taker c.hd wi hz λh' O' sb=>h _ ?_;have hd:∃ o,h'.get? dx=some o:=let ⟨o,_,_,e',_⟩:=O'.ns; ⟨o,e'⟩;refine I.write (x:=a) (e:=dx) (by rw[e]; exact True.intro) (.inr ho) (λb q hb z=>(sb.2 b hb).trans z) hd ?_;refine⟨by rw[zal O.ne]; exact ho,?_,O.ne,O'.obj,_,O'.ns,λg=>?_,λg hg=>?_⟩
 ·have:=zf7 f y fs; lia
 ·show zg3 ((zhn f y fs).lookup g) (if g=f then some u else mA g);rw[zf2];by_cases q:g=f
  ·rw[if_pos q,if_pos q]; exact ry
  ·rw[if_neg q,if_neg q]; exact r g
 ·by_cases q:g=f
  ·rw[q]; exact(zf8 f y fs).1
  ·refine (zf8 f y fs).2 g (wi g λz=>hg ?_);show(if g=f then some u else mA g)=none;rw[if_neg q]; exact z
theorem Inv.made(I:Inv X pins σ H s):Inv X pins σ (upd (upd H s.heap.objs.size (.own (s.heap.objs.size+1))) (s.heap.objs.size+1) (.ins C s.heap.objs.size []))
  { s with heap:=(s.heap.push W.emptyDict).push (W.instObj C s.heap.objs.size) }:=by
 have e1:(s.heap.push W.emptyDict).get? s.heap.objs.size=some W.emptyDict:=hPz s.heap rfl;have e2:((s.heap.push W.emptyDict).push (W.instObj C s.heap.objs.size)).get? (s.heap.objs.size+1)=some (W.instObj C s.heap.objs.size):=by
  have:=hPz (s.heap.push W.emptyDict) (o:=W.instObj C s.heap.objs.size) rfl
  rwa [Heap.size_push]at this
 have e3:(s.heap.push W.emptyDict).Ns s.heap.objs.size (λ_=>none):=⟨W.emptyDict,#[],_,e1,rfl,(λe he=>absurd he (by simp)),λ_=>rfl⟩;have I1:=I.laid (a:=s.heap.objs.size) (o:=.own (s.heap.objs.size+1)) (h':=s.heap.push W.emptyDict) (t':=s.toks) (λb u q=>hPs _ q) (nLr _) ⟨_,e1⟩;refine I1.laid (a:=s.heap.objs.size+1) (o:=.ins C s.heap.objs.size []) (t':=s.toks) (λb u q=>hPs _ q) (Nat.le_of_eq (Heap.size_push _ _)) ?_;have ne:s.heap.objs.size≠s.heap.objs.size+1:=nNl (Nat.lt_succ_self _);refine⟨by rw[zal ne,zak],Nat.zero_le _,ne,e2,λ_=>none,(Heap.Ns1.of_empty e3).at λo q=>Heap.get?_push_of_some _ q,λ_=>True.intro,λy hy=>absurd rfl hy⟩
theorem zpP{prog:Program}{w:World}{env:Env}{e:Expr}{f:Str}{pos:Pos}{s:Shared}{Q:Value->Shared->Prop}(hb:attributeBase e f env (eval e env)=eval e env)
  (h:wpAny (model prog w) A (eval e env) (λo s₁=>wpAny (model prog w) A (getAttr o f true) Q E s₁) E s):wpAny (model prog w) A (eval (.Attribute e f pos) env) Q E s :=
 Attribute_any_ h (by rw[arm_eval_Attribute,hb])
end
def ztq(K:W.Frag)(ta:TE)(f:Str):TE:=λσ H Q=>ta σ H λx H1=>∃ a C dx fs v,x=.ref a/\H1 a=some (.ins C dx fs)/\Cls K C/\zgk K C f/\fs.lookup f=some v/\Q v H1
def zts(K:W.Frag)(ta tv:TE)(f:Str):TS:=λD σ H=>tv σ H λy H1=>ta σ H1 λx H2=>∃ a C dx fs,x=.ref a/\H2 a=some (.ins C dx fs)/\Cls K C/\zgk K C f/\fs.length < 1000 /\
 D.nx σ (upd H2 a (.ins C dx (zhn f y fs)))
section
variable {X:Cx}{o e value:Expr}{f:Str}{pos pos' tpos:Pos}{ta tv:TE}
theorem zqT(he:PE X e ta)(hb:attributeBase e f X.env (eval e X.env)=eval e X.env):PE X (.Attribute e f pos) (ztq X.K ta f):=by
 intro pins s σ H Q I h;refine zpP hb (thn (he pins s σ H _ I h) λu s1 ⟨x,H1,I1,rx,a,C,dx,fs,v,ex,ea,c,n,l,q⟩=>?_);subst ex;obtain rfl:u=Value.ref a:=rx;exact zkQ I1 ea c n l λu' s2 I2 ru=>⟨v,H1,I2,ru,q⟩
theorem zqJ(ha:PE X o ta)(hv:PE X value tv)(hs:swapsWith value (some (.Attribute o f pos')) pos.line X.env=pure false):PS X (.Assign [.Attribute o f pos'] value pos) (zts X.K ta tv f):=by
 intro pins s σ H D I h;refine plainObj_wpAny_Assign_Attribute (thn (hv pins s σ H _ I h) λu s1 ⟨y,H1,I1,ry,q⟩=>thn (ha pins s1 σ H1 _ I1 q) λov s2 ⟨x,H2,I2,rx,a,C,dx,fs,ex,ea,c,n,l,q2⟩=>?_) hs;subst ex;obtain rfl:ov=Value.ref a:=rx;exact zkz I2 ea c n l ry λs3 I3=>⟨σ,_,I3,q2⟩
end
section
variable {X:Cx}{pins:List (Addr×Obj)}{σ:St}{H:Hp}{s:Shared}{A:Around}{E:Value->Shared->Prop}{Q:Value->Shared->Prop}{c:Value}{b:Bool}
inductive TyOf(K:PySem.W.Frag)(H:Hp):V->Value->Prop where
 | non:TyOf K H .non (.type "NoneType")
 | bl (x:Bool):TyOf K H (.bl x) (.type "bool")
 | int (i:Int):TyOf K H (.int i) (.type "int")
 | str (x:Str):TyOf K H (.str x) (.type "str")
 | flt (x:UInt64):TyOf K H (.flt x) (.type "float")
 | lst {a:Addr} {xs:List V} (e:H a=some (.lst xs)):TyOf K H (.ref a) (.type "list")
 | frz {a:Addr} {o:Obj} {xs:List V} (e:H a=some (.frz o (.lst xs))):TyOf K H (.ref a) (.type "list")
 | tup {a:Addr} {xs:List V} (e:H a=some (.tup xs)):TyOf K H (.ref a) (.type "tuple")
 | dK {a:Addr} {kvs:List (Key×V)} (e:H a=some (.dK kvs)):TyOf K H (.ref a) (.type "dict")
 | dT {a:Addr} {kvs:List (List Key×V)} (e:H a=some (.dT kvs)):TyOf K H (.ref a) (.type "dict")
 | ins {a C dx:Addr} {fs:List (Str×V)} (e:H a=some (.ins C dx fs)) (cl:Cls K C) (ha:PySem.W.findIn K (.ref C) "__class__"=some (some (.builtin "object.__class__")))
   (hn:PySem.W.specialIn K (.builtin "object.__class__") "__get__"=some (some (.builtin "getset_descriptor.__get__"))) (htk:PySem.W.takesIn K (.builtin "object.__class__")=some true)
   (hm:PySem.W.mroIn K C (.type "object")=some true):TyOf K H (.ref a) (.ref C)
end
structure Room(k:Nat)(A:Around):Prop where
 hd:A.handled=none
 dp:A.depth+3 * k+5 < recursionLimit
 un:A.units+16 * k+200 < cLine
theorem Room.mono{j k:Nat}{A:Around}(r:Room k A)(h:j<=k):Room j A:=⟨r.hd,by have:=r.dp; lia,by have:=r.un; lia⟩
theorem Room.deeper{k:Nat}{A:Around}(r:Room (k+1) A)(env:Env):Room k (A.deeper env) :=
 ⟨r.hd,by have:=r.dp; show A.depth+1+3 * k+5 < _; lia,by have:=r.un; show A.units+3+16 * k+200 < _; lia⟩
theorem zkN{A:Around}{C:Addr}{us:List Value}{kw:List (Str×Value)}:(A.under (.builtin "type.__call__" ⟨.ref C::us,kw⟩)).depth=A.depth+1:=by
 first | rfl | simp[Around.under,Code.weight,Code.isCreation,Code.isGuard,Code.isCaller,Code.frames,Code.isFrame,guardIds]
theorem zkM{A:Around}{C:Addr}{us:List Value}{kw:List (Str×Value)}:(A.under (.builtin "type.__call__" ⟨.ref C::us,kw⟩)).units=A.units+1:=by
 first | rfl | simp[Around.under,Code.cUnits,Code.frames,Code.isFrame]
theorem Room.make{k:Nat}{A:Around}(r:Room (k+1) A)(C:Addr)(us:List Value)(kw:List (Str×Value)):Room k (A.under (.builtin "type.__call__" ⟨.ref C::us,kw⟩)) :=
 ⟨r.hd,by have:=r.dp; rw[zkN]; lia,by have:=r.un; rw[zkM]; lia⟩
theorem Room.depth{k:Nat}{A:Around}(r:Room k A):A.depth < recursionLimit:=by have:=r.dp; lia
theorem Room.units{k:Nat}{A:Around}(r:Room k A):A.units+64 < cLine:=by have:=r.un; lia
def zsf:TA:=λ_ H Q=>Q [] H
def zsi(ta:TE)(tr:TA):TA:=λσ H Q=>ta σ H λx H1=>tr σ H1 λxs H2=>Q (x::xs) H2
section
variable {X:Cx}{e:Expr}{es:List Expr}{te:TE}{t:TA}{pos:Pos}
theorem zqV:PA X [] zsf:=λ_ _ _ _ H Q I h=>Calls.spliced_nil ⟨[],H,I,.nil,h⟩
theorem zph(ha:PE X e te)(hr:PA X es t)(hs:starEach (e::es) X.env=(false,eval e X.env)::starEach es X.env:=by rfl):PA X (e::es) (zsi te t):=by
 intro pos pins s σ H Q I h;rw[hs];show wpAny _ _ (spliced ((false,eval e X.env)::backTo pos (starEach es X.env))) _ _ s;refine Calls.spliced_cons (thn (ha pins s σ H _ I h) λu s1 ⟨x,H1,I1,r1,q1⟩=>?_);exact thn (hr pos pins s1 σ H1 _ I1 q1) λus s2 ⟨xs,H2,I2,r2,q2⟩=>⟨x::xs,H2,I2,.cons r1 r2,q2⟩
def ztj(t:TA):TE:=λσ H Q=>t σ H λxs H1=>xs.length<=sizeLine/\∀ p,H1 p=none->Q (.ref p) (upd H1 p (.tup xs))
def ztn(t:TA):TE:=λσ H Q=>t σ H λxs H1=>xs.length<=sizeLine/\∀ p,H1 p=none->Q (.ref p) (upd H1 p (.lst xs))
theorem zqO{x1}(h:PA X es t):PE X (.Tuple es x1 pos) (ztj t):=by
 intro pins s σ H Q I hq;refine wpAny_Tuple_spliced (thn (h pos pins s σ H _ I hq) λus s1 ⟨xs,H1,I1,r,z,q⟩=>⟨by rw[<- r.length]; exact z,?_⟩);have hf:H1 s1.heap.objs.size=none:=I1.hok.fresh (nLr _);refine⟨.ref s1.heap.objs.size,upd H1 s1.heap.objs.size (.tup xs),I1.laid (t':=s1.toks) (λb u e=>hPs _ e) (nLr _) ?_,rfl,q _ hf⟩;exact⟨z,us,r,⟨_,hPz _ rfl,rfl,⟨_,rfl⟩,rfl⟩⟩
theorem zqR(h:PA X es t):PE X (.List es pos) (ztn t):=by
 intro pins s σ H Q I hq;refine wpAny_List_spliced (thn (h pos pins s σ H _ I hq) λus s1 ⟨xs,H1,I1,r,z,q⟩=>⟨by rw[<- r.length]; exact z,?_⟩);have hf:H1 s1.heap.objs.size=none:=I1.hok.fresh (nLr _);refine⟨.ref s1.heap.objs.size,upd H1 s1.heap.objs.size (.lst xs),I1.laid (t':=s1.toks) (λb u e=>hPs _ e) (nLr _) ?_,rfl,q _ hf⟩;exact⟨z,us,0,r,hPz _ rfl⟩
end
noncomputable abbrev Sp:=List V->Hp->VK->XK->Prop
noncomputable abbrev CXT:=List Env->Hp->Shared->XK->Value->Shared->Prop
structure Env0(P:Program)(w:World)(K:W.Frag)(mg:Str->Option Value)(base:Heap)(A:Around)(outer:List Env)(s:Shared)(H:Hp):Prop where
 frames:A.frames=some outer
 mod:Mod K mg base
 bs:∀ b o,base.get? b=some o->s.heap.get? b=some o/\H b=none
 bsz:base.objs.size<=s.heap.objs.size
 funs:s.heap.FunFrames base outer
 frf:∀ b∈frs outer,H b=none
 hok:HOk P w H s.heap
 bare:AllBare s.gens
def CE(outer:List Env)(P:Program)(w:World)(H:Hp)(s:Shared)(Q:VK)(u:Value)(s':Shared):Prop :=
 ∃ v H',s'.os=s.os/\AllBare s'.gens/\Un (frs outer) [] H H' s.heap s'.heap/\HOk P w H' s'.heap/\zaR v u/\Q v H'
def CR(CX:CXT)(outer:List Env)(P:Program)(w:World)(H:Hp)(s:Shared)(Q:VK)(E:XK)(r:Result)(s':Shared):Prop :=
 match r with
 | .ok (.ret u)=>CE outer P w H s Q u s'
 | .ok _=>False
 | .error e=>CX outer H s E e s'
structure FnOk(P:Program)(w:World)(K:W.Frag)(mg:Str->Option Value)(base:Heap)(CX:CXT)(k:Nat)(f:Addr)(fd:FuncData)(ps:List Str)(sp:Sp):Prop where
 len:∀ vs H Q E,sp vs H Q E->vs.length=ps.length
 run:∀ (A:Around) (outer:List Env) (s:Shared) (H:Hp) (args:Args) (us:List Value) (vs:List V) (Q:VK) (E:XK),Room k A->Env0 P w K mg base A outer s H->BindsTo s fd args (ps.zip us)->zaF vs us->sp vs H Q E ->
  codeAny (model P w) A (.call (.ref f) args) (CR CX outer P w H s Q E) s
theorem FnOk.mono{P:Program}{w:World}{K:W.Frag}{mg:Str->Option Value}{base:Heap}{CX:CXT}{j k:Nat}{f:Addr}{fd:FuncData}{ps:List Str}{sp:Sp}(F:FnOk P w K mg base CX j f fd ps sp)(h:j<=k) :
  FnOk P w K mg base CX k f fd ps sp:=⟨F.len,λA outer s H args us vs Q E hr=>F.run A outer s H args us vs Q E (hr.mono h)⟩
theorem Env0.make{P:Program}{w:World}{K:W.Frag}{mg:Str->Option Value}{base:Heap}{A:Around}{outer:List Env}{s:Shared}{H:Hp}(e:Env0 P w K mg base A outer s H)(C:Addr)(us:List Value)(kw:List (Str×Value)) :
  Env0 P w K mg base (A.under (.builtin "type.__call__" ⟨.ref C::us,kw⟩)) outer s H:=⟨by first | exact e.frames | (simpa [Around.under,Code.envs,Code.isFrame,pushEnvs] using e.frames),e.mod,e.bs,e.bsz,e.funs,e.frf,e.hok,e.bare⟩
section
variable {X:Cx}{pins:List (Addr×Obj)}{σ:St}{H:Hp}{s s':Shared}
theorem Inv.env0(I:Inv X pins σ H s):Env0 X.prog X.w X.K X.mg X.base X.A X.stack s H :=
 ⟨I.ok.frames,I.ok.mod,I.bs,Nat.le_trans I.ok.bsz I.sz,I.stack,I.stkFree,I.hok,I.bare⟩
theorem Inv.after{Q:VK}{u:Value}(I:Inv X pins σ H s)(h:CE X.stack X.prog X.w H s Q u s'):EP X pins σ Q u s':=by
 obtain⟨v,H',os,bare,un,hok,r,q⟩:=h;obtain⟨hh,g,d,t,os'⟩:=s';obtain rfl:os'=s.os:=os;exact⟨v,H',I.call (h':=hh) (g':=g) (d':=d) (t':=t) (ch:=[]) un hok bare (λb z=>absurd z (by simp)),r,q⟩
end
def zqd(sp:Sp)(dvs:List V)(E:XK)(t:TA):TE:=λσ H Q=>t σ H λvs H1=>sp (vs++dvs) H1 Q E
def zoH(C:Addr)(m:Str)(sp:Sp)(dvs:List V)(E:XK)(ta:TE)(t:TA):TE:=λσ H Q=>ta σ H λx H1=>∃ a dx fs,x=.ref a/\H1 a=some (.ins C dx fs)/\fs.lookup m=none /\
 t σ H1 λvs H2=>sp (x::(vs++dvs)) H2 Q E
def zoI(C:Addr)(sp:Sp)(dvs:List V)(E:XK)(t:TA):TE:=λσ H Q=>t σ H λvs H1=>∀ x dx,H1 x=none->H1 dx=none->dx≠x ->
 sp (.ref x::(vs++dvs)) (upd (upd H1 dx (.own x)) x (.ins C dx [])) (λv H2=>v=.non/\Q (.ref x) H2) E
def zcU(K:W.Frag)(fd:FuncData)(ps:List Str)(ds:List Value):Prop :=
 ∀ (s:Shared) (us:List Value),K.In s.heap->(us++ds).length=ps.length->BindsTo s fd ⟨us,[]⟩ (ps.zip (us++ds))
theorem zcU.all{K:W.Frag}{fd:FuncData}{ps:List Str}(h:∀ us:List Value,us.length=ps.length->bindArgs fd ⟨us,[]⟩=pure (ps.zip us)):zcU K fd ps []:=λs us _ hl=>by
 rw[List.append_nil]at hl ⊢
 exact .of_eq (h us hl)
def zfb(CX:CXT)(X:Cx)(E:XK):Prop:=∀ (pins:List (Addr×Obj)) (σ:St) (H:Hp) (s:Shared) (e:Value) (s':Shared),Inv X pins σ H s->CX X.stack H s E e s'->X.xe e s'
section
variable {X:Cx}{CX:CXT}{k:Nat}{f C:Addr}{fd:FuncData}{ps:List Str}{sp:Sp}{dvs:List V}{ds:List Value}{E:XK}{x m:Str}{p pos apos:Pos}{e o:Expr}{es:List Expr}{ta:TE}{t:TA}
theorem zly{pins:List (Addr×Obj)}{σ:St}{H:Hp}{s:Shared}{Q:VK}{us:List Value}{vs:List V}(F:FnOk X.prog X.w X.K X.mg X.base CX k f fd ps sp)(hr:Room k X.A)(hb:zcU X.K fd ps ds)(hd:zaF dvs ds)(hx:zfb CX X E)
  (I:Inv X pins σ H s) (r:zaF vs us) (h:sp (vs++dvs) H Q E):wpAny (model X.prog X.w) X.A (call (.ref f) us) (EP X pins σ Q) X.xe s:=by
 have r2:zaF (vs++dvs) (us++ds):=r.append hd;have hl:(us++ds).length=ps.length:=by rw[<- r2.length]; exact F.len _ _ _ _ h
 refine wpAny_call (codeAny_mono (F.run X.A X.stack s H ⟨us,[]⟩ (us++ds) (vs++dvs) Q E hr I.env0 (hb s us I.kIn hl) r2 h) λr s' hq=>?_);cases r with
 | error e=>exact hx pins σ H s e s' I hq
 | ok fl =>
  cases fl with
  | ret u=>exact I.after hq
  | next=>exact False.elim hq
  | brk=>exact False.elim hq
  | cont=>exact False.elim hq
theorem zpg(F:FnOk X.prog X.w X.K X.mg X.base CX k f fd ps sp)(hr:Room k X.A)(hg:Gl X x)(hm:X.mg x=some (.ref f))(hk:W.keepIn X.K (.ref f)=true)(hb:zcU X.K fd ps ds)(hd:zaF dvs ds)(hx:zfb CX X E)
  (ha:PA X (e::es) t) (hdb:(x==("__debug__":Str))=false:=by decide) (he:starEach (e::es) X.env=(false,eval e X.env)::starEach es X.env:=by rfl) (hpl:(backTo pos (starEach es X.env)).any (·.1)=false:=by rfl) :
  PE X (.Call (.Name x p) (e::es) [] pos) (zqd sp dvs E t):=by
 intro pins s σ H Q I h;refine wpAny_Call_Name_kw (zhF I hg hm ?_ hdb);refine W.callWith_K (h₀:=X.base) I.ok.mod.kin hk (thn (ha pos pins s σ H _ I h) λus s1 ⟨vs,H1,I1,r,q⟩=>⟨I1.kIn,?_⟩) he hpl;exact zly F hr hb hd hx I1 r q
theorem zpb{pl:Sem Bool}(he:PE X o ta)(c:Cls X.K C)(hm:Meth X.K C m f)(F:FnOk X.prog X.w X.K X.mg X.base CX k f fd ps sp)(hr:Room k X.A)(hb:zcU X.K fd ps ds)(hd:zaF dvs ds)(hx:zfb CX X E)(ha:PA X (e::es) t)
  (hst:starEach (e::es) X.env=(false,eval e X.env)::starEach es X.env:=by rfl) (hpl:(backTo pos (starEach es X.env)).any (·.1)=false:=by rfl)
  (ht:eval (.Call (.Attribute o m apos) (e::es) [] pos) X.env=(do
   let ov <- eval o X.env
   standAt apos.atName
   let (f,first) <- holding [ov] (getMethod ov m pl)
   callWith pos f first (backTo pos (starEach (e::es) X.env)) (backToKw pos (keywordEach [] X.env))):=by rfl) :
  PE X (.Call (.Attribute o m apos) (e::es) [] pos) (zoH C m sp dvs E ta t):=by
 intro pins s σ H Q I h;refine W.methodCall_KW (pl:=pl) (thn (he pins s σ H _ I h) λu s1 ⟨x,H1,I1,rx,a,dx,fs,ex,ea,l,q⟩=>?_) ht;subst ex;obtain rfl:u=Value.ref a:=rx;refine zgY I1 ea c hm l ?_;refine W.callWith_K (first:=[.ref a]) (h₀:=X.base) I.ok.mod.kin hm.kp (thn (ha pos pins s1 σ H1 _ I1 q) λus s2 ⟨vs,H2,I2,r,q2⟩=>⟨I2.kIn,?_⟩) hst hpl;exact zly (us:=.ref a::us) (vs:=.ref a::vs) F hr hb hd hx I2 (.cons rfl r) q2
theorem znv{pl:Sem Bool}(he:PE X o ta)(c:Cls X.K C)(hm:Meth X.K C m f)(F:FnOk X.prog X.w X.K X.mg X.base CX k f fd ps sp)(hr:Room k X.A)(hb:zcU X.K fd ps ds)(hd:zaF dvs ds)(hx:zfb CX X E)
  (ht:eval (.Call (.Attribute o m apos) [] [] pos) X.env=(do
   let ov <- eval o X.env
   standAt apos.atName
   let (f,first) <- holding [ov] (getMethod ov m pl)
   callWith pos f first (backTo pos (starEach [] X.env)) (backToKw pos (keywordEach [] X.env))):=by rfl) :
  PE X (.Call (.Attribute o m apos) [] [] pos) (zoH C m sp dvs E ta zsf):=by
 intro pins s σ H Q I h;refine W.methodCall_KW (pl:=pl) (thn (he pins s σ H _ I h) λu s1 ⟨x,H1,I1,rx,a,dx,fs,ex,ea,l,q⟩=>?_) ht;subst ex;obtain rfl:u=Value.ref a:=rx;refine zgY I1 ea c hm l ?_;exact W.callWith_K0 (first:=[.ref a]) I1.kIn hm.kp (zly (us:=[.ref a]) (vs:=[.ref a]) F hr hb hd hx I1 (.cons rfl .nil) q)
structure Mk(K:W.Frag)(C f:Addr):Prop where
 makes:W.makesIn K C=true
 init:W.findIn K (.ref C) "__init__"=some (some (.ref f))
 fn:W.isFn K (.ref f)=true
 kp:W.keepIn K (.ref C)=true
theorem zjM{pins:List (Addr×Obj)}{σ:St}{H:Hp}{s:Shared}{Q:VK}{us:List Value}{vs:List V}(M:Mk X.K C f)(F:FnOk X.prog X.w X.K X.mg X.base CX k f fd ps sp)(hr:Room (k+1) X.A)(hb:zcU X.K fd ps ds)(hd:zaF dvs ds)
  (hx:zfb CX X E) (I:Inv X pins σ H s) (r:zaF vs us)
  (h:∀ x dx,H x=none->H dx=none->dx≠x->sp (.ref x::(vs++dvs)) (upd (upd H dx (.own x)) x (.ins C dx [])) (λv H2=>v=.non/\Q (.ref x) H2) E) :
  wpAny (model X.prog X.w) X.A (call (.ref C) us) (EP X pins σ Q) X.xe s:=by
 have hq:=h (s.heap.objs.size+1) s.heap.objs.size (I.hok.fresh (Nat.le_succ _)) (I.hok.fresh (nLr _)) (nNl (Nat.lt_succ_self _));have I2:=Inv.made (C:=C) I;have r2:zaF (V.ref (s.heap.objs.size+1)::(vs++dvs)) (Value.ref (s.heap.objs.size+1)::(us++ds)):=.cons rfl (r.append hd);have hl:(Value.ref (s.heap.objs.size+1)::us++ds).length=ps.length:=by
  have e:=r2.length;rw[F.len _ _ _ _ hq]at e;exact e.symm
 refine wpAny_call (znI (f:=f) I.kIn M.makes M.init (beq_iff_eq.mp M.fn) (codeAny_mono (F.run _ X.stack _ _ ⟨Value.ref (s.heap.objs.size+1)::us,[]⟩ (Value.ref (s.heap.objs.size+1)::(us++ds)) _ _ E (hr.make C us [])
  (I2.env0.make C us []) (hb _ (Value.ref (s.heap.objs.size+1)::us) I2.kIn hl) r2 hq) λr s' hq'=>?_))
 cases r with
 | error e=>exact hx pins σ _ _ e s' I2 hq'
 | ok fl =>
  cases fl with
  | ret u =>
   obtain⟨v,H',I3,rv,ev,q3⟩:=I2.after hq';subst ev;exact⟨rv,⟨V.ref (s.heap.objs.size+1),H',I3,rfl,q3⟩⟩
  | next=>exact False.elim hq'
  | brk=>exact False.elim hq'
  | cont=>exact False.elim hq'
theorem zpc(M:Mk X.K C f)(F:FnOk X.prog X.w X.K X.mg X.base CX k f fd ps sp)(hr:Room (k+1) X.A)(hg:Gl X x)(hm:X.mg x=some (.ref C))(hb:zcU X.K fd ps ds)(hd:zaF dvs ds)(hx:zfb CX X E)
  (ha:PA X (e::es) t) (hdb:(x==("__debug__":Str))=false:=by decide) (he:starEach (e::es) X.env=(false,eval e X.env)::starEach es X.env:=by rfl) (hpl:(backTo pos (starEach es X.env)).any (·.1)=false:=by rfl) :
  PE X (.Call (.Name x p) (e::es) [] pos) (zoI C sp dvs E t):=by
 intro pins s σ H Q I h;refine wpAny_Call_Name_kw (zhF I hg hm ?_ hdb);refine W.callWith_K (h₀:=X.base) I.ok.mod.kin M.kp (thn (ha pos pins s σ H _ I h) λus s1 ⟨vs,H1,I1,r,q⟩=>⟨I1.kIn,?_⟩) he hpl;exact zjM M F hr hb hd hx I1 r q
theorem znw(M:Mk X.K C f)(F:FnOk X.prog X.w X.K X.mg X.base CX k f fd ps sp)(hr:Room (k+1) X.A)(hg:Gl X x)(hm:X.mg x=some (.ref C))(hb:zcU X.K fd ps ds)(hd:zaF dvs ds)(hx:zfb CX X E)
  (hdb:(x==("__debug__":Str))=false:=by decide):PE X (.Call (.Name x p) [] [] pos) (zoI C sp dvs E zsf):=by
 intro pins s σ H Q I h;refine wpAny_Call_Name_kw (zhF I hg hm ?_ hdb);exact W.callWith_K0 I.kIn M.kp (zjM (us:=[]) M F hr hb hd hx I .nil h)
end
section
variable {X:Cx}{CX:CXT}{k:Nat}{f C:Addr}{fd:FuncData}{ps ks:List Str}{sp:Sp}{E:XK}{x m:Str}{p pos apos kpos:Pos}{e o:Expr}{es:List Expr}{kws:List Keyword}{te ta:TE}{t tk:TA}{nm:Option Str}
structure KBinds(K:W.Frag)(fd:FuncData)(ps ks:List Str)(g:List Value->List Value->List Value)(gV:List V->List V->List V):Prop where
 to:∀ (s:Shared) (us ws:List Value),K.In s.heap->(g us ws).length=ps.length->BindsTo s fd ⟨us,ks.zip ws⟩ (ps.zip (g us ws))
 rel:∀ {vs:List V} {us:List Value} {zs:List V} {ws:List Value},zaF vs us->zaF zs ws->zaF (gV vs zs) (g us ws)
variable {g:List Value->List Value->List Value}{gV:List V->List V->List V}
end
structure FnScope(N P:List Str)(sc:Scope):Prop where
 kind:sc.kind=.function
 co:sc.isCoroutine=false
 gen:sc.isGenerator=false
 nd:N.Nodup
 pre:N.take P.length=P
 par:∀ x∈P,sc.names.lookup x=some .local∨sc.names.lookup x=some .cell
 nofree:∀ y∈sc.names,y.2≠.free
theorem ziI{kindOf:Str->Option NameKind}{x:Str}:∀ {binds:List (Str×Value)} {m:Str->Option Value},(∀ v,(x,v)∉binds)->bindL kindOf binds m x=m x
 | [],_,_=>rfl
 | (n,v)::r,m,h=>by
  unfold bindL
  rw[ziI λw hw=>h w (List.mem_cons_of_mem _ hw)]
  split
  ·have:x≠n:=by rintro rfl; exact h v List.mem_cons_self
   simp[this]
  ·rfl
theorem ziK{kindOf:Str->Option NameKind}{x:Str}:∀ {binds:List (Str×Value)} {m:Str->Option Value},(∀ v,(x,v)∉binds)->bindC kindOf binds m x=m x
 | [],_,_=>rfl
 | (n,v)::r,m,h=>by
  unfold bindC
  rw[ziK λw hw=>h w (List.mem_cons_of_mem _ hw)]
  split
  ·rfl
  ·have:x≠n:=by rintro rfl; exact h v List.mem_cons_self
   simp[this]
theorem ziJ{kindOf:Str->Option NameKind}{x:Str}{v:Value}:∀ {P:List Str} {vs:List Value} {i:Nat} {m:Str->Option Value},P.Nodup->P[i]?=some x->vs[i]?=some v->kindOf x=some .local ->
  bindL kindOf (P.zip vs) m x=some v
 | [],_,_,_,_,h,_,_=>by simp at h
 | _::_,[],_,_,_,_,h,_=>by simp at h
 | p::P,w::vs,0,m,nd,h1,h2,hk=>by
  simp at h1 h2; subst h1; subst h2
  show bindL kindOf ((p,w)::P.zip vs) m p=_
  unfold bindL
  rw[ziI λv hv=>(List.nodup_cons.mp nd).1 (List.of_mem_zip hv).1,if_pos hk]
  simp
 | p::P,w::vs,i+1,m,nd,h1,h2,hk=>by
  show bindL kindOf ((p,w)::P.zip vs) m x=_
  unfold bindL
  exact ziJ (i:=i) (List.nodup_cons.mp nd).2 (by simpa using h1) (by simpa using h2) hk
theorem ziL{kindOf:Str->Option NameKind}{x:Str}{v:Value}:∀ {P:List Str} {vs:List Value} {i:Nat} {m:Str->Option Value},P.Nodup->P[i]?=some x->vs[i]?=some v->kindOf x≠some .local ->
  bindC kindOf (P.zip vs) m x=some v
 | [],_,_,_,_,h,_,_=>by simp at h
 | _::_,[],_,_,_,_,h,_=>by simp at h
 | p::P,w::vs,0,m,nd,h1,h2,hk=>by
  simp at h1 h2; subst h1; subst h2
  show bindC kindOf ((p,w)::P.zip vs) m p=_
  unfold bindC
  rw[ziK λv hv=>(List.nodup_cons.mp nd).1 (List.of_mem_zip hv).1,if_neg hk]
  simp
 | p::P,w::vs,i+1,m,nd,h1,h2,hk=>by
  show bindC kindOf ((p,w)::P.zip vs) m x=_
  unfold bindC
  exact ziL (i:=i) (List.nodup_cons.mp nd).2 (by simpa using h1) (by simpa using h2) hk
noncomputable def start(N:List Str)(vs:List V):St:=vs.map some++List.replicate (N.length - vs.length) none
noncomputable def zos(CX:CXT)(P:Program)(w:World)(K:W.Frag)(mg:Str->Option Value)(base:Heap)(N:List Str)(qual:Str)(scope:Scope)(f:Addr)(cd:Value)(A:Around)(outer:List Env)(s:Shared)(H:Hp)(E:XK):Cx where
 prog:=P
 w:=w
 K:=K
 mg:=mg
 base:=base
 A:=A.deeper (envOfC qual scope s.heap.objs.size f cd)
 N:=N
 s₀:=s
 H₀:=H
 env:=envOfC qual scope s.heap.objs.size f cd
 outer:=outer
 stack:=envOfC qual scope s.heap.objs.size f cd::outer
 ex:=[]
 calm:=true
 fn:=λ_=>true
 pn:=[]
 xe:=λe s'=>wpAny (model P w) (A.deeper (envOfC qual scope s.heap.objs.size f cd)) (leaving (envOfC qual scope s.heap.objs.size f cd) e) (λ_ s''=>CX outer H s E e s'') (λe' s''=>CX outer H s E e' s'') s'
theorem zki{sc:Scope}{n:Nat}{x:Str}(h:sc.names.lookup x=some .cell):∃ c,(cellsFrom n sc.names []).lookup x=some c:=by
 have q:=W.cellsFrom_some sc.names n [] (.inl h);exact Option.isSome_iff_exists.mp q
theorem zmm{CX:CXT}{P:Program}{w:World}{K:W.Frag}{mg:Str->Option Value}{base:Heap}{N ps:List Str}{qual:Str}{scope:Scope}{f:Addr}{cd:Value}{A:Around}{outer:List Env}{s s1:Shared}{H:Hp}{E:XK}{us:List Value}{vs:List V}
  (S:FnScope N ps scope) (hd:A.handled=none) (e0:Env0 P w K mg base A outer s H) (hl:vs.length=ps.length) (r:zaF vs us)
  (x:InCallC s s.heap.objs.size (bindL (envOfC qual scope s.heap.objs.size f cd).kindOf (ps.zip us) λ_=>none) (cellsFrom (s.heap.objs.size+1) scope.names []) (bindC (envOfC qual scope s.heap.objs.size f cd).kindOf (ps.zip us) λ_=>none) s1) :
  Inv (zos CX P w K mg base N qual scope f cd A outer s H E) [] (start N vs) H s1:=by
 have hpl:ps.length<=N.length:=by have:=congrArg List.length S.pre; rw[List.length_take]at this; lia
 obtain⟨h1,tk,rfl,hk⟩:=x.done;have noA:∀ b:Addr,b∉(zos CX P w K mg base N qual scope f cd A outer s H E).ex:=λb z=>absurd (show b∈([]:List Addr)from z) (by simp);refine⟨⟨e0.mod,S.kind,rfl,rfl,nLr _,λy z c h1 h2=>?_,λy hy=>?_,λy c _ h=>?_,λ_=>hd,Around.frames_deeper e0.frames,.inr ⟨rfl,rfl⟩,λb z=>absurd z (noA b),e0.bs,e0.bsz,λb _ _=>noA b,λb z=>absurd z (noA b),e0.funs,e0.frf⟩,
  rfl,e0.bare,Un.kept hk,⟨_,x.toInCall.ns,λi y v h1 h2 h3=>?_⟩,λy c h=>⟨_,x.cell y c h⟩,e0.hok.fresh (Nat.le_refl _),λy c h=>?_,λp hp=>absurd (show p∈([]:List (Addr×Obj))from hp) (by simp),e0.hok.kept hk,?_⟩
 ·exact name_of_addr x.apart (PySem.mem_of_lookup h1) (PySem.mem_of_lookup h2)
 ·have hy:scope.names.lookup y=some .cell∨scope.names.lookup y=some .free:=hy;rcases hy with hy | hy
  ·exact zki hy
  ·exact absurd rfl (S.nofree _ (PySem.mem_of_lookup hy))
 ·exact Nat.le_of_lt (x.above y c (PySem.mem_of_lookup h))
 ·have hi:i < vs.length:=by
   unfold start at h2;by_cases hi:i < vs.length
   ·exact hi
   ·rw[List.getElem?_append_right (by simpa using hi)]at h2;rw[List.getElem?_replicate]at h2;split at h2<;>cases h2
  have ha:vs[i]?=some v:=by
   unfold start at h2;rw[List.getElem?_append_left (by simpa using hi),List.getElem?_map]at h2;cases e:vs[i]? with
   | none=>rw[e]at h2; cases h2
   | some a=>rw[e]at h2; cases h2; rfl
  obtain⟨u,hu,rv⟩:=r.get ha;have hp:ps[i]?=some y:=by
   rw[<- S.pre,List.getElem?_take_of_lt (by lia)]; exact h1
  have ndP:ps.Nodup:=by rw[<- S.pre]; exact S.nd.sublist (List.take_sublist _ _)
  refine⟨u,rv,?_⟩;rcases S.par y (List.mem_of_getElem? hp)with k | k
  ·exact .inl ⟨k,ziJ ndP hp hu k⟩
  ·obtain⟨c,e⟩:=zki (n:=s.heap.objs.size+1) k;refine .inr ⟨.inl k,c,e,?_⟩;have q:=x.cell y c e;rw[ziL ndP hp hu (by show scope.names.lookup y≠_; rw[k]; decide)]at q;exact q
 ·exact e0.hok.fresh (Nat.le_of_lt (x.above y c (PySem.mem_of_lookup h)))
 ·unfold start;show _=N.length;rw[List.length_append,List.length_map,List.length_replicate];lia
theorem zry{CX:CXT}{P:Program}{w:World}{K:PySem.W.Frag}{mg:Str->Option Value}{base:Heap}{k:Nat}{f:Addr}{name qual:Str}{params:Arguments}{body:List Stmt}{scope:Scope}{dV kV doc pm cdv ct oc:Value}{an od:Option Addr}
  {osl:Array (Option Value)} {N ps:List Str} {sp:Sp} (lk:K.lookup f=some ⟨oc,od,.func (PySem.W.fnOf name qual params body scope dV kV doc pm an cdv ct),osl⟩) (hcd:PySem.W.codeIn K cdv qual=true) (S:FnScope N ps scope)
  (len:∀ vs H Q E,sp vs H Q E->vs.length=ps.length)
  (hbody:∀ (A:Around) (outer:List Env) (s:Shared) (H:Hp) (vs:List V) (Q:VK) (E:XK),Room k (A.deeper (envOfC qual scope s.heap.objs.size f cdv))->sp vs H Q E ->
   ∃ t,PSs (zos CX P w K mg base N qual scope f cdv A outer s H E) body t/\t { nx:=λ_ H'=>Q .non H',rt:=Q } (start N vs) H) :
  FnOk P w K mg base CX (k+1) f (PySem.W.fnOf name qual params body scope dV kV doc pm an cdv ct) ps sp:=by
 refine⟨len,λA outer s H args us vs Q E hr e0 hb r hsp=>?_⟩;have hl:=len _ _ _ _ hsp;have KX:K.In s.heap:=e0.mod.kin.keeps λb o e=>(e0.bs b o e).1;have lim:s.heap.NoLimit:=e0.mod.nolimit.keeps λb o e=>(e0.bs b o e).1;have hkind:∀ y∈ps.zip us,scope.names.lookup y.1=some .local∨(scope.names.lookup y.1=some .cell/\((cellsFrom (s.heap.objs.size+1) scope.names []).lookup y.1).isSome=true):=λ⟨n,v⟩ hy=>by
  rcases S.par n (List.of_mem_zip hy).1 with q | q
  ·exact .inl q
  ·exact .inr ⟨q,PySem.W.cellsFrom_some _ _ _ (.inl q)⟩
 refine codeAny_call_function hr.depth (KX _ _ lk) rfl S.co S.gen rfl (PySem.W.codeRec_of KX hcd) (hb _ _ _ _ ?_);refine wpAny_newFunctionEnv_cells S.kind hkind λenv he s1 x=>?_;subst he;refine⟨lim.keeps x.toInCall.keep,codeAny_func ?_⟩;obtain⟨t,ht,hq⟩:=hbody A outer s H vs Q E (hr.deeper _) hsp;have I:Inv (zos CX P w K mg base N qual scope f cdv A outer s H E) [] (start N vs) H s1:=zmm S hr.hd e0 hl r x;refine wpAny_mono (ht [] s1 (start N vs) H _ I hq) (λfl s' hs=>?_) λe s' hs=>hs;have fin:∀ {σ':St} {H':Hp} {v:V} {u:Value},Inv (zos CX P w K mg base N qual scope f cdv A outer s H E) [] σ' H' s'->zaR v u->Q v H'->CE outer P w H s Q u s' :=
  λ{σ' H' v u} J rv q=>⟨v,H',J.os,J.bare,J.base,J.hok,rv,q⟩
 cases fl with
 | ret u =>
  obtain⟨v,σ',H',J,rv,q⟩:=hs;exact fin J rv q
 | next =>
  obtain⟨σ',H',J,q⟩:=hs;exact fin (v:=V.non) (u:=Value.none) J rfl q
 | brk =>
  obtain⟨_,_,_,q⟩:=hs;exact False.elim q
 | cont =>
  obtain⟨_,_,_,q⟩:=hs;exact False.elim q
section
variable {X:Cx}{x:Str}{p pos:Pos}{e:Expr}{es:List Expr}{t:TA}{id T:String}{r:List V->Hp->VK->Prop}
def tCB(r:List V->Hp->VK->Prop)(t:TA):TE:=λσ H Q=>t σ H λvs H1=>r vs H1 Q
theorem zny(hc:zci X (.builtin id) r)(hg:Gl X x)(hm:X.mg x=none)(hv:bootBuiltins x=some (.builtin id))(ha:PA X (e::es) t)(hn:x≠"__name__":=by decide) (hdb:(x==("__debug__":Str))=false:=by decide)
  (he:starEach (e::es) X.env=(false,eval e X.env)::starEach es X.env:=by rfl) (hpl:(backTo pos (starEach es X.env)).any (·.1)=false:=by rfl):PE X (.Call (.Name x p) (e::es) [] pos) (tCB r t):=by
 intro pins s σ H Q I h;refine wpAny_Call_Name_kw (ze8 I hg hm hv ?_ hn hdb);exact PyProof.Rows.callWith_builtin1 (thn (ha pos pins s σ H _ I h) λus s1 ⟨vs,H1,I1,r1,q1⟩=>hc pins s1 σ H1 vs us Q I1 r1 q1) he hpl
theorem zlN(hc:zci X (.type T) r)(hg:Gl X x)(hm:X.mg x=none)(hv:bootBuiltins x=some (.type T))(ha:PA X (e::es) t)(hn:x≠"__name__":=by decide) (hdb:(x==("__debug__":Str))=false:=by decide)
  (he:starEach (e::es) X.env=(false,eval e X.env)::starEach es X.env:=by rfl) (hpl:(backTo pos (starEach es X.env)).any (·.1)=false:=by rfl):PE X (.Call (.Name x p) (e::es) [] pos) (tCB r t):=by
 intro pins s σ H Q I h;refine wpAny_Call_Name_kw (ze8 I hg hm hv ?_ hn hdb);exact PyProof.Rows.callWith_type1 (thn (ha pos pins s σ H _ I h) λus s1 ⟨vs,H1,I1,r1,q1⟩=>hc pins s1 σ H1 vs us Q I1 r1 q1) he hpl
end
end L2
namespace HT
open PySem PyProof.Rows
section
open PySem.SeqAt
open PySem.AutoSeq1 (wpAny_loadPart')
open PySem.MeetsSeq PySem.MeetsSeq2 PySem.MeetsSeq3
end
section
variable {prog:Program}{w:World}{A:Around}{E:Value->Shared->Prop}{s:Shared}
noncomputable def sIx(n d:Nat):Option Int->Nat
 | none=>d
 | some v=>if v < 0 then (v+(n:Int)).toNat else min v.toNat n
theorem sIx_none(n d:Nat):sIx n d none=d:=rfl
theorem sIx_nat(n d k:Nat):sIx n d (some (k:Int))=min k n:=by
 show(if (k:Int) < 0 then ((k:Int)+(n:Int)).toNat else min (k:Int).toNat n)=min k n;rw[if_neg (by lia),Int.toNat_natCast]
theorem zqm(n d:Nat)(hd:d<=n)(o:Option Int):sIx n d o<=n:=by
 cases o with
 | none=>exact hd
 | some v =>
  show(if v < 0 then (v+(n:Int)).toNat else min v.toNat n)<=n;by_cases hv:v < 0
  ·rw[if_pos hv]; lia
  ·rw[if_neg hv]; exact Nat.min_le_right _ _
theorem zmM(v:Int)(n d:Nat):(if v < 0 then max (v+(n:Int)) 0 else min v (n:Int))=((sIx n d (some v):Nat):Int):=by
 show(if v < 0 then max (v+(n:Int)) 0 else min v (n:Int))=(((if v < 0 then (v+(n:Int)).toNat else min v.toNat n):Nat):Int);by_cases hv:v < 0
 ·simp only[if_pos hv]; lia
 ·simp only[if_neg hv]; lia
theorem zk1(lo hi:Option Int)(n:Nat):Builtin.Slice.sliceAdjust lo hi 1 (n:Int)=(((sIx n 0 lo:Nat):Int),((sIx n n hi:Nat):Int)):=by
 have h1:¬ ((1:Int) < 0):=by lia
 unfold Builtin.Slice.sliceAdjust;simp only[h1,if_false];refine Prod.ext ?_ ?_
 ·cases lo with
  | none=>rfl
  | some v=>exact zmM v n 0
 ·cases hi with
  | none=>rfl
  | some v=>exact zmM v n n
theorem zkH(i j:Nat):Builtin.Slice.slicePlaces (i:Int) (j:Int) 1=j - i:=by
 unfold Builtin.Slice.slicePlaces;have h1:(1:Int) > 0:=by lia
 simp only[h1,if_true,Int.ediv_one];split<;>lia
theorem zgN{v:Value}{o:Option Int}{Q:Option Int->Shared->Prop}(p:IsPart v o)(h:Q o s):wpAny (model prog w) A (Builtin.Slice.slicePartIndex v) Q E s:=by
 cases p with
 | none=>exact slicePart_none h
 | int i t=>exact slicePart_int h
theorem zcO{sl:Addr}{vl vu:Value}{lo hi:Option Int}{n:Nat}{Q:Int×Int×Nat->Shared->Prop}(hs:s.heap.IsSliceOf sl vl vu .none)(pl:IsPart vl lo)(pu:IsPart vu hi)
  (h:Q (((sIx n 0 lo:Nat):Int),1,sIx n n hi - sIx n 0 lo) s):wpAny (model prog w) A (Builtin.Slice.sliceApplied (.ref sl) (pure (n:Int))) Q E s:=by
 obtain⟨os,hos,hcs,hds⟩:=id hs;unfold Builtin.Slice.sliceApplied Builtin.Slice.sliceFields;refine wB (wB (wpAny_field hos hds (x:=vl) rfl (wB (wpAny_field hos hds (x:=vu) rfl (wB (wpAny_field hos hds (x:=.none) rfl (wQ ?_)))))));refine wB (slicePart_none ?_);show wpAny _ _ (if ((1:Int)==0)=true then _ else _) _ _ s;rw[if_neg (by decide)];refine wB (zgN pl (wB (zgN pu (wB (wQ ?_)))));show wpAny _ _ (match Builtin.Slice.sliceAdjust lo hi 1 (n:Int)with | (lo,hi)=>pure (lo,(1:Int),Builtin.Slice.slicePlaces lo hi 1)) _ _ s;rw[zk1 lo hi n];show wpAny _ _ (pure (((sIx n 0 lo:Nat):Int),(1:Int),Builtin.Slice.slicePlaces ((sIx n 0 lo:Nat):Int) ((sIx n n hi:Nat):Int) 1)) _ _ s;rw[zkH];exact wQ h
theorem zns(xs:Array Value)(i k:Nat):((List.range k).filterMap λ(m:Nat)=>xs[((i:Int)+(m:Int) * 1).toNat]?).toArray=((xs.toList.drop i).take k).toArray:=by
 have e:(λ(m:Nat)=>xs[((i:Int)+(m:Int) * 1).toNat]?)=λm=>xs[i+m]?:=by
  funext m
  have:((i:Int)+(m:Int) * 1).toNat=i+m:=by lia
  rw[this]
 rw[e];have:=pick_run xs i k;rw[List.filterMap_map]at this;have e2:((λx=>xs[x]?)∘λx=>i+x)=λm=>xs[i+m]?:=rfl;rw[e2]at this;rw[this]
theorem getItem_tuple_cut{t sl:Addr}{items:Array Value}{vl vu:Value}{lo hi:Option Int}{Q:Value->Shared->Prop}(ht:IsTup s.heap t items)(hs:s.heap.IsSliceOf sl vl vu .none)(pl:IsPart vl lo)(pu:IsPart vu hi)
  (hw:¬ (sIx items.size 0 lo=0/\sIx items.size items.size hi=items.size))
  (h:Q (.ref s.heap.objs.size) { s with heap:=s.heap.push { cls:=.type "tuple",data:=.seq ((items.toList.drop (sIx items.size 0 lo)).take (sIx items.size items.size hi - sIx items.size 0 lo)).toArray } })
  (hsz:items.size<=sizeLine):wpAny (model prog w) A (getItem (.ref t) (.ref sl)) Q E s:=by
 have htake:sizeOk (.seq ((items.toList.drop (sIx items.size 0 lo)).take (sIx items.size items.size hi - sIx items.size 0 lo)).toArray):=by
  show((items.toList.drop (sIx items.size 0 lo)).take (sIx items.size items.size hi - sIx items.size 0 lo)).toArray.size<=sizeLine;rw[List.size_toArray,List.length_take,List.length_drop,Array.length_toList];lia
 have hj:sIx items.size items.size hi<=items.size:=zqm _ _ (nLr _) hi;obtain⟨os,hos,hcs,hds⟩:=id hs;have hTs:s.TypeIs (.ref sl) "slice":=⟨os,hos,hcs⟩;unfold getItem
 try with_reducible refine wpAny_holding ?_
 first | refine wB (wQ ?_) | skip
 refine wB (wpAny_sequenceKey ht.typeIs (by decide) ?_);refine wpAny_bind (wpAny_callSpecial?_slot (name:=Str.ofString "__getitem__") ht.typeIs PyProof.Rows.slot_tuple_getitem
  (wpAny_call_entry PyProof.Rows.slot_tuple_getitem ht.typeIs entry_tuple_getitem ?_ (args_tuple_getitem _ _)))
 show wpAny _ _ (Builtin.Tuple.tupleItemsOf (.ref t) >>= _) _ _ s;refine wB (tupleItemsOf_ ht ?_);refine wB (wpAny_typeOf hTs ?_);rw[if_pos (by decide)];refine wB (zcO hs pl pu ?_);have hno:¬ ((((sIx items.size 0 lo:Nat):Int)==0&&(1:Int)==1&&(sIx items.size items.size hi - sIx items.size 0 lo)==items.size)=true):=by
  intro q;rw[Bool.and_eq_true,Bool.and_eq_true]at q;have q1:((sIx items.size 0 lo:Nat):Int)=0:=eq_of_beq q.1.1;have q2:sIx items.size items.size hi - sIx items.size 0 lo=items.size:=eq_of_beq q.2;exact hw ⟨by lia,by lia⟩
 show wpAny _ _ (if (((sIx items.size 0 lo:Nat):Int)==0&&(1:Int)==1&&(sIx items.size items.size hi - sIx items.size 0 lo)==items.size)=true then _ else _) _ _ s;rw[if_neg hno,zns]
 first
  | exact wB (m:=Builtin.Tuple.tupleExact _) (wpAny_newObj_type (wQ ⟨_,rfl,wQ h⟩) htake)
  | exact wB (m:=Builtin.Tuple.tupleExact _) (wpAny_newObj_type (wB (wQ (wQ ⟨_,rfl,wQ h⟩))) htake)
  | exact wB (wB (m:=Builtin.Tuple.tupleExact _) (wpAny_newObj_type (wQ (wQ ⟨_,rfl,wQ h⟩)) htake))
  | exact wB (wB (m:=Builtin.Tuple.tupleExact _) (wpAny_newObj_type (wQ ⟨_,rfl,wQ h⟩) htake))
end
end HT
namespace L2
open PySem PySem.Spec PyProof.Rows
noncomputable abbrev TO:=St->Hp->(Option Int->Hp->Prop)->Prop
def PO(X:Cx)(e:Option Expr)(t:TO):Prop :=
 ∀ (pins:List (Addr×Obj)) (s:Shared) (σ:St) (H:Hp) (Q:Option Int->Hp->Prop),Inv X pins σ H s->t σ H Q ->
  wpAny (model X.prog X.w) X.A (evalPart e X.env) (λu s'=>∃ o H',Inv X pins σ H' s'/\IsPart u o/\Q o H') X.xe s
noncomputable def zoG:TO:=λ_ H Q=>Q none H
noncomputable def zse(t:TE):TO:=λσ H Q=>t σ H λx H1=>∃ i,x=.int i/\Q (some i) H1
section
variable {X:Cx}{e:Expr}{te:TE}{lo hi:Option Expr}{tl th:TO}{pos p2:Pos}
theorem zo9:PO X none zoG:=by
 intro pins s σ H Q I h;rw[evalPart_none];exact wQ ⟨none,H,I,.none,h⟩
theorem zo8(h:PE X e te):PO X (some e) (zse te):=by
 intro pins s σ H Q I hw;rw[evalPart_some];refine thn (h pins s σ H _ I hw) λu s1 ⟨x,H1,I1,r1,q1⟩=>?_;obtain⟨i,rfl,q⟩:=q1;obtain⟨t,rfl⟩:=r1;exact⟨some i,H1,I1,.int i t,q⟩
def SlR(X:Cx)(r:V->Option Int->Option Int->Hp->VK->Prop):Prop :=
 ∀ (pins:List (Addr×Obj)) (s:Shared) (σ:St) (H:Hp) (x:V) (v vl vu:Value) (lo hi:Option Int) (sl:Addr) (Q:VK),Inv X pins σ H s->zaR x v->s.heap.IsSliceOf sl vl vu .none->IsPart vl lo->IsPart vu hi->r x lo hi H Q ->
  ∃ T id,typeLookup (.type T) "__getitem__"=pure (some (.builtin id))/\s.TypeIs v T/\wpAny (model X.prog X.w) X.A (getItem v (.ref sl)) (EP X pins σ Q) X.xe s
def tSl(r:V->Option Int->Option Int->Hp->VK->Prop)(te:TE)(tl th:TO):TE:=λσ H Q=>te σ H λx H1=>tl σ H1 λl H2=>th σ H2 λu H3=>r x l u H3 Q
theorem znu{r:V->Option Int->Option Int->Hp->VK->Prop}(hr:SlR X r)(he:PE X e te)(hl:PO X lo tl)(hu:PO X hi th):PE X (.Subscript e (.Slice lo hi none p2) pos) (tSl r te tl th):=by
 intro pins s σ H Q I h;refine Subscript_ (thn (he pins s σ H _ I h) λv s1 ⟨x,H1,I1,r1,q1⟩=>?_);refine wpAny_Slice (thn (hl pins s1 σ H1 _ I1 q1) λvl s2 ⟨l,H2,I2,pl,q2⟩=>thn (hu pins s2 σ H2 _ I2 q2) λvu s3 ⟨u,H3,I3,pu,q3⟩=>?_);rw[evalPart_none];refine wQ ?_;have I4:Inv X pins σ H3 { s3 with heap:=s3.heap.push { cls:=.type "slice",data:=.fields #[vl,vu,.none] } }:=I3.kept (t':=s3.toks) λb ob q=>Heap.get?_push_of_some _ q;obtain⟨T,id,hT,ht,hg⟩:=hr pins { s3 with heap:=s3.heap.push { cls:=.type "slice",data:=.fields #[vl,vu,.none] } } σ H3 x v vl vu l u s3.heap.objs.size Q I4 r1 (Heap.IsSliceOf.new ..) pl pu q3;show wpAny (model X.prog X.w) X.A (subscriptTail e (.Slice lo hi none p2) v (.ref s3.heap.objs.size)) (EP X pins σ Q) X.xe { s3 with heap:=s3.heap.push { cls:=.type "slice",data:=.fields #[vl,vu,.none] } };exact tail_any (ops:=[.ref s3.heap.objs.size,v]) ht hT hg (by with_unfolding_all rfl)
noncomputable def zot(xs:List V)(lo hi:Option Int):List V:=(xs.drop (HT.sIx xs.length 0 lo)).take (HT.sIx xs.length xs.length hi - HT.sIx xs.length 0 lo)
theorem zgf(xs:List V)(lo hi:Option Int):(zot xs lo hi).length<=xs.length:=by
 unfold zot;rw[List.length_take,List.length_drop];lia
def ztu(K:W.Frag):V->Option Int->Option Int->Hp->VK->Prop:=λx lo hi H Q=>∃ a xs,x=.ref a/\SqT K H a xs /\
 ¬ (HT.sIx xs.length 0 lo=0/\HT.sIx xs.length xs.length hi=xs.length)/\∀ p,H p=none->Q (.ref p) (upd H p (.tup (zot xs lo hi)))
theorem zqh:SlR X (ztu X.K):=by
 intro pins s σ H x v vl vu lo hi sl Q I rx hs pl pu h;obtain⟨a,xs,rfl,hx,hw,q⟩:=h;cases rx
 obtain⟨its,r,ht,hz⟩:=I.tuple hx;have hlen:its.toArray.size=xs.length:=by rw[List.size_toArray]; exact r.length.symm
 refine⟨"tuple",_,PyProof.Rows.slot_tuple_getitem.lookup,ht.typeIs,?_⟩;refine HT.getItem_tuple_cut ht hs pl pu (by rw[hlen]; exact hw) ?_ (by rw[hlen]; exact hz);rw[hlen];refine⟨.ref s.heap.objs.size,_,I.laid (t':=s.toks) (o:=.tup (zot xs lo hi)) (λb ob q=>hPs _ q) (nLr _) ?_,rfl,q _ (I.hok.fresh (nLr _))⟩;exact⟨Nat.le_trans (zgf xs lo hi) hz,_,(r.drop (HT.sIx xs.length 0 lo)).take (HT.sIx xs.length xs.length hi - HT.sIx xs.length 0 lo),zm3.new _ _⟩
end
noncomputable def ixN(n:Nat)(i:Int):Option Nat:=if 0<=i then (if i < n then some i.toNat else none)else if -(n:Int)<=i then some (i+n).toNat else none
noncomputable def atI{α:Type}(xs:List α)(i:Int):Option α:=(ixN xs.length i).bind λj=>xs[j]?
theorem zmk{n:Nat}{i:Int}{j:Nat}(h:ixN n i=some j):seqIndex? i n=some j/\j < n/\-(n:Int)<=i/\i < n:=by
 unfold ixN at h;by_cases h0:0<=i
 ·rw[if_pos h0]at h;by_cases h1:i < n
  ·rw[if_pos h1]at h;have e:i.toNat=j:=Option.some.inj h;exact⟨by rw[seqIndex_of h0 h1,e],by lia,by lia,h1⟩
  ·rw[if_neg h1]at h; cases h
 ·rw[if_neg h0]at h;by_cases h1:-(n:Int)<=i
  ·rw[if_pos h1]at h;have e:(i+n).toNat=j:=Option.some.inj h;exact⟨by rw[seqIndex_neg (by lia) h1,e],by lia,h1,by lia⟩
  ·rw[if_neg h1]at h; cases h
theorem zmW{α:Type}{xs:List α}{i:Int}{v:α}(h:atI xs i=some v):∃ j,seqIndex? i xs.length=some j/\xs[j]?=some v/\j < xs.length/\-(xs.length:Int)<=i/\i < xs.length:=by
 unfold atI at h;cases e:ixN xs.length i with
 | none=>rw[e]at h; cases h
 | some j =>
  rw[e]at h;obtain⟨h1,h2,h3,h4⟩:=zmk e;exact⟨j,h1,h,h2,h3,h4⟩
theorem zcg{α:Type}{xs:List α}{j:Nat}{v:α}(h:xs[j]?=some v):atI xs (j:Int)=some v:=by
 have hj:j < xs.length:=(List.getElem?_eq_some_iff.mp h).1;have e:ixN xs.length (j:Int)=some j:=by
  unfold ixN;rw[if_pos (by lia),if_pos (by lia)]; simp
 unfold atI; rw[e]; exact h
def zmY(b:Expr):Prop:=∀ o i,subscripted b false o i=operate [o,i] (getItem o i)
def IxR(X:Cx)(r:R2):Prop :=
 ∀ (value slice:Expr) (pins:List (Addr×Obj)) (s:Shared) (σ:St) (H:Hp) (x y:V) (v u:Value) (Q:VK),Inv X pins σ H s->zaR x v->zaR y u->r x y H Q ->
  subscripted slice false v u=operate [v,u] (getItem v u)->wpAny (model X.prog X.w) X.A (subscriptTail value slice v u) (EP X pins σ Q) X.xe s
def MtR(X:Cx)(id:String)(r:V->List V->Hp->VK->Prop):Prop :=
 ∀ (pins:List (Addr×Obj)) (s:Shared) (σ:St) (H:Hp) (x:V) (xs:List V) (v:Value) (us:List Value) (Q:VK),Inv X pins σ H s->zaR x v->zaF xs us->r x xs H Q ->
  wpAny (model X.prog X.w) X.A (call (.builtin id) (v::us)) (EP X pins σ Q) X.xe s
section
variable {X:Cx}{a b:Expr}{ta tb:TE}{pos:Pos}
theorem IxR.or{r r':R2}(h:IxR X r)(h':IxR X r'):IxR X (λx y H Q=>r x y H Q∨r' x y H Q):=by
 intro value slice pins s σ H x y v u Q I rx ry q hs;rcases q with q | q
 ·exact h value slice pins s σ H x y v u Q I rx ry q hs
 ·exact h' value slice pins s σ H x y v u Q I rx ry q hs
theorem zsI{r:R2}(hr:IxR X r)(ha:PE X a ta)(hb:PE X b tb)(hs:zmY b):PE X (.Subscript a b pos) (tOp r ta tb):=by
 intro pins s σ H Q I h;exact Subscript_ (zs0 ha hb I h λv u s2 x y H2 I2 rx ry q=>hr a b pins s2 σ H2 x y v u Q I2 rx ry q (hs _ _))
def zty(K:W.Frag):R2:=λx y H Q=>∃ p xs i v,x=.ref p/\y=.int i/\SqL K H p xs/\atI xs i=some v/\Q v H
def ztx(K:W.Frag):R2:=λx y H Q=>∃ p xs i v,x=.ref p/\y=.int i/\SqT K H p xs/\atI xs i=some v/\Q v H
theorem zpx:IxR X (zty X.K):=by
 intro value slice pins s σ H x y v u Q I rx ry h hs;obtain⟨p,xs,i,z,rfl,rfl,hq,he,q⟩:=h;cases rx
 obtain⟨t,rfl⟩:=ry;obtain⟨its,r,pl,hz⟩:=I.list hq;obtain⟨j,h1,h2,h3,h4,h5⟩:=zmW he;obtain⟨w,ew,rw'⟩:=r.get h2;have hl:=r.length;have hn:=zgU;have fin:EP X pins σ Q w s:=⟨z,H,I,rw',q⟩;by_cases h0:0<=i
 ·have hj:i.toNat=j:=by
   rw[seqIndex_of h0 h5]at h1;exact Option.some.inj h1
  exact item_listR pl.isList h0 (by lia) (by rw[hj]; simpa using ew) fin hs
 ·have hj:(i+(its.toArray.size:Int)).toNat=j:=by
   rw[seqIndex_neg (by lia) h4]at h1;rw[List.size_toArray,<- hl];exact Option.some.inj h1
  exact subscriptTail_builtinR (x:=w) pl.isList.typeIs slot_list_getitem.lookup
   (wpAny_getItem_list_neg (Q:=λr s'=>r=w/\EP X pins σ Q r s') pl.isList (by lia) (by rw[List.size_toArray]<;>lia) (by lia) (by rw[hj]; simpa using ew) ⟨rfl,fin⟩) hs
theorem zrr:IxR X (ztx X.K):=by
 intro value slice pins s σ H x y v u Q I rx ry h hs;obtain⟨p,xs,i,z,rfl,rfl,hq,he,q⟩:=h;cases rx
 obtain⟨t,rfl⟩:=ry;obtain⟨its,r,pl,hz⟩:=I.tuple hq;obtain⟨j,h1,h2,h3,h4,h5⟩:=zmW he;obtain⟨w,ew,rw'⟩:=r.get h2;have hl:=r.length;have hn:=zgU;have fin:EP X pins σ Q w s:=⟨z,H,I,rw',q⟩;exact subscriptTail_builtinR (x:=w) pl.typeIs slot_tuple_getitem.lookup
  (getItem_tuple (j:=j) (Q:=λr s'=>r=w/\EP X pins σ Q r s') pl (by lia) (by lia) (by rw[List.size_toArray,<- hl]; exact h1) (by simpa using ew) ⟨rfl,fin⟩) hs
theorem zkL(its:List Value)(n j:Nat)(u:Value):Obj.mapSeq (·.setIfInBounds j u) { cls:=.type "list",data:=.seq its.toArray n }={ cls:=.type "list",data:=.seq (its.set j u).toArray n }:=by
 simp[Obj.mapSeq]
theorem Inv.lst{pins:List (Addr×Obj)}{σ:St}{H:Hp}{s:Shared}{p:Addr}{xs:List V}(I:Inv X pins σ H s)(h:H p=some (.lst xs)) :
  ∃ (its:List Value) (n:Nat),zaF xs its/\s.heap.get? p=some { cls:=.type "list",data:=.seq its.toArray n }/\xs.length<=sizeLine:=by
 obtain⟨z,its,n,r,e⟩:=I.hok p _ h;exact⟨its,n,r,e,z⟩
theorem Inv.lstUpd{pins:List (Addr×Obj)}{σ:St}{H:Hp}{s:Shared}{p:Addr}{xs ys:List V}{its its':List Value}{n n':Nat}{f:Obj->Obj}(I:Inv X pins σ H s)(h:H p=some (.lst xs))
  (ho:s.heap.get? p=some { cls:=.type "list",data:=.seq its.toArray n }) (hf:f { cls:=.type "list",data:=.seq its.toArray n }={ cls:=.type "list",data:=.seq its'.toArray n' }) (r:zaF ys its') (hz:ys.length<=sizeLine) (t:Nat) :
  Inv X pins σ (upd H p (.lst ys)) { s with heap:=s.heap.update p f,toks:=t }:=by
 have e:(s.heap.update p f).get? p=some { cls:=.type "list",data:=.seq its'.toArray n' }:=by
  rw[Heap.get?_update_self f ho (by rw[hf]<;>rfl),hf]
 refine I.write (x:=p) (e:=p) (by rw[h]; trivial) (.inl rfl) (λb u hb q=>(Heap.get?_update_other _ _ (Ne.symm hb)).trans q) ⟨_,e⟩ ?_;exact⟨hz,its',n',r,e⟩
def zsm:V->V->V->Hp->(Hp->Prop)->Prop:=λo i v H Q=>∃ p xs k j,o=.ref p/\i=.int k/\H p=some (.lst xs)/\ixN xs.length k=some j/\Q (upd H p (.lst (xs.set j v)))
theorem znc:zs4 X zsm:=by
 intro pins s σ H o i v ov iv u Q I ro ri rv h;obtain⟨p,xs,k,j,rfl,rfl,hp,hj,q⟩:=h;cases ro
 obtain⟨t,rfl⟩:=ri;obtain⟨its,n,r,ho,hz⟩:=I.lst hp;obtain⟨h1,h2,h3,h4⟩:=zmk hj;have hl:=r.length;have hn:=zgU;have I':Inv X pins σ (upd H p (.lst (xs.set j v))) { s with heap:=s.heap.update p (Obj.mapSeq (·.setIfInBounds j u)) } :=
  I.lstUpd hp ho (zkL its n j u) (r.set rv j) (by rw[List.length_set]; exact hz) s.toks
 by_cases h0:0<=k
 ·have hk:k.toNat=j:=by
   rw[seqIndex_of h0 h4]at h1;exact Option.some.inj h1
  exact W.ki_setAt ho h0 (by lia) (by rw[List.size_toArray,<- hl]; exact h4) (by rw[hk]; exact⟨_,I',q⟩)
 ·have hk:(k+(its.toArray.size:Int)).toNat=j:=by
   rw[seqIndex_neg (by lia) h3]at h1;rw[List.size_toArray,<- hl];exact Option.some.inj h1
  exact W.ki_setBack ho (by lia) (by rw[List.size_toArray,<- hl]; exact h3) (by lia) (by rw[hk]; exact⟨_,I',q⟩)
theorem zhY(lo hi:Option Int)(n:Nat):(sliceBounds lo hi none n).1=((HT.sIx n 0 lo:Nat):Int)/\(sliceBounds lo hi none n).2.1=((HT.sIx n n hi:Nat):Int)/\(sliceBounds lo hi none n).2.2=1:=by
 refine⟨?_,?_,rfl⟩
 ·cases lo with
  | none=>simp[sliceBounds,HT.sIx]
  | some i =>
   simp only[sliceBounds,HT.sIx,Option.getD_none,show(1:Int) > 0 by decide,if_true];by_cases h:i < 0
   ·simp only[h,if_true]<;>lia
   ·simp only[h,if_false]<;>lia
 ·cases hi with
  | none=>simp[sliceBounds,HT.sIx]
  | some i =>
   simp only[sliceBounds,HT.sIx,Option.getD_none,show(1:Int) > 0 by decide,if_true];by_cases h:i < 0
   ·simp only[h,if_true]<;>lia
   ·simp only[h,if_false]<;>lia
theorem zhc(its:List Value)(lo hi:Option Int):slicePick its.toArray lo hi none=((its.drop (HT.sIx its.length 0 lo)).take (HT.sIx its.length its.length hi - HT.sIx its.length 0 lo)).toArray:=by
 obtain⟨h1,h2,h3⟩:=zhY lo hi its.toArray.size;unfold slicePick;rw[h1,h2,h3];simp only[sliceRange_one,pick_run,List.size_toArray]<;>rfl
def ztv(K:W.Frag):V->Option Int->Option Int->Hp->VK->Prop:=λx lo hi H Q=>∃ a xs,x=.ref a/\SqL K H a xs/\∀ p,H p=none->Q (.ref p) (upd H p (.lst (zot xs lo hi)))
theorem zlt:SlR X (ztv X.K):=by
 intro pins s σ H x v vl vu lo hi sl Q I rx hs pl pu h;obtain⟨a,xs,rfl,hx,q⟩:=h;cases rx
 obtain⟨its,r,ht,hz⟩:=I.list hx;have hlen:=r.length;refine⟨"list",_,slot_list_getitem.lookup,ht.isList.typeIs,?_⟩;refine wpAny_getItem_list_slice ht.isList hs pl pu .none (by simp) ?_ (by rw[List.size_toArray]<;>lia);rw[zhc,<- hlen];refine⟨.ref s.heap.objs.size,_,I.laid (t':=s.toks) (o:=.lst (zot xs lo hi)) (λb ob q=>hPs _ q) (nLr _) ?_,rfl,q _ (I.hok.fresh (nLr _))⟩;exact⟨Nat.le_trans (zgf xs lo hi) hz,_,0,(r.drop (HT.sIx xs.length 0 lo)).take (HT.sIx xs.length xs.length hi - HT.sIx xs.length 0 lo),hPz _ rfl⟩
theorem ziH:zci X (.builtin "len") (λxs H Q=>∃ p ys,xs=[.ref p]/\(SqL X.K H p ys∨SqT X.K H p ys)/\Q (.int ys.length) H):=by
 intro pins s σ H xs us Q I r h;obtain⟨p,ys,rfl,hq,q⟩:=h;obtain⟨u,rfl,rx⟩:=zg6 r;cases rx
 have hn:=zgU;rcases hq with hq | hq
 ·obtain⟨its,r',pl,hz⟩:=I.list hq;have hlen:=r'.length;exact Calls.call_len_list pl.isList (by simp only[List.size_toArray]<;>lia) ⟨.int ys.length,H,I.tok _,⟨s.toks+1,by rw[List.size_toArray,hlen]⟩,q⟩
 ·obtain⟨its,r',pl,hz⟩:=I.tuple hq;have hlen:=r'.length;exact len_tuple pl (by simp only[List.size_toArray]<;>lia) ⟨.int ys.length,H,I.tok _,⟨s.toks+1,by rw[List.size_toArray,hlen]⟩,q⟩
theorem ziG:zci X (.builtin "len") (λxs H Q=>∃ z,xs=[.str z]/\z.length<=sizeLine/\Q (.int z.length) H):=by
 intro pins s σ H xs us Q I r h;obtain⟨z,rfl,hz,q⟩:=h;obtain⟨u,rfl,t,rfl⟩:=zg6 r;have hn:=zgU;exact len_str (by lia) ⟨.int z.length,H,I.tok _,⟨_,rfl⟩,q⟩
theorem zci.or{f:Value}{r r':List V->Hp->VK->Prop}(h:zci X f r)(h':zci X f r'):zci X f (λxs H Q=>r xs H Q∨r' xs H Q):=by
 intro pins s σ H xs us Q I rs q;rcases q with q | q
 ·exact h pins s σ H xs us Q I rs q
 ·exact h' pins s σ H xs us Q I rs q
theorem zhJ:zci X (.type "tuple") (λxs H Q=>∃ p ys,xs=[.ref p]/\((SqL X.K H p ys/\∀ l,H l=none->Q (.ref l) (upd H l (.tup ys)))∨(SqT X.K H p ys/\Q (.ref p) H))):=by
 intro pins s σ H xs us Q I r h;obtain⟨p,ys,rfl,h⟩:=h;obtain⟨u,rfl,rx⟩:=zg6 r;cases rx
 rcases h with ⟨hq,q⟩ | ⟨hq,q⟩
 ·obtain⟨its,r',pl,hz⟩:=I.list hq;have hlen:=r'.length;refine call_tuple_list pl.isList (λh' kp=>?_) (by simp only[List.size_toArray]<;>lia);have I1:Inv X pins σ H { s with heap:=h' }:=I.kept (t':=s.toks) kp;have I2:Inv X pins σ (upd H h'.objs.size (.tup ys)) { s with heap:=h'.push { cls:=.type "tuple",data:=.seq its.toArray } } :=
   I1.laid (t':=s.toks) (λb o e=>hPs _ e) (nLr _) (show zbg X.prog X.w _ _ _ (.tup ys)from ⟨hz,its,r',zm3.new _ _⟩)
  exact⟨.ref h'.objs.size,_,I2,rfl,q _ (I1.hok.fresh (nLr _))⟩
 ·obtain⟨its,r',pl,hz⟩:=I.tuple hq;exact call_tuple_same pl ⟨.ref p,H,I,rfl,q⟩
def tyV(K:W.Frag)(T:String)(x:V)(H:Hp):Prop:=match x with
 | .str _=>T="str"
 | .int _=>T="int"
 | .ref p=>(T="list"/\∃ xs,SqL K H p xs)∨(T="tuple"/\∃ o,K.lookup p=some o/\o.cls=.type "tuple"/\o.dict=none) ∨
   (T="dict"/\((∃ kvs,H p=some (.dK kvs))∨∃ kvs,H p=some (.dT kvs)))∨(T="set"/\∃ S n,H p=some (.set S n))
 | _=>False
theorem zp6{pins:List (Addr×Obj)}{σ:St}{H:Hp}{s:Shared}{T:String}{x:V}{v:Value}(I:Inv X pins σ H s)(r:zaR x v)(ty:tyV X.K T x H) :
  s.TypeIs v T/\∀ a,v=.ref a->∃ ob,s.heap.get? a=some ob/\ob.dict=none:=by
 cases x with
 | str z =>
  obtain⟨t,rfl⟩:=r;cases (show T="str" from ty)
  exact⟨typeIs_str s z t,λ_ e=>nomatch e⟩
 | int i =>
  obtain⟨t,rfl⟩:=r;cases (show T="int" from ty)
  exact⟨typeIs_int s i t,λ_ e=>nomatch e⟩
 | ref p =>
  cases r
  rcases ty with ⟨rfl,xs,hq⟩ | ⟨rfl,o,hk,hc,hd⟩ | ⟨rfl,hk⟩ | ⟨rfl,S,n,hk⟩
  ·obtain⟨its,_,pl,_⟩:=I.list hq;refine⟨pl.isList.typeIs,λa e=>?_⟩;cases e
   obtain⟨o,n,e,c,hd,_⟩:=pl;exact⟨o,e,hd⟩
  ·refine⟨⟨o,I.kIn p o hk,hc⟩,λa e=>?_⟩;cases e
   exact⟨o,I.kIn _ o hk,hd⟩
  ·have z:∃ o,s.heap.get? p=some o/\o.ExactDict:=by
    rcases hk with ⟨kvs,hk⟩ | ⟨kvs,hk⟩
    ·obtain⟨_,_,_,_,o,_,_,e,ex,_⟩:=I.hok p _ hk;exact⟨o,e,ex⟩
    ·obtain⟨_,_,_,_,o,_,_,e,ex,_⟩:=I.hok p _ hk;exact⟨o,e,ex⟩
   obtain⟨o,e,ex⟩:=z;refine⟨⟨o,e,ex.1⟩,λa e2=>?_⟩;cases e2
   exact⟨o,e,ex.2.1⟩
  ·obtain⟨o,_,_,_,e,ex,_⟩:=I.hok p _ hk;refine⟨⟨o,e,ex.1⟩,λa e2=>?_⟩;cases e2
   exact⟨o,e,ex.2.1⟩
 | _=>exact False.elim ty
def tBM(K:W.Frag)(T:String)(r:V->List V->Hp->VK->Prop)(to:TE)(t:TA):TE:=λσ H Q=>to σ H λx H1=>tyV K T x H1/\t σ H1 λxs H2=>r x xs H2 Q
variable {o e:Expr}{es:List Expr}{to:TE}{t:TA}{name:Str}{apos cpos:Pos}{T id:String}{r:V->List V->Hp->VK->Prop}
theorem zqU(pa:PlainAttrs T)(slot:Slot T name id)(hty:typeOf (.builtin id)=pure (.type "method_descriptor")) (hm:MtR X id r) (ho:PE X o to) (ha:PA X (e::es) t)
  (hbase:attributeBase o name X.env (eval o X.env)=eval o X.env:=by rfl)
  (hfew:((backTo cpos (starEach (e::es) X.env)).all (λx=>!x.1)&&(backToKw cpos (keywordEach [] X.env)).all (λx=>x.1.isSome)
   && decide ((e::es).length+([]:List Keyword).length+(if ([]:List Keyword).isEmpty then 0 else 1) < 30))=true:=by rfl)
  (hline:(apos.endLine==cpos.line)=true:=by rfl) (hs:starEach (e::es) X.env=(false,eval e X.env)::starEach es X.env:=by rfl) (hplain:(backTo cpos (starEach es X.env)).any (·.1)=false:=by rfl) :
  PE X (.Call (.Attribute o name apos) (e::es) [] cpos) (tBM X.K T r to t):=by
 intro pins s σ H Q I h;refine wpAny_Call_method_late hbase hfew hline rfl (thn (ho pins s σ H _ I h) λv s1 ⟨x,H1,I1,r1,ty,q1⟩=>?_);obtain⟨h1,h2⟩:=zp6 I1 r1 ty;refine⟨T,id,pa,slot,hty,h1,h2,?_⟩;have hA:=ha cpos pins s1 σ H1 _ I1 q1;rw[hs]at hA ⊢;refine Calls.callWith_builtin (by show(false||(backTo cpos (starEach es X.env)).any (·.1))=false; rw[hplain]<;>rfl) (Calls.evalArgs_plain ?_);exact thn hA λus s2 ⟨vs,H2,I2,r2,q2⟩=>hm pins s2 σ H2 x vs v us Q I2 r1 r2 q2
end
def MtM(X:Cx)(id:String)(r:V->List V->Hp->VK->Prop):Prop :=
 ∀ (pins:List (Addr×Obj)) (s:Shared) (σ:St) (H:Hp) (x:V) (xs:List V) (v:Value) (us:List Value) (Q:VK),Inv X pins σ H s->zaR x v->zaF xs us->r x xs H Q ->
  wpAny (model X.prog X.w) X.A (call (.builtin id) (v::us)) (EP X pins σ Q) X.xe s
theorem zaF.one:∀ {x:V} {us:List Value},zaF [x] us->∃ u,us=[u]/\zaR x u
 | _,_,.cons r .nil=>⟨_,rfl,r⟩
theorem zaF.eraseIdx:∀ {xs:List V} {us:List Value} (i:Nat),zaF xs us->zaF (xs.eraseIdx i) (us.eraseIdx i)
 | _,_,_,.nil=>.nil
 | _,_,0,.cons _ t=>t
 | _,_,i+1,.cons r t=>.cons r (zaF.eraseIdx i t)
theorem zin{α:Type}:∀ (l:List α) (i:Nat),(l.eraseIdx i).length<=l.length
 | [],_=>nLr _
 | _::_,0=>Nat.le_succ _
 | _::r,i+1=>Nat.succ_le_succ (zin r i)
section
variable {X:Cx}{pins:List (Addr×Obj)}{σ:St}{H:Hp}{s:Shared}{l b:Addr}{xs ys zs:List V}
theorem Inv.lset{its its':List Value}{n:Nat}{f:Array Value->Array Value}{t':Nat}(I:Inv X pins σ H s)(hH:H l=some (.lst xs))
  (e:s.heap.get? l=some { cls:=.type "list",data:=.seq its.toArray n }) (hf:f its.toArray=its'.toArray) (hv:zaF ys its') (hz:ys.length<=sizeLine) :
  Inv X pins σ (upd H l (.lst ys)) { s with heap:=s.heap.update l (Obj.mapSeq f),toks:=t' }:=by
 have q:=PySem.IsL.update e f;rw[hf]at q;refine I.write (x:=l) (e:=l) (by rw[hH]; exact trivial) (.inl rfl) (λb' u hb hu=>(Heap.get?_update_other s.heap (Obj.mapSeq f) (Ne.symm hb)).trans hu) ⟨_,q⟩ ?_;exact⟨hz,its',_,hv,q⟩
theorem Inv.lnew{its:List Value}{t':Nat}(I:Inv X pins σ H s)(hv:zaF ys its)(hz:ys.length<=sizeLine) :
  Inv X pins σ (upd H s.heap.objs.size (.lst ys)) { s with heap:=s.heap.push { cls:=.type "list",data:=.seq its.toArray },toks:=t' } :=
 I.laid (λ_ _ q=>hPs _ q) (nLr _) ⟨hz,its,0,hv,hPz _ rfl⟩
theorem Inv.fresh(I:Inv X pins σ H s):H s.heap.objs.size=none:=I.hok.fresh (nLr _)
theorem Inv.lstM(I:Inv X pins σ H s)(hH:H l=some (.lst xs)):xs.length<=sizeLine/\∃ (its:List Value) (n:Nat),zaF xs its/\xs.length=its.length/\s.heap.get? l=some { cls:=.type "list",data:=.seq its.toArray n }:=by
 obtain⟨z,its,n,r,e⟩:=I.hok l _ hH;exact⟨z,its,n,r,r.length,e⟩
end
section
variable {X:Cx}
def zoT:V->List V->Hp->VK->Prop:=λx vs H Q=>∃ l xs y,x=.ref l/\vs=[y]/\H l=some (.lst xs)/\xs.length < sizeLine/\Q .non (upd H l (.lst (xs++[y])))
theorem zlV:MtM X "list.append" zoT:=by
 intro pins s σ H x vs v us Q I rx rv h;obtain⟨l,xs,y,rfl,rfl,hH,hz,q⟩:=h;cases rx
 obtain⟨u,rfl,ru⟩:=rv.one;obtain⟨z,its,n,r,hl,e⟩:=I.lstM hH;refine call_meets F.slot_list_append ⟨_,e,rfl⟩ F.entry_list_append (F.args_list_append_2 _ _) (PySem.list_append l its.toArray n u (by rw[List.size_toArray]; lia)) ⟨e,?_⟩;refine⟨.non,_,I.lset (its':=its++[u]) hH e (by simp) (r.append (.cons ru .nil)) ?_,rfl,q⟩;rw[List.length_append,List.length_singleton];lia
def zqq:V->List V->Hp->VK->Prop:=λx vs H Q=>∃ l xs i k y,x=.ref l/\vs=[.int i]/\H l=some (.lst xs)/\-(2 ^ 63)<=i/\i < 2 ^ 63/\seqIndex? i xs.length=some k/\xs[k]?=some y/\Q y (upd H l (.lst (xs.eraseIdx k)))
theorem znD:MtM X "list.pop" zqq:=by
 intro pins s σ H x vs v us Q I rx rv h;obtain⟨l,xs,i,k,y,rfl,rfl,hH,h1,h2,hk,hy,q⟩:=h;cases rx
 obtain⟨u,rfl,ru⟩:=rv.one;obtain⟨t,rfl⟩:=ru;obtain⟨z,its,n,r,hl,e⟩:=I.lstM hH;obtain⟨w,hw,rw'⟩:=r.get hy;refine call_meets F.slot_list_pop ⟨_,e,rfl⟩ F.entry_list_pop (F.args_list_pop_2 _ _)
  (MeetsSeq.list_pop_at l its.toArray n i t k w (fitsIndex_both h1 h2) (by rw[List.size_toArray,<- hl]; exact hk) (by rw[<- Array.getElem?_toList]; exact hw) (by rw[List.size_toArray]; lia)) ⟨e,?_⟩
 refine⟨y,_,I.lset (its':=its.eraseIdx k) hH e ?_ (r.eraseIdx k) ?_,rw',q⟩
 ·show its.toArray.eraseIdxIfInBounds k=(its.eraseIdx k).toArray;rw[List.eraseIdxIfInBounds_toArray]
 ·have:=zin xs k;lia
def ztz:R2:=λx y H Q=>∃ l b xs zs,x=.ref l/\y=.ref b/\H l=some (.lst xs)/\H b=some (.lst zs)/\xs.length+zs.length<=sizeLine/\∀ p,H p=none->Q (.ref p) (upd H p (.lst (xs++zs)))
theorem zq5:OpR X (binaryOp .Add) ztz:=by
 intro pins s σ H x y v u Q I rx ry h;obtain⟨l,b,xs,zs,rfl,rfl,hH,hB,hz,q⟩:=h;cases rx
 cases ry
 obtain⟨z,its,n,r,hl,e⟩:=I.lstM hH;obtain⟨z2,its2,n2,r2,hl2,e2⟩:=I.lstM hB;refine PySem.P.add_list e e2 ?_ (by rw[List.size_toArray,List.size_toArray]; lia);have ea:its.toArray++its2.toArray=(its++its2).toArray:=by simp
 rw[ea];exact⟨.ref _,_,I.lnew (t':=s.toks) (r.append r2) (by rw[List.length_append]; lia),rfl,q _ I.fresh⟩
end
section
variable {prog:Program}{w:World}{A:Around}{E:Value->Shared->Prop}{s:Shared}
end
section
variable {X:Cx}
end
section
variable {κ:Type} [DecidableEq κ]
noncomputable def zi1(kvs:List (κ×V))(k:κ):Option V:=(kvs.find? λkv=>decide (kv.1=k)).map (·.2)
noncomputable def zjS(kvs:List (κ×V))(k:κ)(v:V):List (κ×V) :=
 if (kvs.any λkv=>decide (kv.1=k))=true then kvs.map (λkv=>if kv.1=k then (kv.1,v)else kv)else kvs++[(k,v)]
theorem zg7{p:κ×V}{r:List (κ×V)}{k:κ}(e:p.1=k):zi1 (p::r) k=some p.2:=by simp[zi1,List.find?_cons,e]
theorem zg8{p:κ×V}{r:List (κ×V)}{k:κ}(e:¬ p.1=k):zi1 (p::r) k=zi1 r k:=by simp[zi1,List.find?_cons,e]
theorem zjD(k:κ):∀ kvs:List (κ×V),(kvs.any λkv=>decide (kv.1=k))=(zi1 kvs k).isSome
 | []=>rfl
 | p::r=>by
  rw[List.any_cons]
  by_cases e:p.1=k
  ·simp only[zg7 e,decide_eq_true e,Bool.true_or,Option.isSome_some]
  ·rw[zg8 e,decide_eq_false e,Bool.false_or]; exact zjD k r
theorem zf6(kvs:List (κ×V))(k:κ)(v:V):(zjS kvs k v).length<=kvs.length+1:=by
 unfold zjS;split
 ·rw[List.length_map]; lia
 ·rw[List.length_append,List.length_cons,List.length_nil]; lia
theorem zg3.isSome_eq{o:Option V}{u:Option Value}(r:zg3 o u):o.isSome=u.isSome:=by
 cases o with
 | none=>cases u with
  | none=>rfl
  | some _=>exact(show False from r).elim
 | some _=>cases u with
  | none=>exact(show False from r).elim
  | some _=>rfl
theorem zg3.getD{o:Option V}{u:Option Value}{d:V}{d':Value}(r:zg3 o u)(rd:zaR d d'):zaR (o.getD d) (u.getD d'):=by
 cases o with
 | none=>cases u with
  | none=>exact rd
  | some _=>exact(show False from r).elim
 | some _=>cases u with
  | none=>exact(show False from r).elim
  | some _=>exact r
theorem KV.val{kvs:List (κ×V)}{vs:List (κ×Value)}(r:KV kvs vs)(k:κ):zg3 (zi1 kvs k) (valueAt vs k):=by
 unfold KV at r;induction r with
 | nil=>exact True.intro
 | @cons p q ps qs h t ih =>
  obtain⟨h1,h2⟩:=h;by_cases e:p.1=k
  ·have e':q.1=k:=h1.symm.trans e;have b:valueAt (q::qs) k=some q.2:=by simp[valueAt,List.find?_cons,e']
   rw[zg7 e,b]; exact h2
  ·have e':¬ q.1=k:=λz=>e (h1.trans z);have b:valueAt (q::qs) k=valueAt qs k:=by simp[valueAt,List.find?_cons,e']
   rw[zg8 e,b]; exact ih
theorem KV.any{kvs:List (κ×V)}{vs:List (κ×Value)}(r:KV kvs vs)(k:κ):(kvs.any λkv=>decide (kv.1=k))=vs.any λkv=>decide (kv.1=k):=by
 unfold KV at r;induction r with
 | nil=>rfl
 | cons h t ih=>rw[List.any_cons,List.any_cons,ih,h.1]
theorem KV.repl{kvs:List (κ×V)}{vs:List (κ×Value)}(r:KV kvs vs)(k:κ){y:V}{u:Value}(ry:zaR y u) :
  KV (kvs.map λkv=>if kv.1=k then (kv.1,y)else kv) (vs.map λkv=>if kv.1=k then (kv.1,u)else kv):=by
 unfold KV at r ⊢;induction r with
 | nil=>exact .nil
 | @cons p q ps qs h t ih =>
  rw[List.map_cons,List.map_cons];refine .cons ?_ ih;obtain⟨h1,h2⟩:=h;by_cases e:p.1=k
  ·rw[if_pos e,if_pos (h1.symm.trans e)]; exact⟨h1,ry⟩
  ·rw[if_neg e,if_neg (λz=>e (h1.trans z))]; exact⟨h1,h2⟩
theorem KV.put{kvs:List (κ×V)}{vs:List (κ×Value)}(r:KV kvs vs)(k:κ){y:V}{u:Value}(ry:zaR y u):KV (zjS kvs k y) (stored vs k u):=by
 unfold zjS stored;rw[r.any k];by_cases e:(vs.any λkv=>decide (kv.1=k))=true
 ·rw[if_pos e,if_pos e]; exact r.repl k ry
 ·rw[if_neg e,if_neg e]; exact Paired.snoc r ⟨rfl,ry⟩
theorem KV.length{kvs:List (κ×V)}{vs:List (κ×Value)}(r:KV kvs vs):kvs.length=vs.length:=Paired.length r
end
theorem zmj{P:Program}{w:World}{k:Key}{u:Value}(r:zaR (kV k) u):(zaD P w).is k u=true:=by
 cases k with
 | inl i=>obtain⟨t,e⟩:=(show ∃ t,u=Value.int i t from r); subst e; exact zjd P w i t
 | inr x=>obtain⟨t,e⟩:=(show ∃ t,u=Value.str x t from r); subst e; exact zjc P w x t
theorem zir{P:Program}{w:World}:∀ {ks:List Key} {us:List Value},zaF (ks.map kV) us->ItemsAre (zaD P w) ks us
 | [],_,r=>by rw[List.map_nil]at r; cases r; exact .nil
 | k::ks,_,r=>by
  rw[List.map_cons]at r
  cases r with
  | cons h t=>exact .cons (zmj h) (zir t)
abbrev KT(H:Hp):List (List Key×V)->List (List Key×Addr×Value)->Prop:=Paired λp q=>p.1=q.1/\H q.2.1=some (.tup (p.1.map kV))/\zaR p.2 q.2.2
theorem KT.val{H:Hp}{kvs:List (List Key×V)}{xs:List (List Key×Addr×Value)}(r:KT H kvs xs)(k:List Key):zg3 (zi1 kvs k) ((atKey xs k).map (·.2)):=by
 induction r with
 | nil=>exact True.intro
 | @cons p q ps qs h t ih =>
  obtain⟨h1,_,h2⟩:=h;by_cases e:p.1=k
  ·have e':q.1=k:=h1.symm.trans e;have b:atKey (q::qs) k=some q.2:=by simp[atKey,List.find?_cons,e']
   rw[zg7 e,b]; exact h2
  ·have e':¬ q.1=k:=λz=>e (h1.trans z);have b:atKey (q::qs) k=atKey qs k:=by simp[atKey,List.find?_cons,e']
   rw[zg8 e,b]; exact ih
theorem KT.repl{H:Hp}{kvs:List (List Key×V)}{xs:List (List Key×Addr×Value)}(r:KT H kvs xs)(k:List Key){y:V}{u:Value}(ry:zaR y u) :
  KT H (kvs.map λkv=>if kv.1=k then (kv.1,y)else kv) (xs.map (putAt k u)):=by
 induction r with
 | nil=>exact .nil
 | @cons p q ps qs h t ih =>
  rw[List.map_cons,List.map_cons];refine .cons ?_ ih;obtain⟨h1,h2,h3⟩:=h;unfold putAt;by_cases e:p.1=k
  ·rw[if_pos e,if_pos (h1.symm.trans e)]; exact⟨h1,h2,ry⟩
  ·rw[if_neg e,if_neg (λz=>e (h1.trans z))]; exact⟨h1,h2,h3⟩
theorem KT.put{H:Hp}{kvs:List (List Key×V)}{xs:List (List Key×Addr×Value)}(r:KT H kvs xs)(k:List Key){b:Addr}{y:V}{u:Value}(hb:H b=some (.tup (k.map kV)))(ry:zaR y u) :
  KT H (zjS kvs k y) (storedH xs k b u):=by
 have e:(kvs.any λkv=>decide (kv.1=k))=(atKey xs k).isSome:=by
  rw[zjD,(r.val k).isSome_eq,Option.isSome_map]
 unfold zjS storedH;rw[e];by_cases q:(atKey xs k).isSome=true
 ·rw[if_pos q,if_pos q]; exact r.repl k ry
 ·rw[if_neg q,if_neg q]; exact Paired.snoc r ⟨rfl,hb,ry⟩
theorem KT.keeps{H H':Hp}{kvs:List (List Key×V)}{xs:List (List Key×Addr×Value)}(r:KT H kvs xs)(ht:∀ b ys,H b=some (.tup ys)->H' b=some (.tup ys)):KT H' kvs xs :=
 Paired.mapP r λ_ _ z=>⟨z.1,ht _ _ z.2.1,z.2.2⟩
section
variable {P:Program}{w:World}{H:Hp}{h:Heap}{a:Addr}
theorem zqp{u:HO}(ok:HOk P w H h)(e:Rd H a u):zbg P w H h a u:=e.ok ok
theorem ziy{kvs:List (Key×V)}(ok:HOk P w H h)(e:Rd H a (.dK kvs)):kvs.length<=sizeLine/\(a==sysModules)=false/\∃ vs,KV kvs vs/\h.DictOf (zaD P w) a vs :=
 show zbg P w H h a (.dK kvs)from zqp ok e
theorem zkS{kvs:List (Key×V)}(ok:HOk P w H h)(e:H a=some (.dK kvs)):kvs.length<=sizeLine/\(a==sysModules)=false/\∃ vs,KV kvs vs/\h.DictOf (zaD P w) a vs:=ziy ok (.inl e)
theorem ziq{ks:List Key}(ok:HOk P w H h)(e:H a=some (.tup (ks.map kV))):(tupleKind (zaD P w)).is h ks a:=by
 obtain⟨_,its,r,o,h1,h2,⟨n,h3⟩,_⟩:=(show zbg P w H h a (.tup (ks.map kV))from ok a _ e);exact⟨o,its.toArray,n,h1,h2,h3,by simpa using zir r⟩
theorem zjr{kvs:List (List Key×V)}(ok:HOk P w H h)(e:Rd H a (.dT kvs)):kvs.length<=sizeLine/\(a==sysModules)=false /\
  ∃ xs,KT H kvs xs/\h.DictOfH (tupleKind (zaD P w)) a xs:=by
 obtain⟨z,y,xs,r,o,es,ep,h1,h2,h3,h4,h5⟩:=(show zbg P w H h a (.dT kvs)from zqp ok e);refine⟨z,y,xs,r,o,es,ep,h1,h2,h3,h4,λx hx=>?_,h5⟩;have all:∀ {l:List (List Key×V)} {m:List (List Key×Addr×Value)},KT H l m->∀ x∈m,(tupleKind (zaD P w)).is h x.1 x.2.1:=by
  intro l m q;induction q with
  | nil=>intro x hx; exact nomatch hx
  | @cons p q ps qs hq t ih =>
   intro x hx;rcases List.mem_cons.mp hx with e | hx
   ·subst e;exact ziq ok (by rw[<- hq.1]; exact hq.2.1)
   ·exact ih x hx
 exact all r x hx
theorem zsW{kvs:List (List Key×V)}(ok:HOk P w H h)(e:H a=some (.dT kvs)):kvs.length<=sizeLine/\(a==sysModules)=false /\
  ∃ xs,KT H kvs xs/\h.DictOfH (tupleKind (zaD P w)) a xs:=zjr ok (.inl e)
end
def zp1(H:Hp)(a:Addr)(y:V)(r:Option V):Prop :=
 (∃ kvs k,Rd H a (.dK kvs)/\y=kV k/\r=zi1 kvs k)∨∃ kvs k b,Rd H a (.dT kvs)/\y=.ref b/\H b=some (.tup (k.map kV))/\r=zi1 kvs k
def zr3(H:Hp)(a:Addr)(y v:V)(H':Hp):Prop :=
 (∃ kvs k,H a=some (.dK kvs)/\y=kV k/\kvs.length < sizeLine/\H'=upd H a (.dK (zjS kvs k v))) ∨
 ∃ kvs k b,H a=some (.dT kvs)/\y=.ref b/\H b=some (.tup (k.map kV))/\kvs.length < sizeLine/\H'=upd H a (.dT (zjS kvs k v))
theorem zr3.k{H:Hp}{a:Addr}{kvs:List (Key×V)}{k:Key}{v:V}(e:H a=some (.dK kvs))(hl:kvs.length < sizeLine):zr3 H a (kV k) v (upd H a (.dK (zjS kvs k v))):=.inl ⟨kvs,k,e,rfl,hl,rfl⟩
section
variable {X:Cx}{pins:List (Addr×Obj)}{σ:St}{H:Hp}{s:Shared}{a:Addr}{y v:V}{u r:Value}{o:Option V}{A:Around}{E:Value->Shared->Prop}
theorem Inv.big(I:Inv X pins σ H s):sysModules < s.heap.objs.size:=by
 have h:mainGlobals < s.heap.objs.size:=(I.mod.glob.keeps I.bk).lt;exact Nat.lt_trans (by decide) h
theorem zmH{Q:Value->Shared->Prop}(hu:A.units+1 < cLine)(I:Inv X pins σ H s)(g:zp1 H a y (some v))(ry:zaR y u)(h:∀ w' s',Inv X pins σ H s'->zaR v w'->Q w' s') :
  wpAny (model X.prog X.w) A (getItem (.ref a) u) Q E s:=by
 rcases g with ⟨kvs,k,e,ey,l⟩ | ⟨kvs,k,b,e,ey,eb,l⟩
 ·subst ey;obtain⟨z,hd,vs,rel,dd⟩:=ziy I.hok e;obtain⟨w',hw,rw'⟩:=zg3.some_of (v:=v) (o:=valueAt vs k) (by rw[l]; exact rel.val k);exact wpAny_getItem_of (zmj ry) dd.mapOf hw (h w' _ (I.tok _) rw')
 ·subst ey;cases (show u=Value.ref b from ry)
  obtain⟨z,hd,xs,rel,dd⟩:=zjr I.hok e;obtain⟨w',hw,rw'⟩:=zg3.some_of (v:=v) (o:=(atKey xs k).map (·.2)) (by rw[l]; exact rel.val k);obtain⟨p,hp,hp2⟩:=Option.map_eq_some_iff.mp hw;refine wpAny_getItem_heap (tupleKind_room_in1 hu) (ziq I.hok eb) dd hp ?_;rw[hp2];exact h w' _ (I.tok _) rw'
theorem ztP{Q:Value->Shared->Prop}(hu:A.units+1 < cLine)(I:Inv X pins σ H s)(g:zp1 H a y o)(ry:zaR y u)(h:∀ s',Inv X pins σ H s'->Q (.bool o.isSome) s') :
  wpAny (model X.prog X.w) A (compareOp .In u (.ref a)) Q E s:=by
 rcases g with ⟨kvs,k,e,ey,l⟩ | ⟨kvs,k,b,e,ey,eb,l⟩
 ·subst ey;obtain⟨z,hd,vs,rel,dd⟩:=ziy I.hok e;refine wpAny_in_of (zmj ry) hd dd.mapOf ?_;rw[<- (rel.val k).isSome_eq,<- l];exact h _ (I.tok _)
 ·subst ey;cases (show u=Value.ref b from ry)
  obtain⟨z,hd,xs,rel,dd⟩:=zjr I.hok e;refine wpAny_in_heap (tupleKind_room_in1 hu) (ziq I.hok eb) hd dd ?_;have q:=(rel.val k).isSome_eq;rw[Option.isSome_map]at q;rw[<- q,<- l];exact h _ (I.tok _)
theorem zjv{h':Heap}{t':Nat}{ob:HO}(I:Inv X pins σ H s)(mu:Mut (H a))(hs:Heap.SameBut a s.heap h')(he:∃ q,h'.get? a=some q)(new:zbg X.prog X.w (upd H a ob) h' a ob) :
  Inv X pins σ (upd H a ob) { s with heap:=h',toks:=t' } :=
 I.write (x:=a) (e:=a) mu (.inl rfl) (λb q hb z=>(hs.2 b hb).trans z) he new
theorem zrF{P:Program}{w:World}{H':Hp}{h':Heap}{kvs:List (Key×V)}{vs:List (Key×Value)}(z:kvs.length<=sizeLine)(hd:(a==sysModules)=false)(rel:KV kvs vs)(dd:h'.DictOf (zaD P w) a vs) :
  zbg P w H' h' a (.dK kvs):=⟨z,hd,vs,rel,dd⟩
theorem zmG{H':Hp}{Q:Unit->Shared->Prop}(hu:A.units+1 < cLine)(I:Inv X pins σ H s)(g:zr3 H a y v H')(ry:zaR y u)(rv:zaR v r)(h:∀ s',Inv X pins σ H' s'->Q () s') :
  wpAny (model X.prog X.w) A (setItem (.ref a) u r) Q E s:=by
 rcases g with ⟨kvs,k,e,ey,l,eH⟩ | ⟨kvs,k,b,e,ey,eb,l,eH⟩
 ·subst ey eH;obtain⟨z,hd,vs,rel,dd⟩:=zkS I.hok e;have hz:vs.length<=sizeLine:=by rw[<- rel.length]; exact z
  have hl:(zjS kvs k v).length<=sizeLine:=by have:=zf6 kvs k v; lia
  refine wpAny_setItem_pairs (hsz:=hz) (zmj ry) dd λh' dd' hs=>h _ ?_;have he:∃ q,h'.get? a=some q:=let ⟨q,_,_,hq,_⟩:=dd'; ⟨q,hq⟩;exact zjv I (by rw[e]; exact True.intro) hs he (zrF hl hd (rel.put k rv) dd')
 ·subst ey eH;cases (show u=Value.ref b from ry)
  obtain⟨z,hd,xs,rel,dd⟩:=zsW I.hok e;have hz:xs.length<=sizeLine:=by rw[<- Paired.length rel]; exact z
  have hl:(zjS kvs k v).length<=sizeLine:=by have:=zf6 kvs k v; lia
  refine wpAny_setItem_heap (hsz:=hz) (tupleKind_room_in1 hu) (ziq I.hok eb) dd λh' dd' hs=>h _ ?_;obtain⟨q,es,ep,hq,h2,h3,h4,_,h5⟩:=dd';refine zjv I (by rw[e]; exact True.intro) hs ⟨q,hq⟩ ⟨hl,hd,_,(rel.put k eb rv).keeps λc ys ec=>?_,q,es,ep,hq,h2,h3,h4,h5⟩;rw[zal (zsN ec e (λz=>nomatch z))];exact ec
end
section
variable {X:Cx}{pins:List (Addr×Obj)}{σ:St}{H:Hp}{s:Shared}{a:Addr}{kvs:List (Key×V)}{k:Key}{u:Value}{A:Around}{E:Value->Shared->Prop}
theorem zsX{Q:Value->Shared->Prop}(I:Inv X pins σ H s)(e:Rd H a (.dK kvs))(h:∀ t s',Inv X pins σ H s'->Q (.int kvs.length t) s'):wpAny (model X.prog X.w) A (call (.builtin "len") [.ref a]) Q E s:=by
 obtain⟨z,hd,vs,rel,dd⟩:=ziy I.hok e;refine call_len_dict hd dd (by rw[<- rel.length]; rw[sizeLine_eq]at z; lia) ?_;rw[<- rel.length];exact h _ _ (I.tok _)
end
theorem zjt{X:Cx}{pins:List (Addr×Obj)}{σ:St}{H:Hp}{s:Shared}{a:Addr}{y:V}{o:Option V}(I:Inv X pins σ H s)(g:zp1 H a y o):s.TypeIs (.ref a) "dict":=by
 rcases g with ⟨kvs,k,e,_,_⟩ | ⟨kvs,k,b,e,_,_,_⟩
 ·obtain⟨_,_,vs,_,dd⟩:=ziy I.hok e;exact dd.typeIs
 ·obtain⟨_,_,xs,_,dd⟩:=zjr I.hok e;exact dd.typeIs
theorem zju{X:Cx}{pins:List (Addr×Obj)}{σ:St}{H:Hp}{s:Shared}{a:Addr}{y:V}{o:Option V}(I:Inv X pins σ H s)(g:zp1 H a y o) :
  ∀ b,Value.ref a=.ref b->∃ ob,s.heap.get? b=some ob/\ob.dict=none:=λb q=>by
 cases q
 rcases g with ⟨kvs,k,e,_,_⟩ | ⟨kvs,k,b,e,_,_,_⟩
 ·obtain⟨_,_,vs,_,ob,_,_,h1,h2,_⟩:=ziy I.hok e
  exact⟨ob,h1,h2.2.1⟩
 ·obtain⟨_,_,xs,_,ob,_,_,h1,h2,_⟩:=zjr I.hok e
  exact⟨ob,h1,h2.2.1⟩
section
variable {X:Cx}{o i e value:Expr}{pos pos' tpos:Pos}{td ty tv:TE}
end
theorem zn2{P:Program}{w:World}{H:Hp}(h:Heap)(hb:sysModules < h.objs.size):zbg P w H (h.push { cls:=.type "dict",data:=.dict #[] }) h.objs.size (.dK []) :=
 ⟨Nat.zero_le _,beq_eq_false_iff_ne.mpr (Ne.symm (nNl hb)),[],.nil,Heap.DictOf.new h⟩
def zqc:TE:=λ_ H Q=>∀ p,H p=none->Q (.ref p) (upd H p (.dK []))
section
variable {X:Cx}{pos:Pos}
theorem znx:PE X (.Dict [] [] pos) zqc:=λpins s σ H Q I h =>
 wpAny_Dict_empty ⟨.ref s.heap.objs.size,_,I.laid (a:=s.heap.objs.size) (o:=.dK []) (t':=s.toks) (λ_ _ q=>hPs _ q) (nLr _) (zn2 s.heap I.big),rfl,h _ (I.hok.fresh (nLr _))⟩
end
structure M1(X:Cx)(o:Expr)(m:Str)(apos:Pos)(e:Expr)(cpos:Pos):Prop where
 base:attributeBase o m X.env (eval o X.env)=eval o X.env
 few:((backTo cpos (starEach [e] X.env)).all (λx=>!x.1)&&(backToKw cpos (keywordEach [] X.env)).all (λx=>x.1.isSome)
  && decide (([e]:List Expr).length+([]:List Keyword).length+(if ([]:List Keyword).isEmpty then 0 else 1) < 30))=true
 line:(apos.endLine==cpos.line)=true
 trees:backTo cpos (starEach [e] X.env)=[(false,eval e X.env)]
structure M2(X:Cx)(o:Expr)(m:Str)(apos:Pos)(e f:Expr)(cpos:Pos):Prop where
 base:attributeBase o m X.env (eval o X.env)=eval o X.env
 few:((backTo cpos (starEach [e,f] X.env)).all (λx=>!x.1)&&(backToKw cpos (keywordEach [] X.env)).all (λx=>x.1.isSome)
  && decide (([e,f]:List Expr).length+([]:List Keyword).length+(if ([]:List Keyword).isEmpty then 0 else 1) < 30))=true
 line:(apos.endLine==cpos.line)=true
 trees:backTo cpos (starEach [e,f] X.env)=[(false,eval e X.env),(false,eval f X.env)]
def IsD(H:Hp)(a:Addr):Prop:=(∃ kvs,Rd H a (.dK kvs))∨∃ kvs,Rd H a (.dT kvs)
theorem zop{X:Cx}{pins:List (Addr×Obj)}{σ:St}{H:Hp}{s:Shared}{a:Addr}(I:Inv X pins σ H s)(d:IsD H a) :
  s.TypeIs (.ref a) "dict"/\(∀ b,Value.ref a=.ref b->∃ ob,s.heap.get? b=some ob/\ob.dict=none)/\(a==sysModules)=false:=by
 rcases d with ⟨kvs,e⟩ | ⟨kvs,e⟩
 ·obtain⟨_,hd,vs,_,dd⟩:=ziy I.hok e;refine⟨dd.typeIs,λb q=>?_,hd⟩;cases q
  obtain⟨ob,_,_,h1,h2,_⟩:=dd;exact⟨ob,h1,h2.2.1⟩
 ·obtain⟨_,hd,xs,_,dd⟩:=zjr I.hok e;refine⟨dd.typeIs,λb q=>?_,hd⟩;cases q
  obtain⟨ob,_,_,h1,h2,_⟩:=dd;exact⟨ob,h1,h2.2.1⟩
section
variable {X:Cx}{pins:List (Addr×Obj)}{σ:St}{H:Hp}{s:Shared}{a:Addr}{y d:V}{u r:Value}{o:Option V}{A:Around}{E:Value->Shared->Prop}
theorem zrI{Q:Value->Shared->Prop}(hu:A.units+1 < cLine)(I:Inv X pins σ H s)(g:zp1 H a y o)(ry:zaR y u)(rd:zaR d r)(h:∀ w' s',Inv X pins σ H s'->zaR (o.getD d) w'->Q w' s') :
  wpAny (model X.prog X.w) A (call (.builtin "dict.get") [.ref a,u,r]) Q E s:=by
 rcases g with ⟨kvs,k,e,ey,l⟩ | ⟨kvs,k,b,e,ey,eb,l⟩
 ·subst ey;obtain⟨z,hd,vs,rel,dd⟩:=ziy I.hok e;refine call_meetsIn PySem.F.slot_dict_get dd.typeIs PySem.F.entry_dict_get (PySem.F.args_dict_get_3 _ _ _) (meets_dict_get_default (zaD X.prog X.w) a (zmj ry) hd r) ⟨_,dd.mapOf,h _ _ (I.tok _) ?_⟩;rw[l];exact(rel.val k).getD rd
 ·subst ey;cases (show u=Value.ref b from ry)
  obtain⟨z,hd,xs,rel,dd⟩:=zjr I.hok e;refine call_meetsIn PySem.F.slot_dict_get dd.typeIs PySem.F.entry_dict_get (PySem.F.args_dict_get_3 _ _ _) (meetsH_dict_get_default (tupleKind (zaD X.prog X.w)) a b hd r) ⟨tupleKind_room_in1 hu,k,xs,ziq I.hok eb,dd,h _ _ (I.tok _) ?_⟩;rw[l];exact(rel.val k).getD rd
end
section
variable {X:Cx}{o e f:Expr}{apos cpos:Pos}{td ty tx:TE}
end
section
variable {X:Cx}{pins:List (Addr×Obj)}{σ:St}{H:Hp}{s:Shared}{a:Addr}{kvs:List (Key×V)}{A:Around}{E:Value->Shared->Prop}
end
section
variable {X:Cx}{pins:List (Addr×Obj)}{σ:St}{H:Hp}{s:Shared}{a:Addr}{y:V}{u:Value}{A:Around}{E:Value->Shared->Prop}
end
end L2
namespace Att
open PySem PySem.W PySem.Calls PyProof.Rows
theorem zgb{P:Params}{h:Heap}:∀ (ns:List Int) (vs:List Value),WellAll P h vs (ns.map WData.int)->IntsAre vs ns:=by
 intro ns;induction ns with
 | nil =>
  intro vs w;rw[List.map_nil]at w;cases w
  exact .nil
 | cons n ns ih =>
  intro vs w;rw[List.map_cons]at w;cases w with
  | cons a b =>
   cases a
   exact .cons _ _ (ih _ b)
theorem zlv{l:OpenLaw}{n:Nat}(hn:l.most=some n){P:Params}{h:Heap}{args:List WData}{vals:List Value}
  (hpre:l.row.toRowW.claim.pre args=true) (hwl:WellAll P h vals args) :
  ∃ a vs ns,vals=[Value.ref a]/\args=[WData.list (ns.map WData.int)]/\h.get? a=some { cls:=.type "list",data:=.seq vs.toArray }/\IntsAre vs ns/\ns.length<=n:=by
 have hsh:WShape.hasAll [] args [.list .int]=true:=(pre_splitW hpre).1;have hc:l.pre.holds [] { args:=args }=true:=(pre_splitW hpre).2;obtain⟨d,r,rfl,h1,h2⟩:=hasAllW_cons hsh;obtain rfl:=hasAllW_nil h2;obtain⟨xs,rfl,h3⟩:=hasW_list h1;obtain⟨ns,rfl⟩:=items_int h3;have hlen:ns.length<=n:=by
  unfold OpenLaw.pre at hc;have h4:(WTm.not (.lt (.lit (.int (n:Int))) (.len (.arg 0)))).holds [] { args:=[.list (ns.map .int)] }=true:=by
   have h4:=(holds_andW hc).1;rw[hn]at h4;exact h4
  have h5:=condW_of h4 (w_not (w_lt w_lit (w_len_list (w_arg rfl))));rw[List.length_map]at h5;refine Nat.le_of_not_lt λq=>?_;have q':(n:Int) < ((ns.length:Nat):Int):=by lia
  first
   | (rw[decide_eq_true q']at h5; exact absurd h5 (by decide))
   | (simp at h5; lia)
 cases hwl with
 | cons w1 w2 =>
  cases w2
  cases w1 with
  | list ho hall=>exact⟨_,_,ns,rfl,rfl,ho,zgb ns _ hall,hlen⟩
theorem zlJ(l:OpenLaw)(args:List WData):l.row.toRowW.claim.post args (.bool true) args=true :=
 postW_of (r:=l.row.toRowW) (X:=(true==true))
  (show WShape.has [] (.bool true) .bool=true by first | rfl | decide | simp[WShape.has,WShape.arms,WShape.armsAll])
  (show(WTm.eq .res (.lit (.bool true))).value [] { args:=args,res:=some (.bool true),after:=args }=some (.bool (true==true))from w_eq_bool (w_res rfl) w_lit) rfl
theorem attach_call{l:OpenLaw}{n:Nat}{q:Program}{loose:List Str}{XP:(Str->Option Value)->Heap->Prop}{YP:World->Heap->Prop}{d:DefRec}
  (hn:l.most=some n) (hdf:d.params.defaults=[])
  (call:∀ (w:World) (s₀ s₁:Shared) (mg mb:Str->Option Value) (fa:Addr) (o:Obj) (pm cd doc:Value) (a:Addr) (vs:List Value) (ns:List Int),
   Ground q loose [] XP w s₀ mg mb s₁.heap->YP w s₁.heap ->
   s₁.heap.get? fa=some o->o.data=.func (docDef d.name d.params d.body d.scope pm cd doc)->s₁.heap.CodeRec cd d.name->mg d.name=some (.ref fa) ->
   s₁.heap.get? a=some { cls:=.type "list",data:=.seq vs.toArray }->IntsAre vs ns->ns.length<=n->s₁.gens=#[] ->
   codeAny (model l.prog w) callerA (.call (.ref fa) ⟨[.ref a],[]⟩) (λr s'=>r=.ok (.ret (.bool true))/\OldK s₁.heap s'.heap/\s'.os=s₁.os/\AllBare s'.gens) s₁) :
  WalkO q loose XP YP l.row.toRowW d [] (λf vs=>PySem.call f vs):=by
 intro w s₀ s₁ mg mb G Y fa o pm cd doc dV kV ho hd hcd hD hmg hg args vals as hpre hlay hrd hwl hlo;obtain rfl:dV=.none:=Dflts.none hD hdf;obtain rfl:kV=.none:=Dflts.noKw hD;obtain⟨a,vs,ns,rfl,rfl,hobj,hints,hlen⟩:=zlv hn hpre hwl;refine enter_call (codeAny_mono (call w s₀ s₁ mg mb fa o pm cd doc a vs ns G Y ho (fd_plain hd) hcd hmg hobj hints hlen hg) λr s' hq=>?_);obtain⟨rfl,h2,h3,h4⟩:=hq;exact⟨.inl ⟨.bool true,.bool true,[],rfl,λ_=>rfl,.bool true,zlJ l _,λ_=>⟨List.Pairwise.nil,λ_ hm=>(nomatch hm)⟩⟩,h2,h3,h4⟩
section
variable {prog:Program}{w:World}{A:Around}{E:Value->Shared->Prop}{s:Shared}{K:Frag}
end
end Att
namespace L2
open PySem PySem.Spec PyProof.Rows
theorem zfK:∀ {vs:List Value} {ns:List Int},IntsAre vs ns->zaF (ns.map V.int) vs
 | _,_,.nil=>.nil
 | _,_,.cons n t h=>.cons ⟨t,rfl⟩ (zfK h)
def zau(s:Stmt)(j:Nat):Stmt:=match s with
 | .ClassDef _ _ _ body _ _ _ _ _ _ _=>body.getD j (.Pass ⟨0,0,0,0⟩)
 | _=>.Pass ⟨0,0,0,0⟩
noncomputable def zeX(s:Stmt):Arguments:=match s with
 | .FunctionDef _ a _ _ _ _ _ _ _ _=>a
 | _=>{ posonlyargs:=[],args:=[],vararg:=none,kwonlyargs:=[],kw_defaults:=[],kwarg:=none,defaults:=[] }
noncomputable def zcG(s:Stmt):List Stmt:=match s with
 | .FunctionDef _ _ b _ _ _ _ _ _ _=>b
 | _=>[]
noncomputable def zac(s:Stmt):Scope:=match s with
 | .FunctionDef _ _ _ _ _ _ sc _ _ _=>sc
 | _=>{ kind:=.function,names:=[],isGenerator:=false,isCoroutine:=false }
abbrev CX0:CXT:=λ_ _ _ _ _ _=>False
abbrev E0:XK:=λ_ _ _=>False
theorem zlO{X:Cx}:zfb CX0 X E0:=λ_ _ _ _ _ _ _ h=>h.elim
structure Fun(K:W.Frag)(x qual:Str)(st:Stmt)(f:Addr)(fd:FuncData):Prop where
 ex:∃ (oc:Value) (od:Option Addr) (kV doc pm:Value) (an:Option Addr) (cdv ct:Value) (osl:Array (Option Value)),
  fd=W.fnOf x qual (zeX st) (zcG st) (zac st) .none kV doc pm an cdv ct/\K.lookup f=some ⟨oc,od,.func fd,osl⟩/\W.codeIn K cdv qual=true
 kp:W.keepIn K (.ref f)=true
section
variable {P:Program}{w:World}{K:W.Frag}{mg:Str->Option Value}{base:Heap}
theorem Fun.ok{x qual:Str}{st:Stmt}{f:Addr}{fd:FuncData}{N ps:List Str}{k:Nat}{sp:Sp}(F:Fun K x qual st f fd)(S:FnScope N ps (zac st))(len:∀ vs H Q E,sp vs H Q E->vs.length=ps.length)
  (hbody:∀ (cdv:Value) (A:Around) (outer:List Env) (s:Shared) (H:Hp) (vs:List V) (Q:VK) (E:XK),Room k (A.deeper (envOfC qual (zac st) s.heap.objs.size f cdv))->sp vs H Q E ->
   ∃ t,PSs (zos CX0 P w K mg base N qual (zac st) f cdv A outer s H E).nox (zcG st) t/\t { nx:=λ_ H'=>Q .non H',rt:=Q } (start N vs) H):FnOk P w K mg base CX0 (k+1) f fd ps sp:=by
 obtain⟨oc,od,kV,doc,pm,an,cdv,ct,osl,rfl,lk,hcd⟩:=F.ex;refine zry lk hcd S len λA outer s H vs Q E hr hsp=>?_;obtain⟨t,h,q⟩:=hbody cdv A outer s H vs Q E hr hsp;exact⟨t,h.nox,q⟩
theorem Fun.binds{x qual:Str}{st:Stmt}{f:Addr}{fd:FuncData}{ps:List Str}(F:Fun K x qual st f fd)
  (h:∀ (kV doc pm:Value) (an:Option Addr) (cdv ct:Value) (us:List Value),us.length=ps.length->bindArgs (W.fnOf x qual (zeX st) (zcG st) (zac st) .none kV doc pm an cdv ct) ⟨us,[]⟩=pure (ps.zip us)):zcU K fd ps []:=by
 obtain⟨oc,od,kV,doc,pm,an,cdv,ct,osl,rfl,lk,hcd⟩:=F.ex;exact .all (h kV doc pm an cdv ct)
theorem fun_mk{x qual:Str}{st:Stmt}{f:Addr}{oc:Value}{od an:Option Addr}{osl:Array (Option Value)}{kV doc pm cdv ct:Value}(l:K.lookup f=some ⟨oc,od,.func (W.fnOf x qual (zeX st) (zcG st) (zac st) .none kV doc pm an cdv ct),osl⟩)
  (c:W.codeIn K cdv qual=true) (k:W.keepIn K (.ref f)=true):Fun K x qual st f (W.fnOf x qual (zeX st) (zcG st) (zac st) .none kV doc pm an cdv ct):=⟨⟨oc,od,kV,doc,pm,an,cdv,ct,osl,rfl,l,c⟩,k⟩
end
theorem znT{A:Around}{k:Nat}(hr:Room k A):A.units+1 < cLine:=Nat.lt_of_le_of_lt (Nat.add_le_add_left (by decide:1<=64) _) hr.units
theorem zhX{n:Nat}(h:n<=1000):n < sizeLine:=Nat.lt_of_le_of_lt h (by decide)
section
variable {X:Cx}
theorem zmR:zci X (.builtin "len") (λxs H Q=>∃ a kvs,xs=[V.ref a]/\H a=some (.dK kvs)/\Q (.int kvs.length) H):=by
 intro pins s σ H xs us Q I r h;obtain⟨a,kvs,rfl,ha,q⟩:=h;obtain⟨u,rfl,ru⟩:=zg6 r;cases ru
 exact zsX I (.inl ha) λt s' I'=>⟨.int kvs.length,H,I',⟨t,rfl⟩,q⟩
end
section
variable {κ:Type} [DecidableEq κ]
end
end L2
set_option maxHeartbeats 4000000
namespace L2
open PySem PySem.Spec PyProof.Rows
inductive A0 where
 | non | int (i:Int) | str (x:Str)
 deriving DecidableEq
inductive A1 where
 | at (a:A0) | tup (l:List A0)
 deriving DecidableEq
noncomputable abbrev LK:=List A1
def A0.val:A0->Value->Prop
 | .non,v=>v=.none
 | .int i,v=>∃ t,v=.int i t
 | .str x,v=>∃ t,v=.str x t
def zch(h:Heap)(a:Addr)(items:Array Value):Prop:=∃ o n,h.get? a=some o/\o.cls=.type "tuple"/\o.data=.seq items n
def A1.val(h:Heap):A1->Value->Prop
 | .at a,v=>a.val v
 | .tup l,v=>∃ b items,v=.ref b/\zch h b items/\Paired A0.val l items.toList
def zjl(h:Heap)(k:LK)(a:Addr):Prop:=∃ items,zch h a items/\Paired (A1.val h) k items.toList
theorem A0.inj{x y:A0}{v:Value}(h:x.val v)(h':y.val v):x=y:=by
 cases x<;>cases y<;>simp only[A0.val]at h h'
 all_goals first
  | rfl
  | (subst h; obtain⟨t,e⟩:=h'; cases e; done)
  | (subst h'; obtain⟨t,e⟩:=h; cases e; done)
  | (obtain⟨t,e⟩:=h; obtain⟨t',e'⟩:=h'; subst e; cases e'; first | rfl | done)
theorem Paired.injL{α β:Type}{F:α->β->Prop}(i:∀ x y v,F x v->F y v->x=y):∀ {l l':List α} {r:List β},Paired F l r->Paired F l' r->l=l'
 | _,_,_,.nil,.nil=>rfl
 | _,_,_,.cons a b,.cons c d=>by rw[i _ _ _ a c,Paired.injL i b d]
theorem zch.inj{h:Heap}{a:Addr}{i j:Array Value}(x:zch h a i)(y:zch h a j):i=j:=by
 obtain⟨o,n,e,_,d⟩:=x;obtain⟨o',n',e',_,d'⟩:=y;rw[e]at e'; cases e';rw[d]at d'; injection d'
theorem A1.inj{h:Heap}{x y:A1}{v:Value}(p:x.val h v)(q:y.val h v):x=y:=by
 cases x with
 | «at» a =>
  cases y with
  | «at» b=>exact congrArg A1.at (A0.inj p q)
  | tup l =>
   obtain⟨b,items,rfl,_⟩:=q;cases a<;>simp only[A1.val,A0.val]at p
   all_goals first | (obtain⟨t,e⟩:=p; cases e; done) | (cases p; done)
 | tup l =>
  obtain⟨b,items,rfl,t,r⟩:=p;cases y with
  | «at» a =>
   cases a<;>simp only[A1.val,A0.val]at q
   all_goals first | (obtain⟨t,e⟩:=q; cases e; done) | (cases q; done)
  | tup l' =>
   obtain⟨b',items',e,t',r'⟩:=q;cases e
   have:=t.inj t';subst this;exact congrArg A1.tup (Paired.injL (F:=A0.val) (λ_ _ _=>A0.inj) r r')
theorem zjl.inj{h:Heap}{a:Addr}{x y:LK}(p:zjl h x a)(q:zjl h y a):x=y:=by
 obtain⟨i,t,r⟩:=p;obtain⟨j,t',r'⟩:=q;have:=t.inj t';subst this;exact Paired.injL (F:=A1.val h) (λ_ _ _=>A1.inj) r r'
theorem zch.keeps{h h':Heap}{a d:Addr}{items:Array Value}{o:Obj}{es ep}(x:zch h a items)(ho:h.get? d=some o)(hd:o.data=.dict es ep)(hs:Heap.SameBut d h h'):zch h' a items:=by
 obtain⟨o',n,e,c,dd⟩:=x;refine⟨o',n,(hs.2 a ?_).trans e,c,dd⟩;rintro rfl;rw[e]at ho; cases ho;rw[dd]at hd; cases hd
theorem zjl.keeps{h h':Heap}{k:LK}{a d:Addr}{o:Obj}{es ep}(x:zjl h k a)(ho:h.get? d=some o)(hd:o.data=.dict es ep)(hs:Heap.SameBut d h h'):zjl h' k a:=by
 obtain⟨i,t,r⟩:=x;refine⟨i,t.keeps ho hd hs,Paired.mapP r λp v q=>?_⟩;cases p with
 | «at» a=>exact q
 | tup l =>
  obtain⟨b,items,rfl,t',r'⟩:=q;exact⟨b,items,rfl,t'.keeps ho hd hs,r'⟩
noncomputable def ziu(w:World):A0->Int
 | .non=>0xFCA86420
 | .int i=>hashInt i
 | .str x=>hashStr w x
noncomputable def zp8(l:List Int):Int:=reduceHash (Builtin.Tuple.tupleHashOf l)
noncomputable def zjo(w:World):A1->Int
 | .at a=>ziu w a
 | .tup l=>zp8 (l.map (ziu w))
noncomputable def zjs:A1->Nat
 | .at _=>1
 | .tup l=>l.length+1
section
variable {prog:Program}{w:World}{A:Around}{E:Value->Shared->Prop}{s:Shared}
theorem zi9{Q:Int->Shared->Prop}(h:Q 0xFCA86420 { s with toks:=s.toks+1 }):wpAny (model prog w) A (pyHash .none) Q E s:=by
 unfold pyHash
 first | unfold pyHashByItsType | skip
 have hv:[Value.none].any Value.onHeap=false:=rfl;refine wB ?_;rw[cRoomFor,if_neg (by rw[hv]; exact Bool.false_ne_true)]; refine wpAny_pure ?_;refine wB (wpAny_specialOf (typeIs_none s) F.slot_NoneType_hash.lookup ?_);show wpAny _ _ (if (some (Value.builtin "NoneType.__hash__")==some Value.none)=true then _ else _) Q E s;rw[if_neg (by rw[beq_builtin_none]; exact Bool.false_ne_true)];refine wB (wpAny_specialOf (typeIs_none s) F.slot_NoneType_hash.lookup ?_);show wpAny _ _ (callSpecialIfBoundUnlessNone? .none "__hash__" _ >>= _) Q E s;refine wB (wpAny_callSpecialIfBoundUnlessNone?_slot (typeIs_none s) F.slot_NoneType_hash
  (wpAny_call_entry F.slot_NoneType_hash (typeIs_none s) F.entry_NoneType_hash
   (show wpAny _ _ (do ret (<- mkInt 0xFCA86420)) _ _ s from wpAny_ret_mkInt ?_) (F.args_NoneType_hash_1 _)))
 exact wQ h
def zg4(prog:Program)(w:World)(u:Nat)(s:Shared)(v:Value)(n:Int)(d:Nat):Prop :=
 ∀ (A:Around) (E:Value->Shared->Prop) (tk:Nat) (Q:Int->Shared->Prop),A.units<=u->Q n { s with toks:=tk+d }->wpAny (model prog w) A (pyHash v) Q E { s with toks:=tk }
theorem zka{a:A0}{v:Value}{u:Nat}(h:a.val v):zg4 prog w u s v (ziu w a) 1:=by
 intro A E tk Q _ q;cases a with
 | non=>cases (show v=.none from h); exact zi9 (s:={ s with toks:=tk }) q
 | int i=>obtain⟨t,e⟩:=h; subst e; exact wpAny_pyHash_int (s:={ s with toks:=tk }) q
 | str x=>obtain⟨t,e⟩:=h; subst e; exact wpAny_pyHash_str (s:={ s with toks:=tk }) q
theorem zgQ{a:Addr}{items:Array Value}{hs:List (Int×Nat)}{u:Nat}{Q:Int->Shared->Prop}(hu:A.units < cLine)(hu1:A.units+1<=u)(ht:zch s.heap a items)
  (hi:Paired (λp v=>zg4 prog w u s v p.1 p.2) hs items.toList) (h:Q (zp8 (hs.map (·.1))) { s with toks:=s.toks+((hs.map (·.2)).sum+1) }):wpAny (model prog w) A (pyHash (.ref a)) Q E s:=by
 obtain⟨o,n,ho,hc,hd⟩:=ht;have hT:s.TypeIs (.ref a) "tuple":=⟨o,ho,hc⟩;unfold pyHash
 first | unfold pyHashByItsType | skip
 first | refine wB (wpAny_cRoomFor_or (.inr hu) ?_) | skip
 refine wB (wpAny_specialOf hT F.slot_tuple_hash.lookup ?_);show wpAny _ _ (if (some (Value.builtin "tuple.__hash__")==some Value.none)=true then _ else _) Q E s;rw[if_neg (by rw[beq_builtin_none]; exact Bool.false_ne_true)];refine wB (wpAny_specialOf hT F.slot_tuple_hash.lookup ?_);show wpAny _ _ (callSpecialIfBoundUnlessNone? (.ref a) "__hash__" _ >>= _) Q E s;refine wB (wpAny_callSpecialIfBoundUnlessNone?_slot hT F.slot_tuple_hash (wpAny_call_entry F.slot_tuple_hash hT F.entry_tuple_hash ?_ (F.args_tuple_hash_1 _)));show wpAny _ _ (Builtin.Tuple.tupleItemsOf (.ref a) >>= _) _ _ s;refine wB (wpAny_tupleItemsOf ho hd ?_);refine wB ?_;rw[<- Array.forIn_toList];refine wpAny_forIn_list _
  (λrest (b:Array Int) s'=>∃ done left,hs=done++left/\Paired (λp v=>zg4 prog w u s v p.1 p.2) left rest/\b.toList=done.map (·.1)/\s'={ s with toks:=s.toks+(done.map (·.2)).sum })
  _ ?_ ?_ _ _ ⟨[],hs,rfl,hi,rfl,rfl⟩
 ·rintro x rest b s' ⟨done,left,rfl,hl,hb,rfl⟩;cases hl with
  | @cons k _ ks' _ h1 hl' =>
   refine wB (h1 _ _ _ _ hu1 ?_)
   first
    | exact wpAny_pure ⟨done++[k],ks',by simp,hl',by simp[hb],by simp[Nat.add_assoc]⟩
    | exact wpAny_bind (wpAny_pure (wpAny_pure ⟨done++[k],ks',by simp,hl',by simp[hb],by simp[Nat.add_assoc]⟩))
 ·rintro b s' ⟨done,left,rfl,hl,hb,rfl⟩;cases hl
  rw[List.append_nil]at h;show wpAny _ _ (retInt (Builtin.Tuple.tupleHashOf b.toList)) _ _ _;rw[hb];refine wpAny_ret_mkInt ?_;show wpAny _ _ (if (decide (-(2:Int) ^ 63<=Builtin.Tuple.tupleHashOf (done.map (·.1)))&&decide (Builtin.Tuple.tupleHashOf (done.map (·.1)) < 2 ^ 63))=true then _ else _) Q E _;unfold zp8 reduceHash at h;by_cases hr:(decide (-(2:Int) ^ 63<=Builtin.Tuple.tupleHashOf (done.map (·.1)))&&decide (Builtin.Tuple.tupleHashOf (done.map (·.1)) < 2 ^ 63))=true
  ·rw[if_pos hr];rw[if_pos hr]at h;exact wpAny_pure (by simpa [Nat.add_assoc] using h)
  ·rw[if_neg hr];rw[if_neg hr]at h;exact wpAny_bind (wpAny_rule (wpAny_pure (by simpa [Nat.add_assoc] using h)))
theorem znV{a:A1}{v:Value}{u:Nat}(hu:u < cLine)(h:a.val s.heap v):zg4 prog w u s v (zjo w a) (zjs a):=by
 cases a with
 | «at» a=>exact zka h
 | tup l =>
  obtain⟨b,items,rfl,t,r⟩:=h;intro A E tk Q hA q;have hi:Paired (λ(p:Int×Nat) v=>zg4 prog w (A.units+1) { s with toks:=tk } v p.1 p.2) (l.map λa=>(ziu w a,1)) items.toList:=by
   generalize items.toList=vs at r;clear q t;induction r with
   | nil=>exact .nil
   | cons p _ ih=>exact .cons (zka p) ih
  refine zgQ (s:={ s with toks:=tk }) (u:=A.units+1) (Nat.lt_of_le_of_lt hA hu) (nLr _) t hi ?_;have e1:(l.map λa=>(ziu w a,1)).map (·.1)=l.map (ziu w):=by rw[List.map_map]; rfl
  have e2:((l.map λa=>(ziu w a,1)).map (·.2)).sum=l.length:=by
   clear hi r q;rw[List.map_map];have:∀ l:List A0,(l.map ((λx=>x.2)∘λa=>(ziu w a,1))).sum=l.length:=by
    intro l;induction l with
    | nil=>rfl
    | cons x l ih=>simp only[List.map_cons,List.sum_cons,List.length_cons,ih,Function.comp]; lia
   exact this l
  rw[e1,e2];exact q
theorem zrw{k:LK}{a:Addr}{Q:Int->Shared->Prop}(hu:A.units+4 < cLine)(hk:zjl s.heap k a)(h:Q (zp8 (k.map (zjo w))) { s with toks:=s.toks+((k.map zjs).sum+1) }):wpAny (model prog w) A (pyHash (.ref a)) Q E s:=by
 obtain⟨items,t,r⟩:=hk;have hi:Paired (λ(p:Int×Nat) v=>zg4 prog w (A.units+1) s v p.1 p.2) (k.map λa=>(zjo w a,zjs a)) items.toList:=by
  generalize items.toList=vs at r;clear h;induction r with
  | nil=>exact .nil
  | cons p _ ih=>exact .cons (znV (by lia) p) ih
 refine zgQ (u:=A.units+1) (by lia) (nLr _) t hi ?_;have e1:(k.map λa=>(zjo w a,zjs a)).map (·.1)=k.map (zjo w):=by rw[List.map_map]; rfl
 have e2:(k.map λa=>(zjo w a,zjs a)).map (·.2)=k.map zjs:=by rw[List.map_map]; rfl
 rw[e1,e2];exact h
noncomputable def A0.d:A0->PyData
 | .non=>.none
 | .int i=>.int i
 | .str x=>.str x
noncomputable def A1.d:A1->PyData
 | .at a=>a.d
 | .tup l=>.tuple (l.map A0.d)
noncomputable def dLK(k:LK):PyData:=.tuple (k.map A1.d)
noncomputable def A0.ok:A0->Bool
 | .str x=>PyData.strOk x
 | _=>true
noncomputable def A1.ok:A1->Bool
 | .at a=>a.ok
 | .tup l=>l.all A0.ok
noncomputable def zhO(k:LK):Bool:=k.all A1.ok
theorem ztc(x y:A0):PyData.eqv x.d y.d=decide (x=y):=by
 cases x<;>cases y<;>simp[A0.d,PyData.eqv,Bool.beq_eq_decide_eq]
theorem zmw:∀ (l r:List A0),PyData.eqvAll (l.map A0.d) (r.map A0.d)=decide (l=r)
 | [],[]=>by simp[PyData.eqvAll]
 | [],_::_=>by simp[PyData.eqvAll]
 | _::_,[]=>by simp[PyData.eqvAll]
 | x::l,y::r=>by
  simp only[List.map_cons,PyData.eqvAll,ztc,zmw l r]
  by_cases h1:x=y<;>by_cases h2:l=r<;>simp[h1,h2]
theorem ztN(x y:A1):PyData.eqv x.d y.d=decide (x=y):=by
 cases x with
 | «at» a =>
  cases y with
  | «at» b=>simp only[A1.d,ztc]; by_cases h:a=b<;>simp[h]
  | tup l=>cases a<;>simp[A1.d,A0.d,PyData.eqv]
 | tup l =>
  cases y with
  | «at» b=>cases b<;>simp[A1.d,A0.d,PyData.eqv]
  | tup r=>simp only[A1.d,PyData.eqv,zmw]; by_cases h:l=r<;>simp[h]
theorem zmv:∀ (l r:LK),PyData.eqvAll (l.map A1.d) (r.map A1.d)=decide (l=r)
 | [],[]=>by simp[PyData.eqvAll]
 | [],_::_=>by simp[PyData.eqvAll]
 | _::_,[]=>by simp[PyData.eqvAll]
 | x::l,y::r=>by
  simp only[List.map_cons,PyData.eqvAll,ztN,zmv l r]
  by_cases h1:x=y<;>by_cases h2:l=r<;>simp[h1,h2]
theorem zoe{h:Heap}{a:A0}{v:Value}(p:a.val v)(o:a.ok=true):Reads h v a.d []/\a.d.canLay0=true/\a.d.depth=0:=by
 cases a with
 | non=>cases (show v=.none from p); exact⟨.none,rfl,rfl⟩
 | int i=>obtain⟨t,e⟩:=p; subst e; exact⟨.int i t,rfl,rfl⟩
 | str x=>obtain⟨t,e⟩:=p; subst e; exact⟨.str x t,by simp only[A0.d,PyData.canLay0]; exact o,rfl⟩
theorem zh4{h:Heap}:∀ {l:List A0} {vs:List Value},Paired A0.val l vs->l.all A0.ok=true->ReadsAll h vs (l.map A0.d) []/\PyData.canLayAll0 (l.map A0.d)=true/\PyData.depthAll (l.map A0.d)=0
 | _,_,.nil,_=>⟨.nil,rfl,rfl⟩
 | x::l,_,.cons p r,o=>by
  rw[List.all_cons,Bool.and_eq_true]at o
  obtain⟨r1,c1,d1⟩:=zoe (h:=h) p o.1
  obtain⟨r2,c2,d2⟩:=zh4 (h:=h) r o.2
  exact⟨.cons r1 r2,by simp only[List.map_cons,PyData.canLayAll0,c1,c2,Bool.and_self],by simp only[List.map_cons,PyData.depthAll,d1,d2]; rfl⟩
theorem zqo{h:Heap}{a:A1}{v:Value}(p:a.val h v)(o:a.ok=true):Reads h v a.d []/\a.d.canLay0=true/\a.d.depth<=1:=by
 cases a with
 | «at» a =>
  obtain⟨r,c,d⟩:=zoe (h:=h) p o;exact⟨r,c,by show a.d.depth<=1; lia⟩
 | tup l =>
  obtain⟨b,items,rfl,⟨ob,n,e,c,d⟩,r⟩:=p;obtain⟨r1,c1,d1⟩:=zh4 (h:=h) r o;exact⟨.tuple e c d r1,by simpa only [A1.d,PyData.canLay0] using c1,by simp only[A1.d,PyData.depth,d1]; lia⟩
theorem zh3{h:Heap}:∀ {l:LK} {vs:List Value},Paired (A1.val h) l vs->l.all A1.ok=true->ReadsAll h vs (l.map A1.d) []/\PyData.canLayAll0 (l.map A1.d)=true/\PyData.depthAll (l.map A1.d)<=1
 | _,_,.nil,_=>⟨.nil,rfl,Nat.zero_le _⟩
 | x::l,_,.cons p r,o=>by
  rw[List.all_cons,Bool.and_eq_true]at o
  obtain⟨r1,c1,d1⟩:=zqo (h:=h) p o.1
  obtain⟨r2,c2,d2⟩:=zh3 (h:=h) r o.2
  exact⟨.cons r1 r2,by simp only[List.map_cons,PyData.canLayAll0,c1,c2,Bool.and_self],by simp only[List.map_cons,PyData.depthAll]; lia⟩
theorem zlz{h:Heap}{k:LK}{a:Addr}(p:zjl h k a)(o:zhO k=true):Reads h (.ref a) (dLK k) []/\(dLK k).canLay0=true/\(dLK k).depth<=2:=by
 obtain⟨items,⟨ob,n,e,c,d⟩,r⟩:=p;obtain⟨r1,c1,d1⟩:=zh3 (h:=h) r o;exact⟨.tuple e c d r1,by simpa only [dLK,PyData.canLay0] using c1,by simp only[dLK,PyData.depth]; lia⟩
theorem ztO{x y:LK}{a b:Addr}{Q:Bool->Shared->Prop}(hu:A.units+4 < cLine)(hx:zjl s.heap x a)(hy:zjl s.heap y b)(ox:zhO x=true)(oy:zhO y=true)(h:Q (decide (x=y)) s) :
  wpAny (model prog w) A (eqBool (.ref a) (.ref b)) Q E s:=by
 obtain⟨r1,c1,d1⟩:=zlz hx ox;obtain⟨r2,c2,d2⟩:=zlz hy oy;refine SeqAt.eqBoolOverData prog w A E s _ _ _ _ _ _ Q r1 r2 c1 c2 (by lia) ?_;show Q (PyData.eqvAll (x.map A1.d) (y.map A1.d)) s;rw[zmv];exact h
theorem zh5{n:Nat}{a:Addr}{items:Array Value}{Q:Bool->Shared->Prop}(ht:zch s.heap a items)(hi:∀ v∈items.toList,∀ Q':Bool->Shared->Prop,Q' true s->wpAny (model prog w) A (eqIsQuiet n v) Q' E s)(h:Q true s) :
  wpAny (model prog w) A (eqIsQuiet (n+1) (.ref a)) Q E s:=by
 obtain⟨o,k,ho,hc,hd⟩:=ht;have hT:s.TypeIs (.ref a) "tuple":=⟨o,ho,hc⟩;unfold eqIsQuiet;refine wB (wpAny_specialOf hT F.slot_tuple_eq.lookup ?_);show wpAny _ _ (isInstance (.ref a) (.type "tuple") >>= _) _ _ s;refine wB (wpAny_isInstance hT isSubtype_tuple_tuple ?_);simp only[Bool.not_true,Bool.false_eq_true,if_false];refine wB (wpAny_seqItems ho hd ?_);refine wB ?_;show wpAny _ _ (forIn items _ _) _ _ s;rw[<- Array.forIn_toList];refine wpAny_forIn_list _ (λrest r s'=>r.1=none/\s'=s/\∀ v∈rest,v∈items.toList) _ ?_ ?_ _ _ ⟨rfl,rfl,λv hv=>hv⟩
 ·rintro v rest r s' ⟨hr,rfl,hall⟩;refine wB (hi v (hall v List.mem_cons_self) _ ?_);simp only[Bool.not_true,Bool.false_eq_true,if_false];exact wQ ⟨rfl,rfl,λu hu'=>hall u (lMc _ hu')⟩
 ·rintro⟨r1,r2⟩ s' ⟨hr,rfl,_⟩;simp only at hr;subst hr;exact wQ h
theorem zof{n:Nat}{a:A0}{v:Value}{Q:Bool->Shared->Prop}(p:a.val v)(h:Q true s):wpAny (model prog w) A (eqIsQuiet n v) Q E s:=by
 have hv:carriedByValue v=true:=by
  cases a with
  | non=>cases (show v=.none from p); rfl
  | int i=>obtain⟨t,e⟩:=p; subst e; rfl
  | str x=>obtain⟨t,e⟩:=p; subst e; rfl
 rw[eqIsQuiet_byValue _ hv];exact wQ h
theorem Paired.memR{α β:Type}{F:α->β->Prop}:∀ {l:List α} {r:List β} {v:β},Paired F l r->v∈r->∃ x,F x v
 | _,_,_,.nil,h=>by simp at h
 | _,_,_,.cons p q,h=>by
  rcases List.mem_cons.mp h with e | h
  ·subst e; exact⟨_,p⟩
  ·exact Paired.memR q h
theorem zqt{n:Nat}{a:A1}{v:Value}{Q:Bool->Shared->Prop}(p:a.val s.heap v)(h:Q true s):wpAny (model prog w) A (eqIsQuiet (n+1) v) Q E s:=by
 cases a with
 | «at» a=>exact zof p h
 | tup l =>
  obtain⟨b,items,rfl,t,r⟩:=p;exact zh5 t (λv hv Q' q=>by obtain⟨x,hx⟩:=Paired.memR r hv; exact zof hx q) h
noncomputable def ze7(prog:Program)(w:World):HeapKind prog w LK where
 is:=λh k a=>zjl h k a/\zhO k=true
 hash:=λk=>zp8 (k.map (zjo w))
 draws:=λk=>(k.map zjs).sum+1
 room:=λA=>A.units+4 < cLine
 inj:=λx y=>x.1.inj y.1
 keeps:=λx ho hd hs=>⟨x.1.keeps ho hd hs,x.2⟩
 pyHash:=λhu hk h=>zrw hu hk.1 h
 eqBool:=λhu hx hy h=>ztO hu hx.1 hy.1 hx.2 hy.2 h
 quiet:=λhk h=>by
  obtain⟨⟨items,t,r⟩,_⟩:=hk
  exact zh5 t (λv hv Q' q=>by obtain⟨x,hx⟩:=Paired.memR r hv; exact zqt hx q) h
end
def zi4(P:Program)(w:World)(a:Addr)(xs:List (LK×Addr×Value))(h:Heap):Prop :=
 (a==sysModules)=false/\xs.length<=sizeLine/\(∀ x∈xs,zhO x.1=true)/\(xs.map (·.1)).Nodup/\∃ o es ep,h.get? a=some o/\o.ExactDict/\o.data=.dict es ep/\es.toList=xs.map (entryOfKey (ze7 P w))
theorem zng{P:Program}{w:World}{H:Hp}{h:Heap}{a:Addr}{xs:List (LK×Addr×Value)}(r:zi4 P w a xs h):zbg P w H h a (.ext (zi4 P w a xs)):=by
 obtain⟨h1,h2,h3,h4,o,es,ep,e,r⟩:=id r;exact⟨⟨h1,h2,h3,h4,o,es,ep,e,r⟩,⟨o,e⟩,λg1 g2 hu k=>(by obtain⟨q1,q2,q3,q4,o',es',ep',e',r'⟩:=hu; exact⟨q1,q2,q3,q4,o',es',ep',k _ e',r'⟩)⟩
def Raw(h:Heap)(d:Addr)(es:Array DictEntry)(ep:Nat):Prop:=∃ o,h.get? d=some o/\o.ExactDict/\o.data=.dict es ep
theorem Raw.ty{s:Shared}{d:Addr}{es:Array DictEntry}{ep:Nat}(r:Raw s.heap d es ep):s.TypeIs (.ref d) "dict":=let ⟨o,e,x,_⟩:=r; ⟨o,e,x.1⟩
theorem Raw.mv{h g:Heap}{d:Addr}{es:Array DictEntry}{ep:Nat}(r:Raw h d es ep)(k:∀ o,h.get? d=some o->g.get? d=some o):Raw g d es ep:=let ⟨o,e,x⟩:=r; ⟨o,k o e,x⟩
theorem Raw.lt{h:Heap}{d:Addr}{es:Array DictEntry}{ep:Nat}(r:Raw h d es ep):d < h.objs.size:=let ⟨_,e,_⟩:=r; hLz e
noncomputable abbrev kIt:String:="dict_keyiterator"
section
variable {prog:Program}{w:World}{A:Around}{E:Value->Shared->Prop}{s:Shared}{d it:Addr}{es:Array DictEntry}{ep i:Nat}
theorem zhk{Q:Value->Shared->Prop}(nd:(d==sysModules)=false)(r:Raw s.heap d es ep)
  (q:Q (.ref s.heap.objs.size) { s with heap:=s.heap.push { cls:=.type kIt,data:=.fields #[.ref d,.int 0 0,.int es.size 0,.int ep 0] } }):wpAny (model prog w) A (pyIter (.ref d)) Q E s:=by
 obtain⟨o,e1,e2,e3⟩:=id r;have ty:=r.ty;refine wpAny_pyIter_slot ty F.slot_dict_iter (wpAny_call_entry F.slot_dict_iter ty F.entry_dict_iter ?body (F.args_dict_iter_1 _));unfold Builtin.«dict.__iter__» Builtin.Dict.dictSlotNone;refine wB (wB (wpAny_notOrdered_dict ty (show wpAny _ _ (pure (Value.ref d)) _ _ s from wQ ?go)))
 change wpAny _ _ (Builtin.Dict.showsAll d >>= λ_=>_) _ _ s
 unfold Builtin.Dict.showsAll;rw[nd,if_neg Bool.false_ne_true];exact wpAny_bind (wpAny_pure (wpAny_bind (wpAny_dictEntries e1 e3 (wpAny_bind (wpAny_dictEpoch e1 e3 (wpAny_bind (wpAny_newObj_type (wpAny_pure ⟨_,rfl,kIt,_,⟨_,Heap.get?_push_size _ rfl,rfl⟩,F.slot_dict_keyiterator_next.lookup,by simpa [rawInt] using q⟩))))))))
theorem zfD{Q:Option Value->Shared->Prop}(ki:s.heap.IsKeyIter it d i es.size ep)(r:Raw s.heap d es ep)
  (there:∀ h' v,es[i]?.map (·.key)=some v->h'.IsKeyIter it d (i+1) es.size ep->Heap.SameBut it s.heap h'->Q (some v) { s with heap:=h' })
  (out:es.size<=i->∀ h',Heap.ExtBut it s.heap h'->Q none { s with heap:=h' }) (hh:A.handled=none):wpAny (model prog w) A (pyNext (.ref it)) Q E s:=by
 obtain⟨oi,a1,a2,a3⟩:=id ki;obtain⟨od,b1,b2,b3⟩:=id r;have ty:=ki.typeIs;unfold pyNext;refine wpAny_bind (wpAny_attempt (wpAny_callSpecial?_slot (name:=Str.ofString "__next__") ty F.slot_dict_keyiterator_next (wpAny_call_entry F.slot_dict_keyiterator_next ty F.entry_dict_keyiterator_next ?body (F.args_dict_keyiterator_next_1 _))));refine wB (wQ (wB (wB ?_)))
 first | refine wB (wpAny_typeNameOfWhole_keyiter ty (wQ ?_)) | refine wB (wpAny_typeNameOf_keyiter ty (wQ ?_))
 refine wB (wpAny_fieldsOf a1 a3 ?_);rw[show Builtin.Dict_items.ownsTuple kIt=false by decide,if_neg Bool.false_ne_true]
 change wpAny _ _ (if (Value.ref d==Value.none)=true then _ else _) _ _ s
 rw[if_neg (show ¬ ((Value.ref d==Value.none)=true)from Bool.false_ne_true)];refine wB (wQ (wB (wpAny_dictEntries b1 b3 ?_)));rw[if_neg (by simp)];refine wB (wQ (wB (wpAny_dictEpoch b1 b3 ?_)));rw[if_neg (by simp)];refine wQ ?_;have ni:¬ ((i:Int) < 0):=by lia
 by_cases lt:i < es.size
 ·simp only[ni,if_false,Int.toNat_natCast,Array.getElem?_eq_getElem lt];refine wB ?_
  first | refine wB (wpAny_typeNameOfWhole_keyiter ty (wQ ?_)) | refine wB (wpAny_typeNameOf_keyiter ty (wQ ?_))
  refine wB (wpAny_isOneOf_keyiter ty ?_)
  change wpAny _ _ (setField (.ref it) 1 (rawInt ((i:Int)+1)) >>= λ_=>_) _ _ s
  refine wpAny_bind (wpAny_setField a1 a3 (by simp) ?_);have ki':(s.heap.update it (Obj.mapFields (·.setIfInBounds 1 (rawInt ((i:Int)+1))))).IsKeyIter it d (i+1) es.size ep:=by
   refine⟨_,Heap.get?_update_self _ a1 (Obj.isFreed_of_fields (Obj.data_mapFields a3 _)),(Obj.cls_mapFields ..).trans a2,?_⟩;rw[Obj.data_mapFields a3]; simp[rawInt]
  refine wB (wpAny_holding (wB (wpAny_isOneOf_keyiter (s:={ s with heap:=s.heap.update it (Obj.mapFields (·.setIfInBounds 1 (rawInt ((i:Int)+1)))) }) ki'.typeIs ?_)))
  change wpAny _ _ (pure es[i].key) _ _ _
  exact wpAny_pure (wpAny_pure ⟨_,rfl,wpAny_pure (there _ _ (by simp[lt]) ki' (Heap.SameBut.update ..))⟩)
 ·have ge:es.size<=i:=by lia
  simp only[ni,if_false,Int.toNat_natCast,Array.getElem?_eq_none ge];refine wB ?_
  first | refine wB (wpAny_typeNameOfWhole_keyiter ty (wQ ?_)) | refine wB (wpAny_typeNameOf_keyiter ty (wQ ?_))
  change wpAny _ _ (setField (.ref it) 0 .none >>= λ_=>_) _ _ s
  refine wpAny_bind (wpAny_setField a1 a3 (by simp) ?_)
  change wpAny _ _ (newExc (.type "StopIteration") [] >>= λ_=>_) _ _ _
  simp only[newExc,newTuple,raiseNew];refine wpAny_bind (wpAny_bind (wpAny_newObj_type (wpAny_bind (m:=firstArgMember _ _) (wpAny_of_eq (a:=Value.none) (by first | rfl | (simp only[firstArgMember]; rfl)) (wpAny_newObj_type ?_ (by size_fits)))) (by size_fits)));refine wB (wpAny_handled ?_);rw[show A.in1.handled=none from hh];refine wB (wQ (wpAny_throw ?_));refine wpAny_bind (wpAny_isInstance (T:="StopIteration") (b:=true) ⟨_,Heap.get?_push_size _ rfl,rfl⟩ isSubtype_stop ?fin);exact wQ (out ge _ (((Heap.SameBut.update ..).extBut.push _).push _))
theorem zlB(hh:A.handled=none)(I d:Addr)(ne:d≠I)(es:Array DictEntry)(ep:Nat) :
  Walks prog w A I [I,d] [I] es.size (λi v=>es[i]?.map (·.key)=some v) (λi h=>h.IsKeyIter I d i es.size ep/\Raw h d es ep) where
 sub:=λb hb=>by rcases List.mem_singleton.mp hb with rfl; exact List.mem_cons_self
 frame:=λ_ _ _ st k=>⟨st.1.at λo e=>k I List.mem_cons_self o e,st.2.mv λo e=>k d (lMc _ List.mem_cons_self) o e⟩
 item:=λi s Q E lt st q=>zfD st.1 st.2 (λh' v ev ki sb=>q v h' s.toks ev ⟨ki,st.2.mv λo e=>(sb.2 d ne).trans e⟩ λb o nb e=>(sb.2 b λz=>nb (by rw[z]; exact List.mem_cons_self)).trans e) (λge=>absurd lt (by lia)) hh
 done:=λs Q E st q=>zfD st.1 st.2 (λh' v ev=>by rw[Array.getElem?_eq_none (Nat.le_refl _)]at ev; cases ev) (λ_ h' x=>q h' s.toks λb o nb e=>x b o (λz=>nb (by rw[z]; exact List.mem_cons_self)) e) hh
 self:=λ_ _ _ _ st q=>wpAny_pyIter_keyiter st.1 q
theorem zlC(nd:(d==sysModules)=false):W.KdlSrc prog w "dict" d d es.size (λi v=>es[i]?.map (·.key)=some v) (λh=>Raw h d es ep) where
 type:=λ_ r=>r.ty
 there:=λ_ r=>⟨r.lt,r.lt⟩
 keep:=λ_ _ r k=>r.mv λo e=>k d (.inl rfl) o e
 notList:=by decide
 notTuple:=by decide
 hint:=λ_ _ _ _ r q=>W.kdl_hint_dict r.ty q
 iter:=λ_ s hh r=>⟨_,_,(λ_ _ q=>zhk nd r q),zlB hh _ d (nNl r.lt) es ep,⟨⟨_,hPz _ rfl,rfl,rfl⟩,r.mv λo e=>hPs _ e⟩⟩
theorem zfM{T:String}{r:Addr}{n:Nat}{P:Nat->Value->Prop}{OK:Heap->Prop}{Q:List Value->Shared->Prop}(K:W.KdlSrc prog w T r d n P OK)(hh:A.handled=none)(ok:OK s.heap)(hn:n<=sizeLine)
  (q:∀ h' tk acc,(∀ b o,s.heap.get? b=some o->h'.get? b=some o)->ItemsOf P acc n->Q acc.toList { s with heap:=h',toks:=tk }):wpAny (model prog w) A (collect (.ref r)) Q E s:=by
 have key:∀ R:Result->Shared->Prop,(∀ h' tk acc c,(∀ b o,s.heap.get? b=some o->h'.get? b=some o)->h'.get? s.heap.objs.size=some { cls:=.type "list",dict:=none,data:=.seq acc c,slots:=#[] }->ItemsOf P acc n->R (.ok (.ret (.ref s.heap.objs.size))) { s with heap:=h',toks:=tk }) ->
   codeAny (model prog w) A (.builtin "proto.collect" ⟨[.ref r],[]⟩) R s:=by
  intro R hR;refine codeAny_builtin F.entry_proto_collect ?_;rw[Around.under_plainId F.plain_proto_collect _]
  change wpAny _ A.in1 (newList [] >>= λl=>again (.builtin "list.__iadd__" ⟨[l,.ref r],[]⟩)) _ _ s
  refine wB (wpAny_newObj_type (wQ ⟨plainId_quiet F.plain_list_iadd _,codeAny_builtin F.entry_list_iadd ?_⟩));rw[Around.under_plainId F.plain_list_iadd _]
  change wpAny _ A.in1 (Builtin.List.listExtendWith (.ref s.heap.objs.size) (.ref r) (.ref s.heap.objs.size)) _ _ _
  have lt:=K.there _ ok;exact W.kdl_extend (R:=R) (s:={ s with heap:=s.heap.push { cls:=.type "list",data:=.seq ([]:List Value).toArray } }) K hh (K.keep _ _ ok λb _ o e=>Heap.get?_push_of_some _ e) s.heap.objs.size (Nat.ne_of_gt lt.1) (Nat.ne_of_gt lt.2) (.ref s.heap.objs.size) 0 (Heap.get?_push_size _ rfl)
   (λh' tk acc c k e items=>hR h' tk acc c (λb o x=>k b o (nNl (hLz x)) (hPs _ x)) e items) hn
 unfold collect;refine wB (wpAny_runValue (key _ λh' tk acc c k e items=>?_))
 change wpAny _ A (load s.heap.objs.size >>= λ_=>_) _ _ _
 refine wB (wpAny_load e (wQ ?_));exact q h' tk acc k items
theorem zlr{T:String}{r:Addr}{n:Nat}{P:Nat->Value->Prop}{OK:Heap->Prop}(K:W.KdlSrc prog w T r d n P OK)(hn:n<=sizeLine) :
  MeetsIn prog w (Builtin.«tuple.__new__» ⟨[.type "tuple",.ref r],[]⟩) (λA R s=>A.handled=none/\OK s.heap/\∀ (h':Heap) (tk:Nat) (acc:Array Value),(∀ b o,s.heap.get? b=some o->h'.get? b=some o)->ItemsOf P acc n ->
   R (.ok (.ret (.ref h'.objs.size))) { s with heap:=h'.push { cls:=.type "tuple",data:=.seq acc },toks:=tk }) :=
 .of_wp λA R s hu=>by
  obtain⟨hh,ok,q⟩:=hu
  have f1:=sub_tuple_self
  have f2:=init_tuple_lookup
  have f3:=madeHere_tuple
  have ty:=K.type s ok
  have nt:=K.notTuple
  have hh1:A.in1.handled=none:=hh
  wp_walk using wpAny_typeOf ty,zfM (A:=A.in1) K hh1 ok hn
  intro h' tk acc k items
  change wpAny _ _ (Builtin.Tuple.tupleExact acc.toList.toArray >>= λv=>ret v) _ _ _
  unfold Builtin.Tuple.tupleExact
  rw[Array.toArray_toList]
  exact wpAny_bind (wpAny_newObj_type (wpAny_pure ⟨_,rfl,q h' tk acc k items⟩) (show acc.size<=sizeLine by rw[items.1]; exact hn))
end
section
variable {X:Cx}{pins:List (Addr×Obj)}{σ:St}{H:Hp}{s:Shared}{p:Addr}
theorem tupD{Q:VK}{es:Array DictEntry}{ep:Nat}{ks:List V}(hc:X.calm=true)(I:Inv X pins σ H s)(nd:(p==sysModules)=false)(r:Raw s.heap p es ep)(rk:zaF ks (es.toList.map (·.key)))(hn:es.size<=sizeLine)
  (q:∀ l,H l=none->Q (.ref l) (upd H l (.tup ks))):wpAny (model X.prog X.w) X.A (call (.type "tuple") [.ref p]) (EP X pins σ Q) X.xe s:=by
 refine callType_newIn F.called_tuple (by decide) (F.typeCall_tuple_1 _) (F.newCall_tuple_1 _) (λobj=>F.args_object_init_2 obj _) F.entry_tuple_new (zlr (zlC (ep:=ep) nd) hn) ⟨I.ok.hd hc,r,λh' tk acc k items=>⟨⟨_,hPz _ rfl,rfl⟩,?_⟩⟩;have I1:Inv X pins σ H { s with heap:=h',toks:=tk }:=I.kept k;have el:acc.toList=es.toList.map (·.key):=by
  refine List.ext_getElem? λj=>?_;rw[Array.getElem?_toList,List.getElem?_map,Array.getElem?_toList];cases e:acc[j]? with
  | some v=>exact(items.2 j v e).symm
  | none =>
   have:acc.size<=j:=by simpa using e
   rw[items.1]at this;rw[Array.getElem?_eq_none this]; rfl
 have hf:H h'.objs.size=none:=I1.hok.fresh (nLr _);refine⟨.ref h'.objs.size,upd H h'.objs.size (.tup ks),I1.laid (o:=.tup ks) (λb o e=>Heap.get?_push_of_some _ e) (Nat.le_refl _) ⟨?_,acc.toList,by rw[el]; exact rk,⟨_,Heap.get?_push_size _ rfl,rfl,⟨0,by simp⟩,rfl⟩⟩,rfl,q _ hf⟩;rw[rk.length,List.length_map,Array.length_toList];exact hn
end
noncomputable def zkW(env:Env):List (Str×NameKind)->List (Str×Addr)->List (Str×Addr)
 | [],cs=>cs
 | (n,k)::r,cs=>zkW env r (if k==.free then (n,(env.cells.lookup n).getD 0)::cs else cs)
theorem zkg{env:Env}:∀ {names:List (Str×NameKind)} {cs:List (Str×Addr)} {p:Str×Addr},p∈zkW env names cs->p∈cs∨((p.1,NameKind.free)∈names/\p.2=(env.cells.lookup p.1).getD 0)
 | [],cs,p,h=>.inl h
 | (n,k)::r,cs,p,h=>by
  unfold zkW at h
  rcases zkg h with h | ⟨h,e⟩
  ·by_cases hk:(k==NameKind.free)=true
   ·rw[if_pos hk]at h
    rcases List.mem_cons.mp h with h | h
    ·subst h
     have:k=.free:=by simpa using hk
     subst this
     exact .inr ⟨List.mem_cons_self,rfl⟩
    ·exact .inl h
   ·rw[if_neg hk]at h; exact .inl h
  ·exact .inr ⟨lMc _ h,e⟩
theorem zkh{env:Env}{n:Str}:∀ {names:List (Str×NameKind)} {cs:List (Str×Addr)},((n,NameKind.free)∈names∨∃ a,(n,a)∈cs)->∃ a,(n,a)∈zkW env names cs
 | [],cs,h=>by
  rcases h with h | h
  ·simp at h
  ·exact h
 | (m,k)::r,cs,h=>by
  unfold zkW
  refine zkh ?_
  rcases h with h | ⟨a,h⟩
  ·rcases List.mem_cons.mp h with h | h
   ·cases h
    exact .inr ⟨_,by rw[if_pos (by rfl)]; exact List.mem_cons_self⟩
   ·exact .inl h
  ·refine .inr ⟨a,?_⟩
   split
   ·exact lMc _ h
   ·exact h
theorem zpN{env:Env}{scope:Scope}(h:∀ x∈scope.names,x.2=.free->∃ c,env.cells.lookup x.1=some c):closureFor scope env=pure (zkW env scope.names []):=by
 simp only[closureFor];generalize ([]:List (Str×Addr))=cs;revert h;generalize scope.names=names;intro h;induction names generalizing cs with
 | nil=>rfl
 | cons x r ih =>
  obtain⟨n,k⟩:=x;rw[List.forIn_cons];have hr:=λcs=>ih cs (λy hy=>h y (lMc _ hy));by_cases hk:(k==NameKind.free)=true
  ·have hk':k=.free:=by simpa using hk
   obtain⟨c,hc⟩:=h (n,k) List.mem_cons_self hk';simp only at hc;have e1:cellOf env n=pure c:=by unfold cellOf; rw[hc]
   simp only[hk,if_true,e1];unfold zkW;rw[if_pos hk,hc];exact hr ((n,c)::cs)
  ·simp only[hk,if_false];unfold zkW;rw[if_neg hk];exact hr cs
theorem zf3(F:Str->NameKind->NameKind):∀ (names:List (Str×NameKind)) (x:Str),(names.map λp=>(p.1,F p.1 p.2)).lookup x=(names.lookup x).map (F x)
 | [],_=>rfl
 | (n,k)::r,x=>by
  rw[List.map_cons,List.lookup_cons,List.lookup_cons]
  cases hx:x==n with
  | true =>
   have e:x=n:=by simpa using hx
   subst e
   rfl
  | false=>exact zf3 F r x
theorem zgF{env:Env}{names:List (Str×NameKind)}{x:Str} :
  (names.map λ(n,k)=>if (k==NameKind.free&&env.scope.kind==.function&&env.kindOf n==some .cell)then (n,NameKind.cell)else (n,k)).lookup x =
   (names.lookup x).map λk=>if (k==NameKind.free&&env.scope.kind==.function&&env.kindOf x==some .cell)then NameKind.cell else k:=by
 rw[<- zf3 (λn k=>if (k==NameKind.free&&env.scope.kind==.function&&env.kindOf n==some .cell)=true then NameKind.cell else k)]
 congr 1
 refine List.map_congr_left λp _=>?_;obtain⟨n,k⟩:=p;dsimp only;split<;>rfl
section
variable {prog:Program}{w:World}{A:Around}{R:Result->Shared->Prop}{s:Shared}
theorem ziC{elt target iter:Expr}{ifs:List Expr}{scope:Scope}{pos:Pos}{it acc:Value}{env:Env}(I:Nat->Shared->Prop)
  (turn:∀ n s,I n s->wpAny (model prog w) A (pyNext it) (λr s₁=>match r with
   | none=>R (.ok .next) s₁
   | some v=>wpAny (model prog w) A (letOwnedTupleGo target it v) (λ_ s₀=>wpAny (model prog w) A (assign target env v) (λ_ s₂ =>
     wpAny (model prog w) A (forIn ifs true λc r=>if r=true then do let ok <- isTrue c env (eval c env); pure (ForInStep.yield ok)else pure (ForInStep.yield r)) (λok s₃ =>
      if ok=true then wpAny (model prog w) A (eval elt env) (λx s₄ =>
       wpAny (model prog w) A (call (.builtin "list.append") [acc,x]) (λ_ s₅=>∃ m,m < n/\I m s₅) (λ_ _=>False) s₄) (λ_ _=>False) s₃
      else ∃ m,m < n/\I m s₃) (λ_ _=>False) s₂) (λ_ _=>False) s₀) (λ_ _=>False) s₁) (λ_ _=>False) s)
  (n:Nat) (h:I n s):codeAny (model prog w) A (.compLoop (.ListComp elt [⟨target,iter,ifs,0⟩] scope pos) 0 it acc env) R s:=by
 refine codeAny_loop rfl I (λn s hI=>?_) n h;show wpAny _ A ((compTurn (.ListComp elt [⟨target,iter,ifs,0⟩] scope pos) 0 it acc env).onRaise (λx=>do noteFrame x env; theTreesLotGoes x)) _ _ s;refine wpAny_noted ?_;rw[compTurn_list];refine wB (wpAny_standAt (wB (wpAny_mono (turn n s hI) (λr s₁ h₁=>?_) λ_ _ f=>f.elim)));cases r with
 | none=>exact wQ h₁
 | some v =>
  refine wB (wpAny_mono h₁ (λ_ s₀ h₀=>?_) λ_ _ f=>f.elim);refine wB (wpAny_mono h₀ (λ_ s₂ h₂=>wB (wpAny_mono h₂ (λok s₃ h₃=>?_) λ_ _ f=>f.elim)) λ_ _ f=>f.elim);cases ok with
  | false=>exact wQ ⟨rfl,h₃⟩
  | true =>
   exact wB (wB (wpAny_mono h₃ (λx s₄ h₄=>wB (wpAny_mono h₄ (λ_ s₅ h₅=>wQ (wQ ⟨rfl,h₅⟩)) λ_ _ f=>f.elim)) λ_ _ f=>f.elim))
end
noncomputable def blk(X:Cx)(scope:Scope)(N:List Str)(fp:List Addr)(s:Shared)(H:Hp)(C:Addr):Cx :=
 { X with env:=compEnvC scope (zkW X.env scope.names []) C X.env,N:=N,s₀:=s,H₀:=H,outer:=X.stack,stack:=X.stack,ex:=fp,fn:=λ_=>false,pn:=X.pn,xe:=λ_ _=>False }
noncomputable def zlc(sel:List (Option Nat))(σ:St):St:=sel.map λo=>o.bind λj=>(σ[j]?).join
structure BlkOk(X:Cx)(scope:Scope)(N:List Str)(sel:List (Option Nat)):Prop where
 kind:scope.kind=.function
 names:∀ x∈scope.names,x.2=.local->scope.names.lookup x.1=some .local
 nocell:∀ x∈scope.names,x.2≠.cell
 fr:∀ x∈scope.names,x.2=.free->(X.env.kindOf x.1=some .cell∨X.env.kindOf x.1=some .free)
 len:sel.length=N.length
 sel:∀ (i j:Nat) (x:Str),sel[i]?=some (some j)->N[i]?=some x->X.N[j]?=some x/\scope.names.lookup x=some .free
theorem zhK{X:Cx}{scope:Scope}{N:List Str}{fp:List Addr}{s:Shared}{H:Hp}{C:Addr}(x:Str) :
  (blk X scope N fp s H C).env.kindOf x=(scope.names.lookup x).map λk=>if (k==NameKind.free&&X.env.scope.kind==.function&&X.env.kindOf x==some .cell)then NameKind.cell else k:=zgF
section
variable {X:Cx}{scope:Scope}{N:List Str}{sel:List (Option Nat)}{fp:List Addr}{pins:List (Addr×Obj)}{σ:St}{H:Hp}{s:Shared}{C:Addr}
theorem BlkOk.cl1(B:BlkOk X scope N sel)(ok:X.Ok){x:Str}{c:Addr}(h:(zkW X.env scope.names []).lookup x=some c):X.env.cells.lookup x=some c:=by
 rcases zkg (PySem.mem_of_lookup h)with h | ⟨h,e⟩
 ·simp at h
 ·obtain⟨c',hc⟩:=ok.has x (B.fr _ h rfl);simp only at e;rw[hc]at e;simp only[Option.getD_some]at e;rw[e]; exact hc
theorem BlkOk.cl2(B:BlkOk X scope N sel)(ok:X.Ok){x:Str}(h:scope.names.lookup x=some .free):∃ c,(zkW X.env scope.names []).lookup x=some c:=by
 obtain⟨a,ha⟩:=zkh (env:=X.env) (n:=x) (names:=scope.names) (cs:=[]) (.inl (PySem.mem_of_lookup h));cases e:(zkW X.env scope.names []).lookup x with
 | some c=>exact⟨c,rfl⟩
 | none =>
  have:=List.lookup_eq_none_iff.mp e (x,a) ha;simp at this
theorem BlkOk.free_of(B:BlkOk X scope N sel){x:Str}(h:(blk X scope N fp s H C).env.kindOf x=some .cell∨(blk X scope N fp s H C).env.kindOf x=some .free):scope.names.lookup x=some .free:=by
 rw[zhK]at h;cases e:scope.names.lookup x with
 | none=>rw[e]at h; simp at h
 | some k =>
  rw[e]at h;have hm:=PySem.mem_of_lookup e;have nc:=B.nocell _ hm;cases k<;>simp at h nc ⊢
theorem zrN(B:BlkOk X scope N sel)(I:Inv X pins σ H s)(hf:∀ b∈fp,zk6 X pins H b)(ho:∀ b∈fp,b < s.heap.objs.size)(hC:s.heap.objs.size<=C):(blk X scope N fp s H C).Ok where
 mod:=I.ok.mod
 kind:=B.kind
 glob:=I.ok.glob
 blt:=I.ok.blt
 above:=hC
 inj:=λx y c h1 h2=>I.ok.inj x y c (B.cl1 I.ok h1) (B.cl1 I.ok h2)
 has:=λx h=>B.cl2 I.ok (B.free_of h)
 cab:=λx c h=>nomatch h
 hd:=I.ok.hd
 frames:=I.ok.frames
 stk:=.inl rfl
 exf:=λb hb=>⟨nNl (nLl (ho b hb) hC),λx c h=>(hf b hb).2.2.2.2.1 x c (B.cl1 I.ok h)⟩
 bs:=λb o e=>I.bs b o e
 bsz:=Nat.le_trans I.ok.bsz I.sz
 noex:=λb o e hb=>by
  rcases (hf b hb).2.2.2.1 with z | z
  ·exact I.ok.noex b o e z
  ·have:=hLz e
   exact absurd (nLl this (Nat.le_trans I.ok.bsz z)) (Nat.lt_irrefl _)
 exfs:=λb hb hm=>by
  rcases List.mem_cons.mp (I.stkSub b hm)with e | e
  ·exact(hf b hb).2.1 e
  ·exact(hf b hb).2.2.1 e
 funs:=I.stack
 frf:=λb hb=>I.stkFree b hb
theorem zmT(B:BlkOk X scope N sel)(I:Inv X pins σ H s)(hf:∀ b∈fp,zk6 X pins H b)(ho:∀ b∈fp,b < s.heap.objs.size)(hC:s.heap.objs.size<=C){h':Heap}{m:Str->Option Value}{tk:Nat}
  (hn:h'.Ns C m) (k:∀ b o,s.heap.get? b=some o->h'.get? b=some o):Inv (blk X scope N fp s H C) pins (zlc sel σ) H { s with heap:=h',toks:=tk } where
 ok:=zrN B I hf ho hC
 os:=rfl
 bare:=I.bare
 base:=Un.kept k
 loc:=⟨m,hn,λi x v h1 h2 h3=>by
  unfold zlc at h2
  rw[List.getElem?_map]at h2
  cases e:sel[i]? with
  | none=>rw[e]at h2; cases h2
  | some o =>
   rw[e]at h2
   cases o with
   | none=>cases h2
   | some j =>
    have h2':(σ[j]?).join=some v:=by simpa using h2
    have h2'':σ[j]?=some (some v):=by
     cases q:σ[j]? with
     | none=>rw[q]at h2'; cases h2'
     | some z=>rw[q]at h2'; simp at h2'; rw[h2']
    obtain⟨hj,hfr⟩:=B.sel i j x e h1;obtain⟨m0,hn0,hl⟩:=I.loc;have kx:=B.fr _ (PySem.mem_of_lookup hfr) rfl;obtain⟨u,r,l⟩:=hl j x v hj h2'' (by rcases kx with z | z; exact .inr (.inl z); exact .inr (.inr z));refine⟨u,r,.inr ⟨?_,?_⟩⟩
    ·rw[zhK,hfr];simp only[Option.map_some];split
     ·exact .inl rfl
     ·exact .inr rfl
    ·rcases l with ⟨z,_⟩ | ⟨_,c,hc,hcell⟩
     ·simp only at kx; rw[z]at kx; rcases kx with q | q<;>cases q
     ·obtain⟨c',hc'⟩:=B.cl2 I.ok hfr;have:=B.cl1 I.ok hc';rw[hc]at this;cases this
      obtain⟨o,ho,hd⟩:=hcell;exact⟨c,hc',o,k c o ho,hd⟩⟩
 cell:=λx c h=>by
  obtain⟨v,o,ho,hd⟩:=I.cell x c (B.cl1 I.ok h);exact⟨v,o,k c o ho,hd⟩
 free:=I.hok.fresh hC
 freeC:=λx c h=>I.freeC x c (B.cl1 I.ok h)
 pin:=λp hp=>by
  obtain⟨e,n,ne,nf,d⟩:=I.pin p hp;refine⟨k p.1 p.2 e,n,nNl (nLl (hLz e) hC),λhm=>?_,d⟩;rcases List.mem_cons.mp (I.stkSub p.1 hm)with z | z
  ·exact ne z
  ·exact nf z
 hok:=I.hok.kept k
 len:=by unfold zlc; rw[List.length_map]; exact B.len
end
def zm8(sel:List (Option Nat))(wi:TI)(g:TG)(tc:TT)(te:TE):TE:=λσ H Q=>wi σ H λJ H1=>∃ W:Nat->Nat->List V->Hp->Prop,(∃ m,W 0 m [] H1)/\∀ i m acc H,W i m acc H->acc.length < sizeLine /\
 ((J.stop i H/\∀ d,H d=none->Q (.ref d) (upd H d (.lst acc))) ∨
  (J.go i H/\∀ x H',J.yld i H x H'->g x (zlc sel σ) H' λσ2 H2=>tc σ2 H2 λb H3=>if b=true then te σ2 H3 λy H4=>∃ m',m' < m/\W (i+1) m' (acc++[y]) H4 else ∃ m',m' < m/\W (i+1) m' acc H3))
section
variable {X:Cx}{scope:Scope}{N:List Str}{sel:List (Option Nat)}{fp:List Addr}{pins pins':List (Addr×Obj)}{σ σ':St}{H H':Hp}{s s':Shared}{C:Addr}
theorem zmU(B:BlkOk X scope N sel)(I:Inv X pins σ H s)(hf:∀ b∈fp,zk6 X pins H b)(hC:s.heap.objs.size<=C)(J:Inv (blk X scope N fp s H C) pins' σ' H' s'):Inv (blk X scope N fp s H C) pins' (zlc sel σ) H' s':=by
 refine⟨J.ok,J.os,J.bare,J.base,?_,J.cell,J.free,J.freeC,J.pin,J.hok,by unfold zlc; rw[List.length_map]; exact B.len⟩;obtain⟨m,hn,_⟩:=J.loc;refine⟨m,hn,λi x v h1 h2 h3=>?_⟩;unfold zlc at h2;rw[List.getElem?_map]at h2;cases e:sel[i]? with
 | none=>rw[e]at h2; cases h2
 | some o =>
  rw[e]at h2;cases o with
  | none=>cases h2
  | some j =>
   have h2':(σ[j]?).join=some v:=by simpa using h2
   have h2'':σ[j]?=some (some v):=by
    cases q:σ[j]? with
    | none=>rw[q]at h2'; cases h2'
    | some z=>rw[q]at h2'; simp at h2'; rw[h2']
   obtain⟨hj,hfr⟩:=B.sel i j x e h1;obtain⟨m0,hn0,hl⟩:=I.loc;have kx:=B.fr _ (PySem.mem_of_lookup hfr) rfl;obtain⟨u,r,l⟩:=hl j x v hj h2'' (by rcases kx with z | z; exact .inr (.inl z); exact .inr (.inr z));refine⟨u,r,.inr ⟨?_,?_⟩⟩
   ·rw[zhK,hfr];simp only[Option.map_some];split
    ·exact .inl rfl
    ·exact .inr rfl
   ·rcases l with ⟨z,_⟩ | ⟨_,c,hc,hcell⟩
    ·simp only at kx; rw[z]at kx; rcases kx with q | q<;>cases q
    ·obtain⟨c',hc'⟩:=B.cl2 I.ok hfr;have:=B.cl1 I.ok hc';rw[hc]at this;cases this
     obtain⟨o,ho,hd⟩:=hcell;obtain⟨sl,e2⟩:=J.base.any ho (I.freeC x c hc) (λhm=>(hf c hm).2.2.2.2.1 x c hc rfl);exact⟨c,hc',_,e2,hd⟩
end
def zp0(X:Cx)(ifs:List Expr)(t:TT):Prop :=
 ∀ (pins:List (Addr×Obj)) (s:Shared) (σ:St) (H:Hp) (Q:Bool->Hp->Prop),Inv X pins σ H s->t σ H Q ->
  wpAny (model X.prog X.w) X.A (forIn ifs true λc r=>if r=true then do let ok <- isTrue c X.env (eval c X.env); pure (ForInStep.yield ok)else pure (ForInStep.yield r)) (TP X pins σ Q) X.xe s
theorem znr{X:Cx}:zp0 X [] (λσ H Q=>Q true H):=λ_ _ σ H _ I h=>wpAny_tests_nil ⟨H,I,h⟩
theorem znq{X:Cx}{c:Expr}{t:TT}(hc:PT X c t):zp0 X [c] t:=λpins s σ H Q I h=>wpAny_tests_one (hc pins s σ H Q I h)
section
variable {X:Cx}{scope:Scope}{N:List Str}{sel:List (Option Nat)}{elt target iter:Expr}{ifs:List Expr}{wi:TI}{g:TG}{tc:TT}{te:TE}{pos:Pos}
theorem ziB{use:Option (Value->Sem Unit)}{Q':Value->Shared->Prop}{fpos:Pos}(hc:X.calm=true)(B:BlkOk X scope N sel)(hi:PI X target iter wi)
  (hg:∀ fp s H C,PG (blk X scope N fp s H C) target g) (ht:∀ fp s H C,zp0 (blk X scope N fp s H C) ifs tc) (he:∀ fp s H C,PE (blk X scope N fp s H C) elt te)
  (hs:∀ x,foldedSetIterable iter X.env x=pure x) {pins:List (Addr×Obj)} {s:Shared} {σ:St} {H:Hp} {Q:VK} (I:Inv X pins σ H s) (h:zm8 sel wi g tc te σ H Q)
  (fin':∀ (D C:Addr) (oC:Obj) (m:Str->Option Value) (H4:Hp) (s4:Shared),Inv X (pins++[(C,oC)]) σ H4 s4->s4.heap.Ns C m->(X.s₀.heap.objs.size<=C/\C≠X.env.locals/\(∀ x c,X.env.cells.lookup x=some c->c≠C)/\(∀ p∈X.pn++pins,p.1≠C)/\H4 C=none)->Q (.ref D) H4->compPost (model X.prog X.w) X.A X.xe use Q' (.ref D) C (.ok .next) s4) :
  wpAny (model X.prog X.w) X.A (comprehension (.ListComp elt [⟨target,iter,ifs,0⟩] scope pos) scope X.env fpos (newList []) false (eval iter X.env) use) Q' X.xe s:=by
 refine wpAny_comprehension_free (use:=use) rfl hs (zpN λx hx hk=>I.ok.has x.1 (B.fr x hx hk)) B.kind B.names (thn (hi pins s σ H _ I h) λv s1 h1=>thn h1 λitv s2 h2=>?_);obtain⟨it,fp,tn,J,H2,e,I2,T,st2,f2,W,⟨m0,w0⟩,turn⟩:=h2;subst e;refine wpAny_newObj_type (wpAny_newFunctionEnv B.nocell (by intro y hy; simp at hy) (λh₁ hns₁ hsb₁=>?_) B.kind);dsimp only at hns₁ hsb₁ ⊢;generalize hH2:s2.heap.push { cls:=.type "list",dict:=none,data:=.seq ([]:List Value).toArray }=HP at hns₁ hsb₁ ⊢;have hCs:HP.objs.size=s2.heap.objs.size+1:=by rw[<- hH2,Heap.size_push]
 generalize hCe:HP.objs.size=C at hns₁ hsb₁ hCs ⊢;generalize hDe:s2.heap.objs.size=D at hCs ⊢;have hDC:D≠C:=by lia
 have hCle:s2.heap.objs.size<=C:=by lia
 have k2:∀ b o,s2.heap.get? b=some o->h₁.get? b=some o:=λb o e=>hsb₁.extBut b o (nNl (nLl (hLz e) hCle)) (hPs _ (hH2 ▸ hPs _ e));have hacc:h₁.PlainList D #[]:=⟨_,hsb₁.extBut _ _ hDC (hPs _ (hH2 ▸ hDe ▸ hPz _ rfl))⟩;have ofp:∀ b∈fp,b < s2.heap.objs.size:=λb hb=>by obtain⟨o,e,_⟩:=T.obj _ _ st2 b hb; exact hLz e
 have I3:=zmT (tk:=s2.toks+([]:List (Str×Value)).length) B I2 f2 ofp hCle hns₁ k2;have stat:∀ {H':Hp} {o:Obj},(∀ b∈fp,H' b=none)->∀ b∈fp,zk6 (blk X scope N fp s2 H2 C) (pins++[(D,o)]) H' b:=λ{H' o} hn b hb=>by
  obtain⟨_,f1,f2',f3,f4,f5⟩:=f2 b hb;have hlt:=ofp b hb;refine⟨hn b hb,nNl (nLl hlt hCle),λhm=>?_,.inl hb,λx c hx=>f4 x c (B.cl1 I2.ok hx),λp hp=>?_⟩
  ·rcases List.mem_cons.mp (I2.stkSub b hm)with e | e
   ·exact f1 e
   ·exact f2' e
  ·rcases List.mem_append.mp hp with z | z
   ·exact f5 p (List.mem_append_left _ z)
   ·rcases List.mem_append.mp z with z | z
    ·exact f5 p (List.mem_append_right _ z)
    ·have e:p=(D,o):=by simpa using z
     subst e;exact Ne.symm (nNl (hDe ▸ hlt))
 have pinD:∀ {σ':St} {H':Hp} {s':Shared} {ps:List (Addr×Obj)} {o:Obj},Inv (blk X scope N fp s2 H2 C) ps σ' H' s'->(∀ p∈pins,p∈ps)->s'.heap.get? D=some o->H' D=none->(∀ v,o.data≠.cell v)->Inv (blk X scope N fp s2 H2 C) (pins++[(D,o)]) σ' H' s':=λ{σ' H' s' ps o} I' hps hD hn hd=>I'.pins_of λp hp=>by
  rcases List.mem_append.mp hp with z | z
  ·exact I'.pin p (List.mem_append_right _ (hps p z))
  ·have e:p=(D,o):=by simpa using z
   subst e;refine⟨hD,hn,hDC,λhm=>?_,hd⟩;obtain⟨_,o',ho',_⟩:=I2.stack.mem hm;exact Nat.lt_irrefl _ (hDe ▸ hLz ho')
 have loop:codeAny (model X.prog X.w) X.A (.compLoop (.ListComp elt [⟨target,iter,ifs,0⟩] scope pos) 0 (.ref it) (.ref D) (compEnvC scope (zkW X.env scope.names []) C X.env))
   (compPost (model X.prog X.w) X.A X.xe use Q' (.ref D) C) { s2 with heap:=h₁,toks:=s2.toks+([]:List (Str×Value)).length }:=by
  refine ziC (λn s'=>∃ i acc H' its o,Inv (blk X scope N fp s2 H2 C) (pins++[(D,o)]) (zlc sel σ) H' s'/\tn i s'.heap/\(∀ b∈fp,H' b=none)/\W i n acc H'/\zaF acc its/\(∃ k,o={ cls:=.type "list",data:=.seq its.toArray k })/\H' D=none) ?_ m0 ?_
  ·rintro n s3 ⟨i,acc,H3,its,o,J3,st3,fr3,w3,rv,⟨kk,ho⟩,hDn⟩;have hd:∀ v,o.data≠.cell v:=λv z=>by subst ho; cases z
   obtain⟨hsz,go⟩:=turn i n acc H3 w3;rcases go with ⟨stop,qn⟩ | ⟨go,step⟩
   ·refine thn (T.done (blk X scope N fp s2 H2 C) rfl rfl rfl hc i _ s3 _ H3 (λ_ _=>False) J3 (stat fr3) st3 stop) λr s4 ⟨hr,J4⟩=>?_;subst hr;obtain⟨m,hn,_⟩:=id J4.loc;have hD4:=(J4.pin (D,o) (by simp)).1;simp only at hD4;have u4:=J4.base;have neD:∀ b ob,s2.heap.get? b=some ob->b≠D:=λb ob e=>nNl (hDe ▸ hLz e);have neC:∀ b ob,s2.heap.get? b=some ob->b≠C:=λb ob e=>nNl (nLl (hLz e) hCle);have hfree:H3 C=none:=J4.free;have hok:HOk X.prog X.w (upd H3 D (.lst acc)) s4.heap:=λb ob e=>by
     by_cases z:b=D
     ·subst z;rw[zak]at e;cases e
      subst ho;exact⟨Nat.le_of_lt hsz,its,kk,rv,hD4⟩
     ·rw[zal z]at e;exact(J4.hok b ob e).stay (λc w' hc' q=>q) (λc q=>by rw[zal (zao q hDn)]; exact q) (λc xs q=>by rw[zal (zao q hDn)]; exact q)
    have I4:Inv X pins σ (upd H3 D (.lst acc)) s4:=by
     refine I2.call' (ch:=fp) (s':=s4) J4.os ⟨?_,?_,?_,?_,?_,?_,?_⟩ hok J4.bare (λb hb=>?_)
     ·exact λb ob e hn' hb hx=>u4.keep b ob e hn' hb hx
     ·exact λb ob e hn' hb hx=>u4.slot b ob e hn' hb hx
     ·intro b ob e hn' hx;rw[zal (neD b ob e)];exact u4.free b ob e hn' hx
     ·exact λb ob e hx=>u4.there b ob e hx
     ·intro b xs e;have q:=u4.tups b xs e;rw[zal (zao q hDn)]; exact q
     ·intro b ob xs e;have q:=u4.frzs b ob xs e;rw[zal (zao q hDn)]; exact q
     ·intro b ps e;obtain⟨more,q⟩:=u4.tbls b ps e;exact⟨more,by rw[zal (zao q hDn)]; exact q⟩
     ·obtain⟨_,f1,_,f3,f4,f5⟩:=f2 b hb;exact⟨f3,f1,f4,f5⟩
    obtain⟨oC,esC,epC,eC,dC,rC⟩:=id hn;have hnC:(upd H3 D (.lst acc)) C=none:=by rw[zal (Ne.symm hDC)]; exact hfree
    have neL:C≠X.env.locals:=by
     obtain⟨mL,⟨oL,_,_,eL,_⟩,_⟩:=I2.loc;exact Ne.symm (neC _ _ eL)
    have neCell:∀ x c,X.env.cells.lookup x=some c->c≠C:=λx c hx=>by
     obtain⟨v,ob,hob,_⟩:=I2.cell x c hx;exact neC _ _ hob
    have nePin:∀ p∈X.pn++pins,p.1≠C:=λp hp=>neC _ _ (I2.pin p hp).1;have I5:Inv X (pins++[(C,oC)]) σ (upd H3 D (.lst acc)) s4:=I4.pins_of λp hp=>by
     rcases List.mem_append.mp hp with z | z
     ·exact I4.pin p (List.mem_append_right _ z)
     ·have e:p=(C,oC):=by simpa using z
      subst e;refine⟨eC,hnC,neL,λhm=>?_,λv z=>by rw[dC]at z; cases z⟩;obtain⟨_,o',ho',_⟩:=I2.funs.mem hm;exact neC _ _ ho' rfl
    exact fin' D C oC m _ s4 I5 hn ⟨Nat.le_trans I2.sz hCle,neL,neCell,nePin,hnC⟩ (qn D hDn)
   ·refine thn (T.item (blk X scope N fp s2 H2 C) rfl rfl rfl hc i _ s3 _ H3 (λ_ _=>False) J3 (stat fr3) st3 go) λr s4 ⟨u,hr,h4⟩=>?_;subst hr;refine thn h4 λ_ s5 ⟨x,H5,J5,r5,y5,st5,fr5⟩=>?_;have J5':=J5.pinned (stat fr5) (T.obj _ _ st5);have hD5:H5 D=none:=(J5.pin (D,o) (by simp)).2.1;refine thn (hg _ _ _ _ _ s5 _ H5 x u _ J5' r5 (step x H5 y5)) λ_ s6 ⟨σ6,H6,J6,q6⟩=>?_;refine thn (ht _ _ _ _ _ s6 σ6 H6 _ J6 q6) λb s7 ⟨H7,J7,q7⟩=>?_;have fin:∀ {σ8:St} {H8:Hp} {s8:Shared} {acc8:List V} {m':Nat} {its8:List Value} {o8:Obj},Inv (blk X scope N fp s2 H2 C) (pins++[(D,o8)]) σ8 H8 s8->(∀ b∈fp,∀ ob,s5.heap.get? b=some ob->s8.heap.get? b=some ob)->(∀ b∈fp,H8 b=none)->m' < n->W (i+1) m' acc8 H8->zaF acc8 its8->(∃ k,o8={ cls:=.type "list",data:=.seq its8.toArray k }) ->
      ∃ m,m < n/\∃ i acc H' its o,Inv (blk X scope N fp s2 H2 C) (pins++[(D,o)]) (zlc sel σ) H' s8/\tn i s8.heap/\(∀ b∈fp,H' b=none)/\W i m acc H'/\zaF acc its/\(∃ k,o={ cls:=.type "list",data:=.seq its.toArray k })/\H' D=none:=λ{σ8 H8 s8 acc8 m' its8 o8} J8 kf nf hm w8 rv8 ho8 =>
     ⟨m',hm,i+1,acc8,H8,its8,o8,zmU B I2 f2 hCle J8,T.keep _ _ _ st5 kf,nf,w8,rv8,ho8,(J8.pin (D,o8) (by simp)).2.1⟩
    have pf:∀ {σ8:St} {H8:Hp} {s8:Shared},Inv (blk X scope N fp s2 H2 C) (pins++[(D,o)]++zfU fp s5.heap) σ8 H8 s8->(∀ b∈fp,∀ ob,s5.heap.get? b=some ob->s8.heap.get? b=some ob)/\(∀ b∈fp,H8 b=none):=λ{σ8 H8 s8} J8=>by
     refine⟨λb hb ob e=>(J8.pin (b,ob) (List.mem_append_right _ (List.mem_append_right _ (zdv hb e)))).1,λb hb=>?_⟩;obtain⟨ob,e,_⟩:=T.obj _ _ st5 b hb;exact(J8.pin (b,ob) (List.mem_append_right _ (List.mem_append_right _ (zdv hb e)))).2.1
    cases b with
    | false =>
     rw[if_neg Bool.false_ne_true]at q7 ⊢;obtain⟨m',hm,w7⟩:=q7;exact fin (J7.unpinned) (pf J7).1 (pf J7).2 hm w7 rv ⟨kk,ho⟩
    | true =>
     rw[if_pos rfl]at q7 ⊢;refine thn (he _ _ _ _ _ s7 σ6 H7 _ J7 q7) λy s8 ⟨z,H8,J8,r8,m',hm,w8⟩=>?_;have hD8:=J8.pin (D,o) (by simp);simp only at hD8;have hlen:=rv.length;refine wpAny_list_append_plain (items:=its.toArray) (hsz:=by rw[List.size_toArray]; lia) ⟨kk,by rw[<- ho]; exact hD8.1⟩ λh9 hl9 hs9=>?_;obtain⟨k9,e9⟩:=hl9;have eqa:its.toArray.push y=(its++[y]).toArray:=by simp
     rw[eqa]at e9;have J9:Inv (blk X scope N fp s2 H2 C) (pins++zfU fp s5.heap) σ6 H8 s8:=J8.pins_of λp hp=>by
      rcases List.mem_append.mp hp with z | z
      ·exact J8.pin p (List.mem_append_right _ (List.mem_append_left _ (List.mem_append_left _ z)))
      ·exact J8.pin p (List.mem_append_right _ (List.mem_append_right _ z))
     have nfD:∀ b∈fp,b≠D:=λb hb=>nNl (hDe ▸ ofp b hb);have pD:∀ p∈X.pn++pins,p.1≠D:=λp hp=>nNl (hDe ▸ hLz (I2.pin p hp).1);have J10:Inv (blk X scope N fp s2 H2 C) (pins++zfU fp s5.heap) σ6 H8 { s8 with heap:=h9 }:=J9.turned (t':=s8.toks) (it:=D) (λb ob hb e=>(hs9.2 b hb).trans e) hD8.2.1 hDC (.inr (Nat.le_of_eq hDe))
      (λx c hx=>by
       obtain⟨v,ob,hob,_⟩:=I2.cell x c (B.cl1 I2.ok hx);exact nNl (hDe ▸ hLz hob))
      (λp hp=>by
       rcases List.mem_append.mp hp with z | z
       ·exact pD p (List.mem_append_left _ z)
       ·rcases List.mem_append.mp z with z | z
        ·exact pD p (List.mem_append_right _ z)
        ·exact nfD _ (zii z).1)
     refine fin (pinD (o:={ cls:=.type "list",data:=.seq (its++[y]).toArray k9 }) J10 (λp hp=>List.mem_append_left _ hp) e9 hD8.2.1 (λv z=>by cases z)) (λb hb ob e=>(hs9.2 b (nfD b hb)).trans ((pf J8).1 b hb ob e)) (pf J8).2 hm w8 (zaF.append rv (.cons r8 .nil)) ⟨k9,rfl⟩
  ·obtain⟨k0,e0⟩:=hacc;exact⟨0,[],H2,[],_,pinD I3 (λ_ z=>z) e0 (I2.hok.fresh (Nat.le_of_eq hDe)) (λv z=>by cases z),T.keep _ _ _ st2 (λb _ ob e=>k2 b ob e),λb hb=>(f2 b hb).1,w0,.nil,⟨k0,rfl⟩,I2.hok.fresh (Nat.le_of_eq hDe)⟩
 refine codeAny_compStart_list loop (T.self X.A 0 _ _ _ (T.keep _ _ _ st2 (λb _ ob e=>k2 b ob e)) loop)
theorem zpe(hc:X.calm=true)(B:BlkOk X scope N sel)(hi:PI X target iter wi)
  (hg:∀ fp s H C,PG (blk X scope N fp s H C) target g) (ht:∀ fp s H C,zp0 (blk X scope N fp s H C) ifs tc) (he:∀ fp s H C,PE (blk X scope N fp s H C) elt te)
  (hs:∀ x,foldedSetIterable iter X.env x=pure x:=by intro _; rfl):PE X (.ListComp elt [⟨target,iter,ifs,0⟩] scope pos) (zm8 sel wi g tc te):=by
 intro pins s σ H Q I h;rw[eval_ListComp];refine ziB (use:=none) hc B hi hg ht he hs I h λD C oC m H4 s4 I4 hn ⟨n1,n2,n3,n4,n5⟩ q=>?_;have I5:Inv X pins σ H4 s4:=I4.unpinned;exact⟨m,hn,λh'' sb=>⟨.ref D,H4,I5.turned (t':=s4.toks) (it:=C) (λb o hb e=>(sb.2 b hb).trans e) n5 n2 (.inr n1) n3 n4,rfl,q⟩⟩
theorem zkG{i:Nat}{y:Str}{py spos:Pos}(hc:X.calm=true)(hN:X.N.Nodup)(hy:X.N[i]?=some y)(hx:Loc X.env.scope y)(B:BlkOk X scope N sel)(hi:PI X target iter wi)
  (hg:∀ fp s H C,PG (blk X scope N fp s H C) target g) (ht:∀ fp s H C,zp0 (blk X scope N fp s H C) ifs tc) (he:∀ fp s H C,PE (blk X scope N fp s H C) elt te)
  (hsw:swapsWith (.ListComp elt [⟨target,iter,ifs,0⟩] scope pos) (some (.Name y py)) spos.line X.env=pure true)
  (hs:∀ x,foldedSetIterable iter X.env x=pure x:=by intro _; rfl) (hf:X.fn y=true∨X.env.scope.names.lookup y=some .local:=by first | exact .inl rfl | exact .inr rfl | assumption) :
  PS X (.Assign [.Name y py] (.ListComp elt [⟨target,iter,ifs,0⟩] scope pos) spos) (zsj (zm8 sel wi g tc te) (zpG i)):=by
 intro pins s σ H D I h;rw[exec_Assign_Name_used _ _ _ _ hsw];refine wB (wpAny_standAt (wB ?_));show wpAny _ _ (do let _ <- comprehension (.ListComp elt [⟨target,iter,ifs,0⟩] scope pos) scope X.env _ (newList []) false (eval iter X.env) (some (assign (.Name y py) X.env))) _ _ s;refine wB (thn (ziB (use:=some (assign (.Name y py) X.env)) (Q':=λ_ s'=>SP X pins D .next s') hc B hi hg ht he hs I h λd C oC m H4 s4 I4 hn ⟨n1,n2,n3,n4,n5⟩ q=>?_) λ_ s' hq=>wQ (wQ hq));show wpAny _ _ (assign (.Name y py) X.env (.ref d)) _ _ _;refine thn (zlM (X:=X) (i:=i) hN hy hx hf _ s4 σ H4 (.ref d) (.ref d) _ I4 rfl q) λ_ s5 ⟨σ5,H5,I5,q5⟩=>?_;have hC:=I5.pin (C,oC) (by simp);simp only at hC;obtain⟨o',es,ep,e,r⟩:=id hn;have hn5:s5.heap.Ns C m:=⟨o',es,ep,by
  have e4:=(I4.pin (C,oC) (by simp)).1;simp only at e4;rw[e4]at e; cases e;exact hC.1,r⟩
 refine⟨m,hn5,λh'' sb=>⟨σ5,H5,(I5.unpinned).turned (t':=s5.toks) (it:=C) (λb o hb e=>(sb.2 b hb).trans e) hC.2.1 n2 (.inr n1) n3 n4,q5⟩⟩
end
end L2
namespace L3
open PySem PySem.Spec PyProof.Rows L2
structure KW where
 k:W.Frag
 w:World
 P:Program
noncomputable abbrev _root_.L2.Cx.kw(X:Cx):KW:=⟨X.K,X.w,X.prog⟩
inductive T where
 | non | bl (b:Bool) | int (i:Int) | str (x:Str) | ref (a:Addr) | tup (ts:List T) | fro (ts:List T) | ty (n:String)
def SqF(K:W.Frag)(H:Hp)(a:Addr)(xs:List V):Prop :=
 (∃ o,H a=some (.frz o (.lst xs))) ∨
  ∃ (o:Obj) (its:Array Value) (n:Nat),K.lookup a=some o/\o.cls=.type "list"/\o.dict=none/\o.data=.seq its n/\its.size<=sizeLine/\zaF xs its.toList
theorem SqF.sq{K:W.Frag}{H:Hp}{a:Addr}{xs:List V}(h:SqF K H a xs):SqL K H a xs:=by
 rcases h with ⟨o,h⟩ | h
 ·exact .inl (.inr ⟨o,h⟩)
 ·exact .inr h
mutual
inductive Den(K:KW)(H:Hp):V->T->Prop
 | non:Den K H .non .non
 | bl (b:Bool):Den K H (.bl b) (.bl b)
 | int (i:Int):Den K H (.int i) (.int i)
 | str (x:Str):Den K H (.str x) (.str x)
 | ref (a:Addr):Den K H (.ref a) (.ref a)
 | ty (n:String):Den K H (.ty n) (.ty n)
 | tup {a:Addr} {xs:List V} {ts:List T}:SqT K.k H a xs->Dens K H xs ts->Den K H (.ref a) (.tup ts)
 | fro {a:Addr} {xs:List V} {ts:List T}:SqF K.k H a xs->Dens K H xs ts->Den K H (.ref a) (.fro ts)
inductive Dens(K:KW)(H:Hp):List V->List T->Prop
 | nil:Dens K H [] []
 | cons {v:V} {t:T} {vs:List V} {ts:List T}:Den K H v t->Dens K H vs ts->Dens K H (v::vs) (t::ts)
end
noncomputable def zpw:HO->Bool
 | .lst _=>true
 | .tup _=>true
 | .own _=>true
 | _=>false
structure Kp(H H':Hp):Prop where
 tups:∀ a xs,H a=some (.tup xs)->H' a=some (.tup xs)
 frzs:∀ a o u,H a=some (.frz o u)->zpw u=true->H' a=some (.frz o u)
theorem Kp.refl(H:Hp):Kp H H:=⟨λ_ _ h=>h,λ_ _ _ h _=>h⟩
theorem Kp.trans{H H1 H2:Hp}(a:Kp H H1)(b:Kp H1 H2):Kp H H2:=⟨λx xs h=>b.tups _ _ (a.tups _ _ h),λx o u h m=>b.frzs _ _ _ (a.frzs _ _ _ h m) m⟩
theorem Kp.new{H:Hp}{a:Addr}{o:HO}(h:H a=none):Kp H (upd H a o) :=
 ⟨λb xs e=>by rw[zal (zao e h)]; exact e,λb o u e _=>by rw[zal (zao e h)]; exact e⟩
theorem Kp.mut{H:Hp}{a:Addr}{o:HO}(h:Mut (H a)):Kp H (upd H a o):=by
 refine⟨λb xs e=>?_,λb o u e _=>?_⟩
 ·rw[zal]; exact e;rintro rfl; rw[e]at h; exact h
 ·rw[zal]; exact e;rintro rfl; rw[e]at h; exact h
theorem Kp.thaw{H:Hp}{a:Addr}{o:HO}{ob:Obj}{u:HO}(h:H a=some (.frz ob u))(m:zpw u=false):Kp H (upd H a o):=by
 refine⟨λb xs e=>?_,λb o u' e m'=>?_⟩
 ·rw[zal]; exact e;rintro rfl; rw[h]at e; cases e
 ·rw[zal]; exact e;rintro rfl; rw[h]at e; cases e; rw[m]at m'; cases m'
theorem Kp.sqT{K:W.Frag}{H H':Hp}(k:Kp H H'){a:Addr}{xs:List V}(h:SqT K H a xs):SqT K H' a xs:=by
 rcases h with (h | ⟨o,h⟩) | h
 ·exact .inl (.inl (k.tups _ _ h))
 ·exact .inl (.inr ⟨o,k.frzs _ _ _ h rfl⟩)
 ·exact .inr h
theorem Kp.sqF{K:W.Frag}{H H':Hp}(k:Kp H H'){a:Addr}{xs:List V}(h:SqF K H a xs):SqF K H' a xs:=by
 rcases h with ⟨o,h⟩ | h
 ·exact .inl ⟨o,k.frzs _ _ _ h rfl⟩
 ·exact .inr h
mutual
theorem Den.mono{K:KW}{H H':Hp}(k:Kp H H'):∀ {v:V} {t:T},Den K H v t->Den K H' v t
 | _,_,.non=>.non
 | _,_,.bl b=>.bl b
 | _,_,.int b=>.int b
 | _,_,.str b=>.str b
 | _,_,.ref b=>.ref b
 | _,_,.ty b=>.ty b
 | _,_,.tup h d=>.tup (k.sqT h) (Dens.mono k d)
 | _,_,.fro h d=>.fro (k.sqF h) (Dens.mono k d)
theorem Dens.mono{K:KW}{H H':Hp}(k:Kp H H'):∀ {vs:List V} {ts:List T},Dens K H vs ts->Dens K H' vs ts
 | _,_,.nil=>.nil
 | _,_,.cons a b=>.cons (Den.mono k a) (Dens.mono k b)
end
theorem Dens.length{K:KW}{H:Hp}:∀ {vs:List V} {ts:List T},Dens K H vs ts->vs.length=ts.length
 | _,_,.nil=>rfl
 | _,_,.cons _ b=>by simp[Dens.length b]
theorem Dens.get{K:KW}{H:Hp}:∀ {vs:List V} {ts:List T} {i:Nat} {t:T},Dens K H vs ts->ts[i]?=some t->∃ v,vs[i]?=some v/\Den K H v t
 | _,_,_,_,.nil,e=>by simp at e
 | _,_,0,_,.cons a _,e=>by simp at e; subst e; exact⟨_,rfl,a⟩
 | _,_,i+1,t,.cons _ b,e=>by
  obtain⟨v,h1,h2⟩:=Dens.get (i:=i) (t:=t) b (by simpa using e)
  exact⟨v,by simpa using h1,h2⟩
theorem Dens.getV{K:KW}{H:Hp}:∀ {vs:List V} {ts:List T} {i:Nat} {v:V},Dens K H vs ts->vs[i]?=some v->∃ t,ts[i]?=some t/\Den K H v t
 | _,_,_,_,.nil,e=>by simp at e
 | _,_,0,_,.cons a _,e=>by simp at e; subst e; exact⟨_,rfl,a⟩
 | _,_,i+1,t,.cons _ b,e=>by
  obtain⟨v,h1,h2⟩:=Dens.getV (i:=i) (v:=t) b (by simpa using e)
  exact⟨v,by simpa using h1,h2⟩
theorem Dens.set{K:KW}{H:Hp}{v:V}{t:T}(d:Den K H v t):∀ {vs:List V} {ts:List T} (i:Nat),Dens K H vs ts->Dens K H (vs.set i v) (ts.set i t)
 | _,_,_,.nil=>.nil
 | _,_,0,.cons _ b=>.cons d b
 | _,_,i+1,.cons a b=>.cons a (Dens.set d i b)
theorem Dens.append{K:KW}{H:Hp}:∀ {vs us:List V} {ts ws:List T},Dens K H vs ts->Dens K H us ws->Dens K H (vs++us) (ts++ws)
 | _,_,_,_,.nil,s=>s
 | _,_,_,_,.cons r t,s=>.cons r (Dens.append t s)
theorem Dens.take{K:KW}{H:Hp}:∀ {vs:List V} {ts:List T} (n:Nat),Dens K H vs ts->Dens K H (vs.take n) (ts.take n)
 | _,_,0,_=>.nil
 | _,_,_+1,.nil=>.nil
 | _,_,n+1,.cons r t=>.cons r (Dens.take n t)
theorem Dens.drop{K:KW}{H:Hp}:∀ {vs:List V} {ts:List T} (n:Nat),Dens K H vs ts->Dens K H (vs.drop n) (ts.drop n)
 | _,_,0,r=>r
 | _,_,_+1,.nil=>.nil
 | _,_,n+1,.cons _ t=>Dens.drop n t
theorem Dens.ints{K:KW}{H:Hp}:∀ (ns:List Int),Dens K H (ns.map V.int) (ns.map T.int)
 | []=>.nil
 | n::r=>.cons (.int n) (Dens.ints r)
noncomputable def a0T:A0->T
 | .non=>.non
 | .int i=>.int i
 | .str x=>.str x
noncomputable def a1T:A1->T
 | .at a=>a0T a
 | .tup l=>.tup (l.map a0T)
noncomputable def lkT(k:LK):T:=.tup (k.map a1T)
inductive GO where
 | lst (ts:List T)
 | dK (kvs:List (Key×T))
 | ins (C:Addr) (fs:List (Str×T))
 | dT (kvs:List (LK×T))
 | dF (ob:Obj) (kvs:List (Key×T))
 | dG (ob:Obj) (kvs:List (LK×T))
 | tab (q:Str) (pos:Pos)
noncomputable def GO.mu:GO->Bool
 | .dF _ _=>false
 | .dG _ _=>false
 | .tab _ _=>false
 | _=>true
noncomputable abbrev Gp:=Addr->Option GO
noncomputable def updG(G:Gp)(a:Addr)(o:GO):Gp:=λb=>if b=a then some o else G b
theorem zaa{G:Gp}{a:Addr}{o:GO}:updG G a o a=some o:=by unfold updG; rw[if_pos rfl]
theorem zab{G:Gp}{a b:Addr}{o:GO}(h:b≠a):updG G a o b=G b:=by unfold updG; rw[if_neg h]
theorem zbo{G:Gp}{a:Addr}{o u:GO}:updG (updG G a o) a u=updG G a u:=by
 funext b; unfold updG; split<;>rfl
theorem neG{G:Gp}{a b:Addr}{o:GO}(h:G a=some o)(h':G b=none):a≠b:=by
 intro e; subst e; rw[h]at h'; cases h'
theorem zrY{G:Gp}{a b:Addr}{o u:GO}(h:G a=some o)(h':G b=some u)(d:o≠u):a≠b:=by
 intro e; subst e; rw[h]at h'; exact d (Option.some.inj h')
abbrev ziO(K:KW)(H:Hp):List (Str×V)->List (Str×T)->Prop:=Paired λp q=>p.1=q.1/\Den K H p.2 q.2
abbrev zdz(K:KW)(H:Hp):List (Key×V)->List (Key×T)->Prop:=Paired λp q=>p.1=q.1/\Den K H p.2 q.2
abbrev zcW(K:KW)(H:Hp):List (LK×T)->List (LK×Addr×Value)->Prop:=Paired λp x=>p.1=x.1/\Den K H (.ref x.2.1) (lkT x.1)/\∃ v,zaR v x.2.2/\Den K H v p.2
def Tab(H:Hp)(q:Str)(pos:Pos)(ps:Array Value):Prop :=
 ps=#[]∨∃ c oc vs t,ps=#[rawInt pos.line,rawInt pos.col,.ref c]/\H c=some (.frz oc (.own c))/\oc.data=.fields vs/\vs[1]?=some (.str q t)
theorem Tab.mono{H H':Hp}{q:Str}{pos:Pos}{ps:Array Value}(k:Kp H H')(h:Tab H q pos ps):Tab H' q pos ps:=by
 rcases h with h | ⟨c,oc,vs,t,e,hc,r⟩
 ·exact .inl h
 ·exact .inr ⟨c,oc,vs,t,e,k.frzs _ _ _ hc rfl,r⟩
def zep(K:KW)(H:Hp)(a:Addr):GO->Prop
 | .dT kvs=>∃ xs,H a=some (.ext (zi4 K.P K.w a xs))/\zcW K H kvs xs
 | .lst ts=>∃ xs,H a=some (.lst xs)/\Dens K H xs ts
 | .dK kvs=>∃ ks,H a=some (.dK ks)/\zdz K H ks kvs
 | .ins C fs=>∃ dx xs,H a=some (.ins C dx xs)/\ziO K H xs fs
 | .dF ob kvs=>∃ ks,H a=some (.frz ob (.dK ks))/\zdz K H ks kvs
 | .dG ob kvs=>∃ xs,H a=some (.frz ob (.ext (zi4 K.P K.w a xs)))/\zcW K H kvs xs
 | .tab q pos=>∃ ps,H a=some (.tbl ps)/\Tab H q pos ps
def HR(K:KW)(H:Hp)(G:Gp):Prop:=∀ a o,G a=some o->zep K H a o
section
variable {K:KW}{H H':Hp}{G G':Gp}{a:Addr}{o:GO}
theorem ziO.mono(k:Kp H H'){xs:List (Str×V)}{fs:List (Str×T)}(h:ziO K H xs fs):ziO K H' xs fs:=Paired.mapP h λ_ _ hu=>(by obtain⟨e,d⟩:=hu; exact⟨e,d.mono k⟩)
theorem zdz.mono(k:Kp H H'){xs:List (Key×V)}{fs:List (Key×T)}(h:zdz K H xs fs):zdz K H' xs fs:=Paired.mapP h λ_ _ hu=>(by obtain⟨e,d⟩:=hu; exact⟨e,d.mono k⟩)
theorem zcW.mono(k:Kp H H'){xs:List (LK×T)}{fs:List (LK×Addr×Value)}(h:zcW K H xs fs):zcW K H' xs fs:=Paired.mapP h λ_ _ hu=>(by obtain⟨e,d,v,r,d'⟩:=hu; exact⟨e,d.mono k,v,r,d'.mono k⟩)
theorem HR.free(r:HR K H G)(h:H a=none):G a=none:=by
 cases e:G a with
 | none=>rfl
 | some o =>
  have x:=r a o e;cases o with
  | lst ts=>obtain⟨xs,q,_⟩:=x; rw[h]at q; cases q
  | dK ts=>obtain⟨xs,q,_⟩:=x; rw[h]at q; cases q
  | ins C fs=>obtain⟨dx,xs,q,_⟩:=x; rw[h]at q; cases q
  | dT ts=>obtain⟨xs,q,_⟩:=x; rw[h]at q; cases q
  | dF ob ts=>obtain⟨xs,q,_⟩:=x; rw[h]at q; cases q
  | dG ob ts=>obtain⟨xs,q,_⟩:=x; rw[h]at q; cases q
  | tab qq ps=>obtain⟨xs,q,_⟩:=x; rw[h]at q; cases q
theorem zep.at(x:zep K H a o)(k:Kp H H')(e:H' a=H a):zep K H' a o:=by
 cases o with
 | lst ts=>obtain⟨xs,q,d⟩:=x; exact⟨xs,e.trans q,d.mono k⟩
 | dK ts=>obtain⟨xs,q,d⟩:=x; exact⟨xs,e.trans q,zdz.mono k d⟩
 | ins C fs=>obtain⟨dx,xs,q,d⟩:=x; exact⟨dx,xs,e.trans q,ziO.mono k d⟩
 | dT ts=>obtain⟨xs,q,d⟩:=x; exact⟨xs,e.trans q,zcW.mono k d⟩
 | dF ob ts=>obtain⟨xs,q,d⟩:=x; exact⟨xs,e.trans q,zdz.mono k d⟩
 | dG ob ts=>obtain⟨xs,q,d⟩:=x; exact⟨xs,e.trans q,zcW.mono k d⟩
 | tab qq ps=>obtain⟨xs,q,d⟩:=x; exact⟨xs,e.trans q,d.mono k⟩
theorem HR.lay(r:HR K H G){b:Addr}{u:HO}(h:H b=none):HR K (upd H b u) G:=λa o e=>by
 refine (r a o e).at (Kp.new h) (zal ?_)
 rintro rfl
 have:=r.free h
 rw[e]at this; cases this
theorem HR.new(r:HR K H G){b:Addr}{u:HO}{o:GO}(h:H b=none)(n:zep K (upd H b u) b o):HR K (upd H b u) (updG G b o):=λa p e=>by
 by_cases z:a=b
 ·subst z; rw[zaa]at e; cases e; exact n
 ·rw[zab z]at e; exact r.lay h a p e
theorem zep.mutb(x:zep K H a o)(m:o.mu=true):Mut (H a):=by
 cases o with
 | lst ts=>obtain⟨xs,q,d⟩:=x; rw[q]; trivial
 | dK ts=>obtain⟨xs,q,d⟩:=x; rw[q]; trivial
 | ins C fs=>obtain⟨dx,xs,q,d⟩:=x; rw[q]; trivial
 | dT ts=>obtain⟨xs,q,d⟩:=x; rw[q]; trivial
 | dF ob ts=>cases m
 | dG ob ts=>cases m
 | tab q ps=>cases m
theorem HR.put(r:HR K H G){u:HO}{o o':GO}(h:G a=some o)(n:zep K (upd H a u) a o')(m:o.mu=true:=by rfl):HR K (upd H a u) (updG G a o'):=λb p e=>by
 by_cases z:b=a
 ·subst z; rw[zaa]at e; cases e; exact n
 ·rw[zab z]at e
  exact(r b p e).at (Kp.mut ((r a o h).mutb m)) (zal z)
end
noncomputable abbrev St3:=List (Option T)
noncomputable abbrev VK3:=T->Gp->Prop
noncomputable abbrev TE3:=St3->Gp->VK3->Prop
noncomputable abbrev TT3:=St3->Gp->(Bool->Gp->Prop)->Prop
noncomputable abbrev TA3:=St3->Gp->(List T->Gp->Prop)->Prop
structure Ends3 where
 nx:St3->Gp->Prop
 rt:VK3
 bk:St3->Gp->Prop:=λ_ _=>False
 ct:St3->Gp->Prop:=λ_ _=>False
noncomputable abbrev TS3:=Ends3->St3->Gp->Prop
inductive Sts(K:KW)(H:Hp):L2.St->St3->Prop
 | nil:Sts K H [] []
 | no {o:Option V} {σ:L2.St} {τ:St3}:Sts K H σ τ->Sts K H (o::σ) (none::τ)
 | yes {v:V} {t:T} {σ:L2.St} {τ:St3}:Den K H v t->Sts K H σ τ->Sts K H (some v::σ) (some t::τ)
section
variable {K:KW}{H H':Hp}
theorem Sts.mono(k:Kp H H'):∀ {σ:L2.St} {τ:St3},Sts K H σ τ->Sts K H' σ τ
 | _,_,.nil=>.nil
 | _,_,.no r=>.no (Sts.mono k r)
 | _,_,.yes d r=>.yes (d.mono k) (Sts.mono k r)
theorem Sts.get:∀ {σ:L2.St} {τ:St3} {i:Nat} {t:T},Sts K H σ τ->τ[i]?=some (some t)->∃ v,σ[i]?=some (some v)/\Den K H v t
 | _,_,_,_,.nil,e=>by simp at e
 | _,_,0,_,.no _,e=>by simp at e
 | _,_,0,_,.yes d _,e=>by simp at e; subst e; exact⟨_,rfl,d⟩
 | _,_,i+1,t,.no r,e=>by
  obtain⟨v,h1,h2⟩:=Sts.get (i:=i) (t:=t) r (by simpa using e)
  exact⟨v,by simpa using h1,h2⟩
 | _,_,i+1,t,.yes _ r,e=>by
  obtain⟨v,h1,h2⟩:=Sts.get (i:=i) (t:=t) r (by simpa using e)
  exact⟨v,by simpa using h1,h2⟩
theorem Sts.set{v:V}{t:T}(d:Den K H v t):∀ {σ:L2.St} {τ:St3} (i:Nat),Sts K H σ τ->Sts K H (σ.set i (some v)) (τ.set i (some t))
 | _,_,_,.nil=>.nil
 | _,_,0,.no r=>.yes d r
 | _,_,0,.yes _ r=>.yes d r
 | _,_,i+1,.no r=>.no (Sts.set d i r)
 | _,_,i+1,.yes e r=>.yes e (Sts.set d i r)
theorem Sts.reps:∀ n:Nat,Sts K H (List.replicate n none) (List.replicate n none)
 | 0=>.nil
 | n+1=>.no (Sts.reps n)
theorem Sts.start'(n:Nat):∀ {vs:List V} {ts:List T},Dens K H vs ts->Sts K H (vs.map some++List.replicate n none) (ts.map some++List.replicate n none)
 | _,_,.nil=>Sts.reps n
 | _,_,.cons a b=>.yes a (Sts.start' n b)
theorem Sts.start{vs:List V}{ts:List T}(N:List Str)(d:Dens K H vs ts):Sts K H (L2.start N vs) (ts.map some++List.replicate (N.length - ts.length) none):=by
 unfold L2.start;rw[d.length];exact Sts.start' _ d
end
noncomputable def zad(n:Nat)(ts:List T):St3:=ts.map some++List.replicate (n - ts.length) none
section
variable (K:KW)
def Imp(H:Hp)(Q3:VK3)(Q:VK):Prop:=∀ t G' v H',Q3 t G'->Kp H H'->Den K H' v t->HR K H' G'->Q v H'
def lE(t:TE3):TE:=λσ H Q=>∃ τ G Q3,Sts K H σ τ/\HR K H G/\t τ G Q3/\Imp K H Q3 Q
def zr2(H:Hp)(Q3:Bool->Gp->Prop)(Q:Bool->Hp->Prop):Prop:=∀ b G' H',Q3 b G'->Kp H H'->HR K H' G'->Q b H'
def lT(t:TT3):TT:=λσ H Q=>∃ τ G Q3,Sts K H σ τ/\HR K H G/\t τ G Q3/\zr2 K H Q3 Q
def ztU(H:Hp)(Q3:List T->Gp->Prop)(Q:List V->Hp->Prop):Prop:=∀ ts G' vs H',Q3 ts G'->Kp H H'->Dens K H' vs ts->HR K H' G'->Q vs H'
def lA(t:TA3):TA:=λσ H Q=>∃ τ G Q3,Sts K H σ τ/\HR K H G/\t τ G Q3/\ztU K H Q3 Q
def zow(H:Hp)(Q3:St3->Gp->Prop)(Q:L2.St->Hp->Prop):Prop:=∀ τ G' σ H',Q3 τ G'->Kp H H'->Sts K H' σ τ->HR K H' G'->Q σ H'
structure ImpD(H:Hp)(D3:Ends3)(D:Ends):Prop where
 nx:zow K H D3.nx D.nx
 rt:Imp K H D3.rt D.rt
 bk:zow K H D3.bk D.bk
 ct:zow K H D3.ct D.ct
def lS(t:TS3):TS:=λD σ H=>∃ τ G D3,Sts K H σ τ/\HR K H G/\t D3 τ G/\ImpD K H D3 D
end
theorem Imp.mono{K:KW}{H H':Hp}{Q3:VK3}{Q:VK}(i:Imp K H Q3 Q)(k:Kp H H'):Imp K H' Q3 Q:=λt G' v H'' q k' d r=>i t G' v H'' q (k.trans k') d r
theorem zr2.mono{K:KW}{H H':Hp}{Q3:Bool->Gp->Prop}{Q:Bool->Hp->Prop}(i:zr2 K H Q3 Q)(k:Kp H H'):zr2 K H' Q3 Q:=λt G' H'' q k' r=>i t G' H'' q (k.trans k') r
theorem zow.mono{K:KW}{H H':Hp}{Q3:St3->Gp->Prop}{Q:L2.St->Hp->Prop}(i:zow K H Q3 Q)(k:Kp H H'):zow K H' Q3 Q:=λt G' v H'' q k' d r=>i t G' v H'' q (k.trans k') d r
theorem ImpD.mono{K:KW}{H H':Hp}{D3:Ends3}{D:Ends}(i:ImpD K H D3 D)(k:Kp H H'):ImpD K H' D3 D:=⟨i.nx.mono k,i.rt.mono k,i.bk.mono k,i.ct.mono k⟩
abbrev QE(X:Cx)(e:Expr)(t:TE3):Prop:=PE X e (lE X.kw t)
abbrev QT(X:Cx)(e:Expr)(t:TT3):Prop:=PT X e (lT X.kw t)
abbrev QW(X:Cx)(e:Expr)(t:TT3):Prop:=PW X e (lT X.kw t)
abbrev QA(X:Cx)(es:List Expr)(t:TA3):Prop:=PA X es (lA X.kw t)
abbrev QS(X:Cx)(st:Stmt)(t:TS3):Prop:=PS X st (lS X.kw t)
abbrev QSs(X:Cx)(st:List Stmt)(t:TS3):Prop:=PSs X st (lS X.kw t)
section
variable {X:Cx}{e a b c:Expr}{pos:Pos}
theorem _root_.L2.PE.imp{t t':TE}(h:PE X e t)(i:∀ σ H Q,t' σ H Q->t σ H Q):PE X e t':=λpins s σ H Q I q=>h pins s σ H Q I (i _ _ _ q)
theorem _root_.L2.PT.imp{t t':TT}(h:PT X e t)(i:∀ σ H Q,t' σ H Q->t σ H Q):PT X e t':=λpins s σ H Q I q=>h pins s σ H Q I (i _ _ _ q)
theorem _root_.L2.PW.imp{t t':TT}(h:PW X e t)(i:∀ σ H Q,t' σ H Q->t σ H Q):PW X e t':=λwh pins s σ H Q I q=>h wh pins s σ H Q I (i _ _ _ q)
theorem _root_.L2.PA.imp{es:List Expr}{t t':TA}(h:PA X es t)(i:∀ σ H Q,t' σ H Q->t σ H Q):PA X es t':=λp pins s σ H Q I q=>h p pins s σ H Q I (i _ _ _ q)
theorem _root_.L2.PS.imp{st:Stmt}{t t':TS}(h:PS X st t)(i:∀ D σ H,t' D σ H->t D σ H):PS X st t':=λpins s σ H D I q=>h pins s σ H D I (i _ _ _ q)
theorem _root_.L2.PSs.imp{st:List Stmt}{t t':TS}(h:PSs X st t)(i:∀ D σ H,t' D σ H->t D σ H):PSs X st t':=λpins s σ H D I q=>h pins s σ H D I (i _ _ _ q)
def zas(i:Nat):TE3:=λτ G Q=>match τ[i]? with
 | some (some t)=>Q t G
 | _=>False
def wC(t:T):TE3:=λ_ G Q=>Q t G
theorem qv(i:Nat){x:Str}{pos:Pos}(hN:X.N[i]?=some x:=by rfl)(hv:Vis X.env.scope x:=by first | exact Or.inl rfl | exact Or.inr (Or.inl rfl) | exact Or.inr (Or.inr rfl))(hd:(x==("__debug__":Str))=false:=by decide)
  (hcd:(x==("__classdict__":Str))=false:=by decide):QE X (.Name x pos) (zas i):=(zqN hN hv hd hcd).imp λσ H Q hu=>by
 obtain⟨τ,G,Q3,s,r,h,i'⟩:=hu
 unfold zas at h
 split at h
 ·rename_i t e
  obtain⟨v,e1,d⟩:=s.get e
  exact⟨v,e1,i' t G v H h (Kp.refl _) d r⟩
 ·exact h.elim
theorem qc{t:T}{v:V}(h:PE X e (tC v))(d:∀ K H,Den K H v t):QE X e (wC t):=h.imp λσ H Q hu=>(by obtain⟨τ,G,Q3,s,r,h,i'⟩:=hu; exact i' t G v H h (Kp.refl _) (d _ _) r)
theorem zax{i j}:QE X (.Constant (.int i) j pos) (wC (.int i)):=qc zqS λ_ _=>.int _
theorem qbl{i j}:QE X (.Constant (.bool i) j pos) (wC (.bl i)):=qc zsJ λ_ _=>.bl _
theorem zi6{j}:QE X (.Constant .none j pos) (wC .non):=qc zqQ λ_ _=>.non
theorem zk4{i j}:QE X (.Constant (.str i) j pos) (wC (.str i)):=qc zqP λ_ _=>.str _
theorem zsy{x z:Str}{t:Tok}(hm:X.mg x=some (.str z t))(hg:Gl X x:=by rfl)(hd:(x==("__debug__":Str))=false:=by decide):QE X (.Name x pos) (wC (.str z)):=qc (zpd (v:=.str z) hg hm ⟨_,rfl⟩ hd) λ_ _=>.str _
noncomputable abbrev R3:=T->T->Gp->VK3->Prop
def LR(K:KW)(r3:R3)(r:R2):Prop:=∀ H G x y x3 y3 Q Q3,Den K H x x3->Den K H y y3->HR K H G->r3 x3 y3 G Q3->Imp K H Q3 Q->r x y H Q
def wOp(r:R3)(ta tb:TE3):TE3:=λτ G Q=>ta τ G λx G1=>tb τ G1 λy G2=>r x y G2 Q
theorem lOp{K:KW}{r3:R3}{r:R2}(l:LR K r3 r){ta tb:TE3}{σ:L2.St}{H:Hp}{Q:VK}(h:lE K (wOp r3 ta tb) σ H Q):tOp r (lE K ta) (lE K tb) σ H Q:=by
 obtain⟨τ,G,Q3,s,hr,h,i⟩:=h;refine⟨τ,G,_,s,hr,h,λx G1 v H1 h1 k1 d1 r1=>?_⟩;refine⟨τ,G1,_,s.mono k1,r1,h1,λy G2 u H2 h2 k2 d2 r2=>?_⟩;exact l H2 G2 v u x y Q Q3 (d1.mono k2) d2 r2 h2 (i.mono (k1.trans k2))
theorem qop{op:Operator}{r:R2}{r3:R3}{ta tb:TE3}(ho:OpR X (binaryOp op) r)(l:LR X.kw r3 r)(ha:QE X a ta)(hb:QE X b tb):QE X (.BinOp a op b pos) (wOp r3 ta tb) :=
 (zsH ho ha hb).imp λσ H Q h=>lOp l h
theorem zs7{op:CmpOp}{r:R2}{r3:R3}{ta tb:TE3}(ho:OpR X (compareOp op) r)(l:LR X.kw r3 r)(ha:QE X a ta)(hb:QE X b tb)(hm:behindInMarks op b=false:=by first | exact zoj _ | with_unfolding_all rfl):QE X (.Compare a [op] [b] pos) (wOp r3 ta tb) :=
 (zpf ho ha hb hm).imp λσ H Q h=>lOp l h
def zam(t:TE3):TT3:=λτ G Q=>t τ G λx G1=>match x with
 | .bl b=>Q b G1
 | _=>False
theorem zsP{K:KW}{t:TE}{t3:TE3}(l:∀ σ H Q,lE K t3 σ H Q->t σ H Q){σ:L2.St}{H:Hp}{Q:Bool->Hp->Prop}(h:lT K (zam t3) σ H Q):zqa t σ H Q:=by
 obtain⟨τ,G,Q3,s,hr,h,i⟩:=h;refine l σ H _ ⟨τ,G,_,s,hr,h,λx G1 v H1 h1 k1 d1 r1=>?_⟩;cases d1 with
 | bl b=>exact⟨b,rfl,i b G1 H1 h1 k1 r1⟩
 | _=>exact False.elim h1
theorem zi5{op:CmpOp}{r:R2}{r3:R3}{ta tb:TE3}(ho:OpR X (compareOp op) r)(l:LR X.kw r3 r)(ha:QE X a ta)(hb:QE X b tb)(hm:behindInMarks op b=false:=by first | exact zoj _ | with_unfolding_all rfl):QT X (.Compare a [op] [b] pos) (zam (wOp r3 ta tb)) :=
 (zo3 ho ha hb hm).imp λσ H Q h=>zsP (λ_ _ _ q=>lOp l q) h
def iI(C:Int->Int->Prop)(g:Int->Int->T):R3:=λx y G Q=>match x,y with
 | .int i,.int j=>C i j/\Q (g i j) G
 | _,_=>False
def iI0(g:Int->Int->T):R3:=λx y G Q=>match x,y with
 | .int i,.int j=>Q (g i j) G
 | _,_=>False
theorem lI{K:KW}{C:Int->Int->Prop}{g:Int->Int->V}{g3:Int->Int->T}(hg:∀ i j H,Den K H (g i j) (g3 i j)):LR K (iI C g3) (rI C g):=by
 intro H G x y x3 y3 Q Q3 dx dy r h i;cases dx<;>cases dy<;>first
  | exact False.elim h
  | exact⟨_,_,rfl,rfl,h.1,i _ G _ H h.2 (Kp.refl _) (hg _ _ _) r⟩
theorem lI0{K:KW}{g:Int->Int->V}{g3:Int->Int->T}(hg:∀ i j H,Den K H (g i j) (g3 i j)):LR K (iI0 g3) (rI0 g):=by
 intro H G x y x3 y3 Q Q3 dx dy r h i;cases dx<;>cases dy<;>first
  | exact False.elim h
  | exact⟨_,_,rfl,rfl,i _ G _ H h (Kp.refl _) (hg _ _ _) r⟩
section
variable {ta tb:TE3}
theorem zgr(ha:QE X a ta)(hb:QE X b tb):QE X (.BinOp a .Add b pos) (wOp (iI0 λi j=>.int (i+j)) ta tb):=qop zq6 (lI0 λ_ _ _=>.int _) ha hb
theorem zpX(ha:QE X a ta)(hb:QE X b tb):QE X (.BinOp a .Sub b pos) (wOp (iI0 λi j=>.int (i - j)) ta tb):=qop zqX (lI0 λ_ _ _=>.int _) ha hb
theorem zoh(ha:QE X a ta)(hb:QE X b tb):QE X (.BinOp a .Mult b pos) (wOp (iI zrU λi j=>.int (i * j)) ta tb):=qop zq0 (lI λ_ _ _=>.int _) ha hb
theorem zpY(ha:QE X a ta)(hb:QE X b tb):QE X (.BinOp a .Mod b pos) (wOp (iI (λ_ j=>0 < j) λi j=>.int (i % j)) ta tb):=qop zq1 (lI λ_ _ _=>.int _) ha hb
theorem zsB(ha:QE X a ta)(hb:QE X b tb):QE X (.BinOp a .FloorDiv b pos) (wOp (iI zth λi j=>.int (i / j)) ta tb):=qop zpj (lI λ_ _ _=>.int _) ha hb
theorem ztB(ha:QE X a ta)(hb:QE X b tb):QE X (.BinOp a .Pow b pos) (wOp (iI ztg λi j=>.int (i ^ j.toNat)) ta tb):=qop zqY (lI λ_ _ _=>.int _) ha hb
theorem zrW(ha:QE X a ta)(hb:QE X b tb):QT X (.Compare a [.Lt] [b] pos) (zam (wOp (iI0 λi j=>.bl (decide (i < j))) ta tb)):=zi5 zsK (lI0 λ_ _ _=>.bl _) ha hb
theorem ztA(ha:QE X a ta)(hb:QE X b tb):QT X (.Compare a [.Gt] [b] pos) (zam (wOp (iI0 λi j=>.bl (decide (j < i))) ta tb)):=zi5 zq3 (lI0 λ_ _ _=>.bl _) ha hb
theorem zrX(ha:QE X a ta)(hb:QE X b tb):QT X (.Compare a [.GtE] [b] pos) (zam (wOp (iI0 λi j=>.bl (decide (j<=i))) ta tb)):=zi5 zsL (lI0 λ_ _ _=>.bl _) ha hb
end
noncomputable def isN:T->Bool
 | .non=>true
 | _=>false
theorem zpA{K:KW}{H:Hp}{v:V}{t:T}(d:Den K H v t):decide (v=.non)=isN t:=by
 cases d<;>simp[isN]
def zoC:R3:=λx y G Q=>match y with
 | .non=>Q (.bl (isN x)) G
 | _=>False
def zbJ:R3:=λx y G Q=>match y with
 | .non=>Q (.bl (!isN x)) G
 | _=>False
theorem zjN{ta tb:TE3}(ha:QE X a ta)(hb:QE X b tb):QT X (.Compare a [.IsNot] [b] pos) (zam (wOp zbJ ta tb)):=zi5 zpi (λH G x y x3 y3 Q Q3 dx dy r h i=>by
 cases dy<;>first
  | exact False.elim h
  | exact⟨rfl,by rw[zpA dx]; exact i _ G _ H h (Kp.refl _) (.bl _) r⟩) ha hb
def zfv(t u:TT3):TT3:=λτ G Q=>t τ G λc G1=>if c=true then u τ G1 Q else Q false G1
def wOr(t u:TT3):TT3:=λτ G Q=>t τ G λc G1=>if c=true then Q true G1 else u τ G1 Q
def zfj(t:TT3):TT3:=λτ G Q=>t τ G λc G1=>Q (!c) G1
variable {rest:List Expr}{tA tB:TT3}
theorem zsq(ha:QT X a tA):QW X (.BoolOp .And [a] pos) tA:=zo1 ha
theorem zqs(ha:QT X a tA):QW X (.BoolOp .Or [a] pos) tA:=zqD ha
theorem zoU(ha:QT X a tA)(hb:QW X (.BoolOp .And (b::rest) pos) tB):QW X (.BoolOp .And (a::b::rest) pos) (zfv tA tB):=(zqE ha hb).imp λσ H Q hu=>by
 obtain⟨τ,G,Q3,s,r,h,i⟩:=hu
 refine⟨τ,G,_,s,r,h,λc G1 H1 h1 k1 r1=>?_⟩
 cases c with
 | true=>exact⟨τ,G1,Q3,s.mono k1,r1,h1,i.mono k1⟩
 | false=>exact i false G1 H1 h1 k1 r1
theorem zqr(ha:QT X a tA)(hb:QW X (.BoolOp .Or (b::rest) pos) tB):QW X (.BoolOp .Or (a::b::rest) pos) (wOr tA tB):=(zsE ha hb).imp λσ H Q hu=>by
 obtain⟨τ,G,Q3,s,r,h,i⟩:=hu
 refine⟨τ,G,_,s,r,h,λc G1 H1 h1 k1 r1=>?_⟩
 cases c with
 | true=>exact i true G1 H1 h1 k1 r1
 | false=>exact⟨τ,G1,Q3,s.mono k1,r1,h1,i.mono k1⟩
theorem zss(ha:QT X a tA):QT X (.UnaryOp .Not a pos) (zfj tA):=(zqF ha).imp λσ H Q ⟨τ,G,Q3,s,r,h,i⟩ =>
 ⟨τ,G,_,s,r,h,λc G1 H1 h1 k1 r1=>i (!c) G1 H1 h1 k1 r1⟩
def ziZ(ta tb:TE3):TE3:=λτ G Q=>ta τ G λx G1=>match x with
 | .bl c=>if c=true then tb τ G1 Q else Q (.bl false) G1
 | _=>False
def zoA(ta tb:TE3):TE3:=λτ G Q=>ta τ G λx G1=>match x with
 | .bl c=>if c=true then Q (.bl true) G1 else tb τ G1 Q
 | _=>False
def ziW(ta:TE3):TE3:=λτ G Q=>ta τ G λx G1=>match x with
 | .bl c=>Q (.bl (!c)) G1
 | _=>False
variable {ta tb:TE3}
variable {st:Stmt}{rst:List Stmt}{t u:TS3}
def zaj:TS3:=λD τ G=>D.nx τ G
def zaH(t u:TS3):TS3:=λD τ G=>t { D with nx:=u D } τ G
theorem zaL:QSs X [] zaj:=zo5.imp λD σ H hu=>(by obtain⟨τ,G,D3,s,r,h,i⟩:=hu; exact i.nx τ G σ H h (Kp.refl _) s r)
theorem qss(h1:QS X st t)(h2:QSs X rst u):QSs X (st::rst) (zaH t u):=(znn h1 h2).imp λD σ H ⟨τ,G,D3,s,r,h,i⟩ =>
 ⟨τ,G,_,s,r,h,⟨λτ' G' σ' H' q k s' r'=>⟨τ',G',D3,s',r',q,i.mono k⟩,i.rt,i.bk,i.ct⟩⟩
theorem zaG(h1:QS X st t):QSs X [st] t:=zo4 h1
def zaI(te:TE3):TS3:=λD τ G=>te τ G λ_ G1=>D.nx τ G1
theorem zb2(he:QE X e ta)(hs:swapsWith e none pos.line X.env=pure false:=by rfl):QS X (.Expr e pos) (zaI ta):=(zo7 he hs).imp λD σ H ⟨τ,G,D3,s,r,h,i⟩ =>
 ⟨τ,G,_,s,r,h,λx G1 v H1 h1 k1 d1 r1=>i.nx τ G1 σ H1 h1 k1 (s.mono k1) r1⟩
def zaO(te:TE3):TS3:=λD τ G=>te τ G D.rt
theorem zbY(he:QE X e ta):QS X (.Return (some e) pos) (zaO ta):=(zqH he).imp λD σ H hu=>(by obtain⟨τ,G,D3,s,r,h,i⟩:=hu; exact⟨τ,G,_,s,r,h,i.rt⟩)
def zg5:TS3:=λD _ G=>D.rt .non G
theorem zst:QS X (.Return none pos) zg5:=zo6.imp λD σ H hu=>(by obtain⟨τ,G,D3,s,r,h,i⟩:=hu; exact i.rt .non G .non H h (Kp.refl _) .non r)
def zaS(c:TT3)(t u:TS3):TS3:=λD τ G=>c τ G λb G1=>if b=true then t D τ G1 else u D τ G1
theorem ze6{A B:List Stmt}(hc:QT X c tA)(ha:QSs X A t)(hb:QSs X B u):QS X (.If c A B pos) (zaS tA t u):=(zsF hc ha hb).imp λD σ H hu=>by
 obtain⟨τ,G,D3,s,r,h,i⟩:=hu
 refine⟨τ,G,_,s,r,h,λc G1 H1 h1 k1 r1=>?_⟩
 cases c with
 | true=>exact⟨τ,G1,D3,s.mono k1,r1,h1,i.mono k1⟩
 | false=>exact⟨τ,G1,D3,s.mono k1,r1,h1,i.mono k1⟩
def zcX:TS3:=λ_ _ _=>False
theorem zlE:QS X st zcX:=zno.imp λD σ H hu=>(by obtain⟨τ,G,D3,s,r,h,i⟩:=hu; exact h)
noncomputable abbrev TG3:=T->St3->Gp->(St3->Gp->Prop)->Prop
def lG(K:KW)(g:TG3):TG:=λv σ H Q=>∃ t τ G Q3,Den K H v t/\Sts K H σ τ/\HR K H G/\g t τ G Q3/\zow K H Q3 Q
abbrev QG(X:Cx)(tg:Expr)(g:TG3):Prop:=PG X tg (lG X.kw g)
def zav(i:Nat):TG3:=λt τ G Q=>Q (τ.set i (some t)) G
theorem _root_.L2.PG.imp{tg:Expr}{g g':TG}(h:PG X tg g)(i:∀ v σ H Q,g' v σ H Q->g v σ H Q):PG X tg g':=λpins s σ H v u Q I r q=>h pins s σ H v u Q I r (i _ _ _ _ q)
theorem zaT(i:Nat){x:Str}(hN:X.N.Nodup)(hi:X.N[i]?=some x:=by rfl)(hx:Loc X.env.scope x:=by first | exact Or.inl rfl | exact Or.inr rfl)(hf:X.fn x=true∨X.env.scope.names.lookup x=some .local:=by first | exact .inl rfl | exact .inr rfl | assumption):QG X (.Name x pos) (zav i) :=
 (zlM hN hi hx hf).imp λv σ H Q hu=>(by obtain⟨t,τ,G,Q3,d,s,r,h,j⟩:=hu; exact j _ G _ H h (Kp.refl _) (s.set d i) r)
def zaV(te:TE3)(i:Nat):TS3:=λD τ G=>te τ G λx G1=>D.nx (τ.set i (some x)) G1
theorem zev(i:Nat){x:Str}{pos':Pos}(hN:X.N.Nodup)(he:QE X e ta)(hi:X.N[i]?=some x:=by rfl)(hx:Loc X.env.scope x:=by first | exact Or.inl rfl | exact Or.inr rfl)(hs:swapsWith e (some (.Name x pos')) pos.line X.env=pure false:=by rfl)
  (hf:X.fn x=true∨X.env.scope.names.lookup x=some .local:=by first | exact .inl rfl | exact .inr rfl | assumption):QS X (.Assign [.Name x pos'] e pos) (zaV ta i) :=
 (zqG hN hi hx he hs hf).imp λD σ H hu=>(by obtain⟨τ,G,D3,s,r,h,j⟩:=hu; exact⟨τ,G,_,s,r,h,λx G1 v H1 h1 k1 d1 r1=>j.nx _ G1 _ H1 h1 k1 ((s.mono k1).set d1 i) r1⟩)
def ziR(te:TE3)(g:TG3):TS3:=λD τ G=>te τ G λx G1=>g x τ G1 D.nx
theorem ztD{tg:Expr}{g:TG3}(he:QE X e ta)(hg:QG X tg g)(hs:swapsWithSole [tg] e pos.line X.env=pure false:=by rfl)(hw:swappedStores [tg] e X.env=pure none:=by rfl)
  (h1:(assignEach [tg] X.env).map (·.2)=[assign tg X.env]:=by rfl):QS X (.Assign [tg] e pos) (ziR ta g):=(zqK he hg hs hw h1).imp λD σ H ⟨τ,G,D3,s,r,h,j⟩ =>
 ⟨τ,G,_,s,r,h,λx G1 v H1 h1 k1 d1 r1=>⟨x,τ,G1,_,d1,s.mono k1,r1,h1,j.nx.mono k1⟩⟩
def zat:TA3:=λ_ G Q=>Q [] G
def zaf(ta:TE3)(r:TA3):TA3:=λτ G Q=>ta τ G λx G1=>r τ G1 λxs G2=>Q (x::xs) G2
end
section
variable {X:Cx}{e a b c o:Expr}{es:List Expr}{pos apos p:Pos}{ta tb tv:TE3}{t:TA3}
theorem qa0:QA X [] zat:=zqV.imp λσ H Q hu=>(by obtain⟨τ,G,Q3,s,r,h,i⟩:=hu; exact i [] G [] H h (Kp.refl _) .nil r)
theorem qa(ha:QE X e ta)(hr:QA X es t)(hs:starEach (e::es) X.env=(false,eval e X.env)::starEach es X.env:=by rfl):QA X (e::es) (zaf ta t):=(zph ha hr hs).imp λσ H Q ⟨τ,G,Q3,s,r,h,i⟩ =>
 ⟨τ,G,_,s,r,h,λx G1 v H1 h1 k1 d1 r1=>⟨τ,G1,_,s.mono k1,r1,h1,λts G2 vs H2 h2 k2 d2 r2=>i _ G2 _ H2 h2 (k1.trans k2) (.cons (d1.mono k2) d2) r2⟩⟩
def zbn(t:TA3):TE3:=λτ G Q=>t τ G λxs G1=>xs.length<=1000/\Q (.tup xs) G1
theorem ziT{x1}(h:QA X es t):QE X (.Tuple es x1 pos) (zbn t):=(zqO h).imp λσ H Q ⟨τ,G,Q3,s,r,h,i⟩ =>
 ⟨τ,G,_,s,r,h,λts G1 vs H1 h1 k1 d1 r1=>⟨by rw[d1.length]; exact Nat.le_of_lt (zhX h1.1),λp hp=>i _ G1 _ _ h1.2 (k1.trans (Kp.new hp)) (.tup (SqT.of zak) (d1.mono (Kp.new hp))) (r1.lay hp)⟩⟩
def zbN(t:TA3):TE3:=λτ G Q=>t τ G λxs G1=>xs.length<=1000/\∀ p,G1 p=none->Q (.ref p) (updG G1 p (.lst xs))
theorem znj(h:QA X es t):QE X (.List es pos) (zbN t):=(zqR h).imp λσ H Q ⟨τ,G,Q3,s,r,h,i⟩ =>
 ⟨τ,G,_,s,r,h,λts G1 vs H1 h1 k1 d1 r1=>⟨by rw[d1.length]; exact Nat.le_of_lt (zhX h1.1),λp hp=>i _ _ _ _ (h1.2 p (r1.free hp)) (k1.trans (Kp.new hp)) (.ref p) (r1.new hp ⟨_,zak,d1.mono (Kp.new hp)⟩)⟩⟩
def Att(K:W.Frag)(C:Addr)(f:Str):Prop:=Cls K C/\zgk K C f
theorem ziO.lookup{K:KW}{H:Hp}{f:Str}:∀ {xs:List (Str×V)} {fs:List (Str×T)} {t:T},ziO K H xs fs->fs.lookup f=some t->∃ v,xs.lookup f=some v/\Den K H v t
 | _,_,_,.nil,e=>by simp at e
 | (g,x)::xs,(g',y)::fs,t,.cons ⟨e1,d⟩ r,e=>by
  simp only at e1 d
  subst e1
  rw[List.lookup_cons]at e ⊢
  cases hb:f==g with
  | true=>rw[hb]at e; cases e; exact⟨x,rfl,d⟩
  | false=>rw[hb]at e; exact ziO.lookup r e
theorem ziO.lookupN{K:KW}{H:Hp}{f:Str}:∀ {xs:List (Str×V)} {fs:List (Str×T)},ziO K H xs fs->fs.lookup f=none->xs.lookup f=none
 | _,_,.nil,e=>rfl
 | (g,x)::xs,(g',y)::fs,.cons ⟨e1,d⟩ r,e=>by
  simp only at e1 d
  subst e1
  rw[List.lookup_cons]at e ⊢
  cases hb:f==g with
  | true=>rw[hb]at e; cases e
  | false=>rw[hb]at e; exact ziO.lookupN r e
theorem ziO.length{K:KW}{H:Hp}{xs:List (Str×V)}{fs:List (Str×T)}(h:ziO K H xs fs):xs.length=fs.length:=Paired.length h
noncomputable def zgR(f:Str)(t:T):List (Str×T)->List (Str×T)
 | []=>[(f,t)]
 | (g,x)::r=>match f==g with
  | true=>(g,t)::r
  | false=>(g,x)::zgR f t r
theorem ziO.put{K:KW}{H:Hp}{f:Str}{v:V}{t:T}(d:Den K H v t):∀ {xs:List (Str×V)} {fs:List (Str×T)},ziO K H xs fs->ziO K H (zhn f v xs) (zgR f t fs)
 | _,_,.nil=>.cons ⟨rfl,d⟩ .nil
 | (g,x)::xs,(g',y)::fs,.cons ⟨e1,d'⟩ r=>by
  simp only at e1 d'
  subst e1
  unfold zhn zgR
  by_cases z:g=f
  ·subst z
   rw[if_pos rfl,beq_self_eq_true]
   exact .cons ⟨rfl,d⟩ r
  ·rw[if_neg z,beq_eq_false_iff_ne.mpr (Ne.symm z)]
   exact .cons ⟨rfl,d'⟩ (ziO.put d r)
def zmt(K:W.Frag)(x:T)(G:Gp)(f:Str)(Q:VK3):Prop:=match x with
 | .ref p=>(match G p with
  | some (.ins C fs)=>(match fs.lookup f with
   | some v=>Att K C f/\Q v G
   | none=>False)
  | _=>False)
 | _=>False
def zb3(K:W.Frag)(ta:TE3)(f:Str):TE3:=λτ G Q=>ta τ G λx G1=>zmt K x G1 f Q
theorem zb9{f:Str}(he:QE X e ta)(hb:attributeBase e f X.env (eval e X.env)=eval e X.env:=by rfl):QE X (.Attribute e f pos) (zb3 X.K ta f):=(zqT he hb).imp λσ H Q hu=>by
 obtain⟨τ,G,Q3,s,r,h,i⟩:=hu
 refine⟨τ,G,_,s,r,h,λx G1 v H1 h1 k1 d1 r1=>?_⟩
 cases d1 with
 | ref q =>
  simp only[zmt]at h1
  split at h1
  ·rename_i C fs e1
   split at h1
   ·rename_i y e2
    obtain⟨dx,xs,e3,F⟩:=r1 q _ e1
    obtain⟨w,e4,d⟩:=F.lookup e2
    exact⟨q,C,dx,xs,w,rfl,e3,h1.1.1,h1.1.2,e4,i y G1 w H1 h1.2 k1 d r1⟩
   ·exact h1.elim
  ·exact h1.elim
 | _=>exact False.elim h1
def zjT(K:W.Frag)(x y:T)(f:Str)(G:Gp)(Q:Gp->Prop):Prop:=match x with
 | .ref p=>(match G p with
  | some (.ins C fs)=>Att K C f/\fs.length < 1000/\Q (updG G p (.ins C (zgR f y fs)))
  | _=>False)
 | _=>False
def zap(K:W.Frag)(ta tv:TE3)(f:Str):TS3:=λD τ G=>tv τ G λy G1=>ta τ G1 λx G2=>zjT K x y f G2 (D.nx τ)
theorem zaz{f:Str}{v:Expr}{pos':Pos}(ha:QE X o ta)(hv:QE X v tv)(hs:swapsWith v (some (.Attribute o f pos')) pos.line X.env=pure false:=by rfl):QS X (.Assign [.Attribute o f pos'] v pos) (zap X.K ta tv f) :=
 (zqJ ha hv hs).imp λD σ H hu=>by
  obtain⟨τ,G,D3,s,r,h,i⟩:=hu
  refine⟨τ,G,_,s,r,h,λy G1 v H1 h1 k1 d1 r1=>⟨τ,G1,_,s.mono k1,r1,h1,λx G2 u H2 h2 k2 d2 r2=>?_⟩⟩
  cases d2 with
  | ref q =>
   simp only[zjT]at h2
   split at h2
   ·rename_i C fs e1
    obtain⟨dx,xs,e3,F⟩:=r2 q _ e1
    have km:Kp H2 (upd H2 q (.ins C dx (zhn f v xs))):=Kp.mut (by rw[e3]; trivial)
    refine⟨q,C,dx,xs,rfl,e3,h2.1.1,h2.1.2,by rw[F.length]; exact h2.2.1,?_⟩
    exact i.nx τ _ σ _ h2.2.2 ((k1.trans k2).trans km) (s.mono ((k1.trans k2).trans km)) (r2.put e1 ⟨dx,_,zak,(F.put (d1.mono k2)).mono km⟩)
   ·exact h2.elim
  | _=>exact False.elim h2
noncomputable abbrev Sp3:=List T->Gp->VK3->Prop
def lSp(K:KW)(sp:Sp3):Sp:=λvs H Q _=>∃ ts G Q3,Dens K H vs ts/\HR K H G/\sp ts G Q3/\Imp K H Q3 Q
abbrev FOk(P:Program)(w:World)(K:W.Frag)(mg:Str->Option Value)(base:Heap)(k:Nat)(f:Addr)(fd:FuncData)(ps:List Str)(sp:Sp3):Prop:=FnOk P w K mg base CX0 k f fd ps (lSp ⟨K,w,P⟩ sp)
theorem ok3{P:Program}{w:World}{K:W.Frag}{mg:Str->Option Value}{base:Heap}{x qual:Str}{st:Stmt}{f:Addr}{fd:FuncData}{N ps:List Str}{k:Nat}{sp:Sp3}(F:Fun K x qual st f fd)(S:FnScope N ps (zac st))
  (len:∀ ts G Q,sp ts G Q->ts.length=ps.length)
  (hbody:∀ (cdv:Value) (A:Around) (outer:List Env) (s:Shared) (H:Hp) (E:XK),Room k (A.deeper (envOfC qual (zac st) s.heap.objs.size f cdv)) ->
   ∃ t,QSs (zos CX0 P w K mg base N qual (zac st) f cdv A outer s H E).nox (zcG st) t/\∀ ts G Q,sp ts G Q->t { nx:=λ_ G'=>Q .non G',rt:=Q } (zad N.length ts) G) :
  FOk P w K mg base (k+1) f fd ps sp:=by
 refine F.ok S (λvs H Q E hu=>(by obtain⟨ts,G,Q3,d,_,h,_⟩:=hu; exact d.length.trans (len ts G Q3 h))) (λcdv A outer s H vs Q E hr h=>?_);obtain⟨ts,G,Q3,d,r,h,i⟩:=h;obtain⟨t,h1,h2⟩:=hbody cdv A outer s H E hr;refine⟨_,h1,zad N.length ts,G,_,Sts.start N d,r,h2 ts G Q3 h,?_⟩;exact⟨λτ G' σ' H' q k _ r'=>i _ G' _ H' q k .non r',i,λ_ _ _ _ q _ _ _=>False.elim q,λ_ _ _ _ q _ _ _=>False.elim q⟩
def zar(sp:Sp3)(t:TA3):TE3:=λτ G Q=>t τ G λts G1=>sp ts G1 Q
section
variable {k:Nat}{f C:Addr}{fd:FuncData}{ps:List Str}{sp:Sp3}{x m:Str}
theorem zsO{K:KW}{σ:L2.St}{H:Hp}{Q:VK}(h:lE K (zar sp t) σ H Q):zqd (lSp K sp) [] E0 (lA K t) σ H Q:=by
 obtain⟨τ,G,Q3,s,r,h,i⟩:=h;exact⟨τ,G,_,s,r,h,λts G1 vs H1 h1 k1 d1 r1=>⟨ts,G1,Q3,by rw[List.append_nil]; exact d1,r1,h1,i.mono k1⟩⟩
theorem zsD(F:FOk X.prog X.w X.K X.mg X.base k f fd ps sp)(hr:Room k X.A)(hm:X.mg x=some (.ref f))(hk:W.keepIn X.K (.ref f)=true)(hb:zcU X.K fd ps [])
  (ha:QA X (e::es) t) (hg:Gl X x:=by rfl) (hdb:(x==("__debug__":Str))=false:=by decide) (he:starEach (e::es) X.env=(false,eval e X.env)::starEach es X.env:=by rfl) (hpl:(backTo pos (starEach es X.env)).any (·.1)=false:=by rfl) :
  QE X (.Call (.Name x p) (e::es) [] pos) (zar sp t):=(zpg F hr hg hm hk hb .nil zlO ha hdb he hpl).imp λσ H Q h=>zsO h
def zia(x:T)(C:Addr)(m:Str)(G:Gp)(Q:Prop):Prop:=match x with
 | .ref p=>(match G p with
  | some (.ins C' fs)=>(C'=C/\fs.lookup m=none)/\Q
  | _=>False)
 | _=>False
def zay(C:Addr)(m:Str)(sp:Sp3)(ta:TE3)(t:TA3):TE3:=λτ G Q=>ta τ G λx G1=>zia x C m G1 (t τ G1 λts G2=>sp (x::ts) G2 Q)
theorem zri{K:KW}{σ:L2.St}{H:Hp}{Q:VK}(h:lE K (zay C m sp ta t) σ H Q):zoH C m (lSp K sp) [] E0 (lE K ta) (lA K t) σ H Q:=by
 obtain⟨τ,G,Q3,s,r,h,i⟩:=h;refine⟨τ,G,_,s,r,h,λx G1 v H1 h1 k1 d1 r1=>?_⟩;cases d1 with
 | ref q =>
  simp only[zia]at h1;split at h1
  ·rename_i C' fs e1;obtain⟨⟨e2,e3⟩,h1⟩:=h1;subst e2;obtain⟨dx,xs,e4,F⟩:=r1 q _ e1;refine⟨q,dx,xs,rfl,e4,F.lookupN e3,?_⟩;exact⟨τ,G1,_,s.mono k1,r1,h1,λts G2 vs H2 h2 k2 d2 r2=>⟨.ref q::ts,G2,Q3,by rw[List.append_nil]; exact .cons (.ref q) d2,r2,h2,i.mono (k1.trans k2)⟩⟩
  ·exact h1.elim
 | _=>exact False.elim h1
theorem zsu{pl:Sem Bool}(he:QE X o ta)(c:Cls X.K C)(hm:Meth X.K C m f)(F:FOk X.prog X.w X.K X.mg X.base k f fd ps sp)(hr:Room k X.A)(hb:zcU X.K fd ps [])(ha:QA X (e::es) t)
  (hst:starEach (e::es) X.env=(false,eval e X.env)::starEach es X.env:=by rfl) (hpl:(backTo pos (starEach es X.env)).any (·.1)=false:=by rfl)
  (ht:eval (.Call (.Attribute o m apos) (e::es) [] pos) X.env=(do
   let ov <- eval o X.env
   standAt apos.atName
   let (f,first) <- holding [ov] (getMethod ov m pl)
   callWith pos f first (backTo pos (starEach (e::es) X.env)) (backToKw pos (keywordEach [] X.env))):=by rfl) :
  QE X (.Call (.Attribute o m apos) (e::es) [] pos) (zay C m sp ta t):=(zpb he c hm F hr hb .nil zlO ha hst hpl ht).imp λσ H Q h=>zri h
def zaq(C:Addr)(m:Str)(sp:Sp3)(ta:TE3):TE3:=λτ G Q=>ta τ G λx G1=>zia x C m G1 (sp [x] G1 Q)
theorem zqx{pl:Sem Bool}(he:QE X o ta)(c:Cls X.K C)(hm:Meth X.K C m f)(F:FOk X.prog X.w X.K X.mg X.base k f fd ps sp)(hr:Room k X.A)(hb:zcU X.K fd ps [])
  (ht:eval (.Call (.Attribute o m apos) [] [] pos) X.env=(do
   let ov <- eval o X.env
   standAt apos.atName
   let (f,first) <- holding [ov] (getMethod ov m pl)
   callWith pos f first (backTo pos (starEach [] X.env)) (backToKw pos (keywordEach [] X.env))):=by rfl) :
  QE X (.Call (.Attribute o m apos) [] [] pos) (zaq C m sp ta):=(znv he c hm F hr hb .nil zlO ht).imp λσ H Q h=>by
 have h':lE X.kw (zay C m sp ta zat) σ H Q:=h
 have:=zri h'
 obtain⟨τ,G,Q3,s,r,h,i⟩:=h
 refine⟨τ,G,_,s,r,h,λx G1 v H1 h1 k1 d1 r1=>?_⟩
 cases d1 with
 | ref q =>
  simp only[zia]at h1
  split at h1
  ·rename_i C' fs e1
   obtain⟨⟨e2,e3⟩,h1⟩:=h1
   subst e2
   obtain⟨dx,xs,e4,F⟩:=r1 q _ e1
   exact⟨q,dx,xs,rfl,e4,F.lookupN e3,⟨[.ref q],G1,Q3,.cons (.ref q) .nil,r1,h1,i.mono k1⟩⟩
  ·exact h1.elim
 | _=>exact False.elim h1
def zbe(C:Addr)(sp:Sp3)(t:TA3):TE3:=λτ G Q=>t τ G λts G1=>∀ x,G1 x=none->sp (.ref x::ts) (updG G1 x (.ins C [])) λv G2=>match v with
 | .non=>Q (.ref x) G2
 | _=>False
theorem zrj{K:KW}{σ:L2.St}{H:Hp}{Q:VK}(h:lE K (zbe C sp t) σ H Q):zoI C (lSp K sp) [] E0 (lA K t) σ H Q:=by
 obtain⟨τ,G,Q3,s,r,h,i⟩:=h;refine⟨τ,G,_,s,r,h,λts G1 vs H1 h1 k1 d1 r1 x dx nx ndx ne=>?_⟩;have nx':(upd H1 dx (.own x)) x=none:=by rw[zal (Ne.symm ne)]; exact nx
 have kk:Kp H1 (upd (upd H1 dx (.own x)) x (.ins C dx [])):=(Kp.new ndx).trans (Kp.new nx');refine⟨.ref x::ts,_,_,by rw[List.append_nil]; exact .cons (.ref x) (d1.mono kk),(r1.lay ndx).new (o:=.ins C []) nx' ⟨dx,[],zak,.nil⟩,h1 x (r1.free nx),λy G' v H' q k d r'=>?_⟩;cases d with
 | non=>exact⟨rfl,i _ G' _ H' q ((k1.trans kk).trans k) (.ref x) r'⟩
 | _=>exact False.elim q
theorem zsv(M:Mk X.K C f)(F:FOk X.prog X.w X.K X.mg X.base k f fd ps sp)(hr:Room (k+1) X.A)(hm:X.mg x=some (.ref C))(hb:zcU X.K fd ps [])(ha:QA X (e::es) t)
  (hg:Gl X x:=by rfl) (hdb:(x==("__debug__":Str))=false:=by decide) (he:starEach (e::es) X.env=(false,eval e X.env)::starEach es X.env:=by rfl) (hpl:(backTo pos (starEach es X.env)).any (·.1)=false:=by rfl) :
  QE X (.Call (.Name x p) (e::es) [] pos) (zbe C sp t):=(zpc M F hr hg hm hb .nil zlO ha hdb he hpl).imp λσ H Q h=>zrj h
theorem zqz(M:Mk X.K C f)(F:FOk X.prog X.w X.K X.mg X.base k f fd ps sp)(hr:Room (k+1) X.A)(hm:X.mg x=some (.ref C))(hb:zcU X.K fd ps [])
  (hg:Gl X x:=by rfl) (hdb:(x==("__debug__":Str))=false:=by decide) :
  QE X (.Call (.Name x p) [] [] pos) (zbe C sp zat):=(znw M F hr hg hm hb .nil zlO hdb).imp λσ H Q h=>by
 have:=zrj h
 obtain⟨τ,G,Q3,s,r,h,i⟩:=h
 refine λx dx nx ndx ne=>?_
 have nx':(upd H dx (.own x)) x=none:=by rw[zal (Ne.symm ne)]; exact nx
 have kk:Kp H (upd (upd H dx (.own x)) x (.ins C dx [])):=(Kp.new ndx).trans (Kp.new nx')
 refine⟨[.ref x],_,_,.cons (.ref x) .nil,(r.lay ndx).new (o:=.ins C []) nx' ⟨dx,[],zak,.nil⟩,h x (r.free nx),λy G' v H' q k d r'=>?_⟩
 cases d with
 | non=>exact⟨rfl,i _ G' _ H' q (kk.trans k) (.ref x) r'⟩
 | _=>exact False.elim q
end
def LC(K:KW)(r3:List T->Gp->VK3->Prop)(r:List V->Hp->VK->Prop):Prop:=∀ H G xs ts Q Q3,Dens K H xs ts->HR K H G->r3 ts G Q3->Imp K H Q3 Q->r xs H Q
def wCB(r3:List T->Gp->VK3->Prop)(t:TA3):TE3:=λτ G Q=>t τ G λts G1=>r3 ts G1 Q
theorem lCB{K:KW}{r3:List T->Gp->VK3->Prop}{r:List V->Hp->VK->Prop}(l:LC K r3 r){σ:L2.St}{H:Hp}{Q:VK}(h:lE K (wCB r3 t) σ H Q):tCB r (lA K t) σ H Q:=by
 obtain⟨τ,G,Q3,s,r,h,i⟩:=h;exact⟨τ,G,_,s,r,h,λts G1 vs H1 h1 k1 d1 r1=>l H1 G1 vs ts Q Q3 d1 r1 h1 (i.mono k1)⟩
theorem zgP{x:Str}{id:String}{r3:List T->Gp->VK3->Prop}{r:List V->Hp->VK->Prop}(hc:zci X (.builtin id) r)(l:LC X.kw r3 r)(hm:X.mg x=none)(hv:bootBuiltins x=some (.builtin id))(ha:QA X (e::es) t)(hg:Gl X x:=by rfl)(hn:x≠"__name__":=by decide) (hdb:(x==("__debug__":Str))=false:=by decide)
  (he:starEach (e::es) X.env=(false,eval e X.env)::starEach es X.env:=by rfl) (hpl:(backTo pos (starEach es X.env)).any (·.1)=false:=by rfl):QE X (.Call (.Name x p) (e::es) [] pos) (wCB r3 t) :=
 (zny hc hg hm hv ha hn hdb he hpl).imp λσ H Q h=>lCB l h
theorem zlH{x:Str}{ty:String}{r3:List T->Gp->VK3->Prop}{r:List V->Hp->VK->Prop}(hc:zci X (.type ty) r)(l:LC X.kw r3 r)(hm:X.mg x=none)(hv:bootBuiltins x=some (.type ty))(ha:QA X (e::es) t)(hg:Gl X x:=by rfl)(hn:x≠"__name__":=by decide) (hdb:(x==("__debug__":Str))=false:=by decide)
  (he:starEach (e::es) X.env=(false,eval e X.env)::starEach es X.env:=by rfl) (hpl:(backTo pos (starEach es X.env)).any (·.1)=false:=by rfl):QE X (.Call (.Name x p) (e::es) [] pos) (wCB r3 t) :=
 (zlN hc hg hm hv ha hn hdb he hpl).imp λσ H Q h=>lCB l h
noncomputable def zaJ(x:T)(G:Gp):Option (List T):=match x with
 | .tup ts=>some ts
 | .fro ts=>some ts
 | .ref p=>(match G p with
  | some (.lst ts)=>some ts
  | _=>none)
 | _=>none
theorem zd7{K:KW}{H:Hp}{G:Gp}{v:V}{x:T}{ts:List T}(d:Den K H v x)(r:HR K H G)(h:zaJ x G=some ts):∃ p xs,v=.ref p/\(SqL K.k H p xs∨SqT K.k H p xs)/\Dens K H xs ts:=by
 cases d with
 | tup q ds=>cases h; exact⟨_,_,rfl,.inr q,ds⟩
 | fro q ds=>cases h; exact⟨_,_,rfl,.inl q.sq,ds⟩
 | ref a =>
  simp only[zaJ]at h;split at h
  ·rename_i us e; cases h;obtain⟨xs,e1,ds⟩:=r a _ e;exact⟨a,xs,rfl,.inl (SqL.of e1),ds⟩
  ·cases h
 | _=>cases h
def ix3:R3:=λx y G Q=>match y with
 | .int i=>(match zaJ x G with
  | some ts=>(match atI ts i with
   | some v=>Q v G
   | none=>False)
  | none=>False)
 | _=>False
theorem zpQ{K:KW}{H:Hp}{xs:List V}{ts:List T}{i:Int}{t:T}(d:Dens K H xs ts)(h:atI ts i=some t):∃ v,atI xs i=some v/\Den K H v t:=by
 unfold atI at h ⊢;rw[d.length];cases e:ixN ts.length i with
 | none=>rw[e]at h; cases h
 | some j =>
  rw[e]at h;exact d.get h
end
structure ItOk(K:KW)(H1:Hp)(J:It)(ts:List T)(S:Gp->Prop):Prop where
 go:∀ i H G,Kp H1 H->HR K H G->S G->i < ts.length->J.go i H
 yld:∀ i H G x H',Kp H1 H->HR K H G->S G->i < ts.length->J.yld i H x H'->Kp H H'/\HR K H' G/\∃ t,ts[i]?=some t/\Den K H' x t
 stop:∀ i H G,Kp H1 H->HR K H G->S G->ts.length<=i->J.stop i H
noncomputable abbrev TI3:=St3->Gp->(List T->(Gp->Prop)->Gp->Prop)->Prop
def lIt(K:KW)(it:TI3):TI:=λσ H R=>∃ τ G Q3,Sts K H σ τ/\HR K H G/\it τ G Q3/\∀ ts S G' J H',Q3 ts S G'->Kp H H'->HR K H' G'->ItOk K H' J ts S->R J H'
abbrev QI(X:Cx)(tg iter:Expr)(it:TI3):Prop:=PI X tg iter (lIt X.kw it)
def zms(g:TG3)(tb:TS3)(S:Gp->Prop):List T->TS3
 | []=>λD τ G=>S G/\D.nx τ G
 | x::r=>λD τ G=>S G/\g x τ G λτ' G'=>tb { D with nx:=zms g tb S r D,ct:=zms g tb S r D,bk:=D.nx } τ' G'
def zk3(it:TI3)(g:TG3)(tb:TS3):TS3:=λD τ G=>it τ G λts S G1=>zms g tb S ts D τ G1
section
variable {X:Cx}{tg iter:Expr}{body:List Stmt}{it:TI3}{g:TG3}{tb:TS3}{pos:Pos}
theorem _root_.L2.PI.imp{wi wi':TI}(h:PI X tg iter wi)(i:∀ σ H R,wi' σ H R->wi σ H R):PI X tg iter wi':=λpins s σ H R I q=>h pins s σ H R I (i _ _ _ q)
theorem zkF(hi:QI X tg iter it)(hg:QG X tg g)(hb:QSs X body tb)(hp:PassesOwn (model X.prog X.w) X.A X.env X.xe:=by exact PassesOwn.never)(hc:X.calm=true:=by rfl)
  (hs:∀ x,foldedSetIterable iter X.env x=pure x:=by intro _; rfl):QS X (.For tg iter body [] pos) (zk3 it g tb):=(zqI hp hc hi hg hb hs).imp λD σ H hu=>by
 obtain⟨τ,G,D3,s,r,h,i⟩:=hu
 refine⟨τ,G,_,s,r,h,λts S G1 J H1 h1 k1 r1 ok=>?_⟩
 refine⟨λj m σ' H'=>m=ts.length - j/\j<=ts.length/\Kp H1 H'/\∃ τ' G',Sts X.kw H' σ' τ'/\HR X.kw H' G'/\zms g tb S (ts.drop j) D3 τ' G',⟨_,rfl,Nat.zero_le _,Kp.refl _,τ,G1,s.mono k1,r1,by simpa using h1⟩,?_⟩
 rintro j m σ' H' ⟨rfl,hj,k,τ',G',s',r',h'⟩
 by_cases hlt:j < ts.length
 ·obtain⟨x,hx⟩:∃ x,ts[j]?=some x:=⟨ts[j],by simp[hlt]⟩
  have ed:ts.drop j=x::ts.drop (j+1):=by
   rw[List.drop_eq_getElem_cons hlt]
   congr 1
   rw[List.getElem?_eq_getElem hlt]at hx;exact Option.some.inj hx
  rw[ed]at h';obtain⟨hS,h'⟩:=h';refine .inr ⟨ok.go j H' G' k r' hS hlt,λσ2 H2=>Kp H1 H2/\∃ τ2 G2,Sts X.kw H2 σ2 τ2/\HR X.kw H2 G2/\zms g tb S (ts.drop (j+1)) D3 τ2 G2,λσ2 H2 hu=>(by obtain⟨k2,q2⟩:=hu; exact⟨_,by lia,rfl,hlt,k2,q2⟩),λy H2 hy=>?_⟩;obtain⟨k2,r2,t,et,dt⟩:=ok.yld j H' G' y H2 k r' hS hlt hy;rw[hx]at et; cases et;refine⟨x,τ',G',_,dt,s'.mono k2,r2,h',λτ3 G3 σ3 H3 q3 k3 s3 r3=>?_⟩;have kk:Kp H H3:=(k1.trans k).trans (k2.trans k3);refine⟨τ3,G3,_,s3,r3,q3,⟨λτ4 G4 σ4 H4 q4 k4 s4 r4=>⟨(k.trans k2).trans (k3.trans k4),τ4,G4,s4,r4,q4⟩,i.rt.mono kk,i.nx.mono kk,λτ4 G4 σ4 H4 q4 k4 s4 r4=>⟨(k.trans k2).trans (k3.trans k4),τ4,G4,s4,r4,q4⟩⟩⟩
 ·have ed:ts.drop j=[]:=List.drop_eq_nil_of_le (by lia);rw[ed]at h';obtain⟨hS,h'⟩:=h';exact .inl ⟨ok.stop j H' G' k r' hS (by lia),i.nx τ' G' σ' H' h' (k1.trans k) s' r'⟩
variable {l:Expr}{tl:TE3}{p:Pos}{a b:Expr}{t:TA3}
def zce(tl:TE3):TI3:=λτ G R=>tl τ G λx G1=>match x with
 | .tup ts=>R ts (λ_=>True) G1
 | .fro ts=>R ts (λ_=>True) G1
 | .ref q=>(match G1 q with
  | some (.lst ts)=>R ts (λG=>G q=some (.lst ts)) G1
  | _=>False)
 | _=>False
noncomputable def zcs(lo hi:Int):List T:=(List.range (hi - lo).toNat).map λ(k:Nat)=>T.int (lo+k)
theorem zrs{K:KW}{H1:Hp}{lo hi:Int}:ItOk K H1 (Itr lo (hi - lo).toNat) (zcs lo hi) (λ_=>True) where
 go:=λi H G _ _ _ hk=>by
  have e:(zcs lo hi).length=(hi - lo).toNat:=by simp[zcs]
  show i < (hi - lo).toNat
  lia
 yld:=λi H G x H' _ r _ hk hy=>by
  obtain⟨e1,e2⟩:=hy
  subst e1; subst e2
  have e:(zcs lo hi).length=(hi - lo).toNat:=by simp[zcs]
  have hi':i < (hi - lo).toNat:=by lia
  refine⟨Kp.refl _,r,.int (lo+i),?_,.int _⟩
  unfold zcs
  rw[List.getElem?_map,List.getElem?_range hi']
  rfl
 stop:=λi H G _ _ _ hk=>by
  have e:(zcs lo hi).length=(hi - lo).toNat:=by simp[zcs]
  show(hi - lo).toNat<=i
  lia
def iR1(t:TA3):TI3:=λτ G R=>t τ G λts G1=>match ts with
 | [.int j]=>(-(2 ^ 62)<=j/\j < 2 ^ 62)/\R (zcs 0 j) (λ_=>True) G1
 | _=>False
def iR2(t:TA3):TI3:=λτ G R=>t τ G λts G1=>match ts with
 | [.int i,.int j]=>(-(2 ^ 62)<=i/\i < 2 ^ 62/\-(2 ^ 62)<=j/\j < 2 ^ 62)/\R (zcs i j) (λ_=>True) G1
 | _=>False
theorem zi8(hm:X.mg "range"=none) (ha:QA X [a] t) (hg:Gl X "range":=by rfl) (hs:starEach [a] X.env=[(false,eval a X.env)]:=by rfl):QI X tg (.Call (.Name "range" p) [a] [] pos) (iR1 t) :=
 (zlL hg hm ha hs).imp λσ H R hu=>by
  obtain⟨τ,G,Q3,s,r,h,i⟩:=hu
  refine⟨τ,G,_,s,r,h,λts G1 vs H1 h1 k1 d1 r1=>?_⟩
  split at h1
  ·rename_i j
   cases d1 with
   | cons d d2 =>
    cases d2; cases d
    refine⟨j,rfl,h1.1.1,h1.1.2,i _ _ G1 _ H1 h1.2 k1 r1 ?_⟩
    have:=zrs (K:=X.kw) (H1:=H1) (lo:=0) (hi:=j)
    rwa [show(j - 0).toNat=j.toNat by rw[Int.sub_zero]]at this
  ·exact h1.elim
end
noncomputable def zbu(sel:List (Option Nat))(τ:St3):St3:=sel.map λo=>o.bind λj=>(τ[j]?).join
theorem Sts.vis{K:KW}{H:Hp}{σ:L2.St}{τ:St3}(s:Sts K H σ τ):∀ (sel:List (Option Nat)),Sts K H (zlc sel σ) (zbu sel τ)
 | []=>.nil
 | none::r=>.no (Sts.vis s r)
 | some j::r=>by
  show Sts K H ((σ[j]?).join::zlc r σ) ((τ[j]?).join::zbu r τ)
  cases e:(τ[j]?).join with
  | none=>exact .no (Sts.vis s r)
  | some t =>
   have e':τ[j]?=some (some t):=by
    cases q:τ[j]? with
    | none=>rw[q]at e; cases e
    | some z=>rw[q]at e; simp at e; rw[e]
   obtain⟨v,e2,d⟩:=s.get e';rw[e2];exact .yes d (Sts.vis s r)
def zeY(g:TG3)(tc:TT3)(te:TE3)(S:Gp->Prop):List T->St3->List T->Gp->(List T->Gp->Prop)->Prop
 | [],_,acc,G,Q=>S G/\Q acc G
 | x::r,τ,acc,G,Q=>S G/\g x τ G λτ2 G2=>tc τ2 G2 λb G3=>if b=true then te τ2 G3 λy G4=>zeY g tc te S r τ (acc++[y]) G4 Q else zeY g tc te S r τ acc G3 Q
def zaW(sel:List (Option Nat))(it:TI3)(g:TG3)(tc:TT3)(te:TE3):TE3:=λτ G Q=>it τ G λts S G1=>ts.length<=1000000/\zeY g tc te S ts (zbu sel τ) [] G1 λacc G2=>∀ d,G2 d=none->Q (.ref d) (updG G2 d (.lst acc))
def zah:TT3:=λ_ G Q=>Q true G
section
variable {X:Cx}{scope:Scope}{N:List Str}{sel:List (Option Nat)}{elt target iter:Expr}{ifs:List Expr}{it:TI3}{g:TG3}{tc:TT3}{te:TE3}{pos:Pos}
theorem zrm{σ:L2.St}{H:Hp}{Q:VK}(h:lE X.kw (zaW sel it g tc te) σ H Q):zm8 sel (lIt X.kw it) (lG X.kw g) (lT X.kw tc) (lE X.kw te) σ H Q:=by
 obtain⟨τ,G,Q3,s,r,h,i⟩:=h;refine⟨τ,G,_,s,r,h,λts S G1 J H1 h1 k1 r1 ok=>?_⟩;obtain⟨hz,h1⟩:=h1;have hl:(1000000:Nat) < sizeLine:=by rw[sizeLine_eq]; decide
 refine⟨λj m acc H'=>m=ts.length - j/\j<=ts.length/\acc.length<=j/\Kp H1 H'/\∃ acc3 G',Dens X.kw H' acc acc3/\HR X.kw H' G'/\zeY g tc te S (ts.drop j) (zbu sel τ) acc3 G' λacc G2=>∀ d,G2 d=none->Q3 (.ref d) (updG G2 d (.lst acc)),
  ⟨_,rfl,Nat.zero_le _,Nat.le_refl _,Kp.refl _,[],G1,.nil,r1,by simpa using h1⟩,?_⟩
 rintro j m acc H' ⟨rfl,hj,ha,k,acc3,G',d',r',h'⟩;refine⟨by lia,?_⟩;by_cases hlt:j < ts.length
 ·obtain⟨x,hx⟩:∃ x,ts[j]?=some x:=⟨ts[j],by simp[hlt]⟩;have ed:ts.drop j=x::ts.drop (j+1):=by
   rw[List.drop_eq_getElem_cons hlt]
   congr 1
   rw[List.getElem?_eq_getElem hlt]at hx;exact Option.some.inj hx
  rw[ed]at h';obtain⟨hS,h'⟩:=h';refine .inr ⟨ok.go j H' G' k r' hS hlt,λy H2 hy=>?_⟩;obtain⟨k2,r2,t,et,dt⟩:=ok.yld j H' G' y H2 k r' hS hlt hy;rw[hx]at et; cases et;have kk:=(k1.trans k).trans k2;refine⟨x,zbu sel τ,G',_,dt,(s.mono kk).vis sel,r2,h',λτ3 G3 σ3 H3 q3 k3 s3 r3=>?_⟩;refine⟨τ3,G3,_,s3,r3,q3,λb G4 H4 q4 k4 r4=>?_⟩;cases b with
  | false =>
   rw[if_neg Bool.false_ne_true]at q4 ⊢;exact⟨_,by lia,rfl,hlt,by lia,((k.trans k2).trans k3).trans k4,acc3,G4,d'.mono ((k2.trans k3).trans k4),r4,q4⟩
  | true =>
   rw[if_pos rfl]at q4 ⊢;refine⟨τ3,G4,_,s3.mono k4,r4,q4,λz G5 v H5 q5 k5 d5 r5=>?_⟩;exact⟨_,by lia,rfl,hlt,by simp; lia,(((k.trans k2).trans k3).trans k4).trans k5,acc3++[z],G5,(d'.mono (((k2.trans k3).trans k4).trans k5)).append (.cons d5 .nil),r5,q5⟩
 ·have ed:ts.drop j=[]:=List.drop_eq_nil_of_le (by lia);rw[ed]at h';obtain⟨hS,h'⟩:=h';refine .inl ⟨ok.stop j H' G' k r' hS (by lia),λd hd=>?_⟩;have kn:=Kp.new (o:=.lst acc) hd;exact i _ _ _ _ (h' d (r'.free hd)) ((k1.trans k).trans kn) (.ref d) (r'.new (o:=.lst acc3) hd ⟨acc,zak,d'.mono kn⟩)
abbrev zr1(X:Cx)(ifs:List Expr)(t:TT3):Prop:=zp0 X ifs (lT X.kw t)
theorem zi7{X:Cx}:zr1 X [] zah:=λpins s σ H Q I h=>by
 obtain⟨τ,G,Q3,s',r,h,i⟩:=h
 exact znr pins s σ H Q I (i true G H h (Kp.refl _) r)
theorem zoX{X:Cx}{c:Expr}{t:TT3}(hc:QT X c t):zr1 X [c] t:=znq hc
theorem zh6(N:List Str)(sel:List (Option Nat))(B:BlkOk X scope N sel)(hi:QI X target iter it)
  (hg:∀ fp s H C,QG (blk X scope N fp s H C) target g) (ht:∀ fp s H C,zr1 (blk X scope N fp s H C) ifs tc) (he:∀ fp s H C,QE (blk X scope N fp s H C) elt te)
  (hs:∀ x,foldedSetIterable iter X.env x=pure x:=by intro _; rfl) (hc:X.calm=true:=by rfl):QE X (.ListComp elt [⟨target,iter,ifs,0⟩] scope pos) (zaW sel it g tc te) :=
 (zpe hc B hi hg ht he hs).imp λσ H Q h=>zrm h
theorem zjQ(i:Nat)(N:List Str)(sel:List (Option Nat)){y:Str}{py spos:Pos}(hN:X.N.Nodup)(B:BlkOk X scope N sel)(hi:QI X target iter it)
  (hg:∀ fp s H C,QG (blk X scope N fp s H C) target g) (ht:∀ fp s H C,zr1 (blk X scope N fp s H C) ifs tc) (he:∀ fp s H C,QE (blk X scope N fp s H C) elt te)
  (hy:X.N[i]?=some y:=by rfl) (hx:Loc X.env.scope y:=by first | exact Or.inl rfl | exact Or.inr rfl)
  (hsw:swapsWith (.ListComp elt [⟨target,iter,ifs,0⟩] scope pos) (some (.Name y py)) spos.line X.env=pure true:=by rfl)
  (hs:∀ x,foldedSetIterable iter X.env x=pure x:=by intro _; rfl) (hf:X.fn y=true∨X.env.scope.names.lookup y=some .local:=by first | exact .inl rfl | exact .inr rfl | assumption) (hc:X.calm=true:=by rfl) :
  QS X (.Assign [.Name y py] (.ListComp elt [⟨target,iter,ifs,0⟩] scope pos) spos) (zaV (zaW sel it g tc te) i) :=
 (zkG hc hN hy hx B hi hg ht he hsw hs hf).imp λD σ H hu=>by
  obtain⟨τ,G,D3,s,r,h,j⟩:=hu
  refine zrm ⟨τ,G,_,s,r,h,λx G1 v H1 h1 k1 d1 r1=>?_⟩
  exact j.nx _ G1 _ H1 h1 k1 ((s.mono k1).set d1 i) r1
end
noncomputable def zdJ(f:T->Option PyData):List T->Option (List PyData)
 | []=>some []
 | t::r=>match f t,zdJ f r with
  | some d,some ds=>some (d::ds)
  | _,_=>none
noncomputable def toD(G:Gp):Nat->T->Option PyData
 | _,.non=>some .none
 | _,.bl b=>some (.bool b)
 | _,.int i=>some (.int i)
 | _,.str x=>if PyData.strOk x=true then some (.str x)else none
 | n+1,.tup ts=>(zdJ (toD G n) ts).map .tuple
 | n+1,.fro ts=>(zdJ (toD G n) ts).map .list
 | n+1,.ref p=>match G p with
  | some (.lst ts)=>(zdJ (toD G n) ts).map .list
  | _=>none
 | _,_=>none
section
variable {X:Cx}{pins:List (Addr×Obj)}{σ:L2.St}{H:Hp}{s:Shared}{G:Gp}
theorem zbS{f:T->Option PyData}{n:Nat}(hf:∀ t v u d,f t=some d->Den X.kw H v t->zaR v u->∃ as,Reads s.heap u d as/\d.canLay0=true/\d.depth<=n) :
  ∀ {ts:List T} {vs:List V} {us:List Value} {ds:List PyData},zdJ f ts=some ds->Dens X.kw H vs ts->zaF vs us->∃ as,ReadsAll s.heap us ds as/\PyData.canLayAll0 ds=true/\PyData.depthAll ds<=n
 | [],_,_,_,h,.nil,.nil=>by cases h; exact⟨_,.nil,rfl,Nat.zero_le _⟩
 | t::r,_,_,ds,h,.cons d dr,.cons rv rr=>by
  unfold zdJ at h
  split at h
  ·rename_i d1 ds1 e1 e2
   cases h
   obtain⟨as,r1,c1,p1⟩:=hf _ _ _ _ e1 d rv
   obtain⟨bs,r2,c2,p2⟩:=zbS hf e2 dr rr
   refine⟨_,.cons r1 r2,?_,?_⟩
   ·simp only[PyData.canLayAll0,c1,c2,Bool.and_self]
   ·simp only[PyData.depthAll]; lia
  ·cases h
theorem zbr(I:Inv X pins σ H s)(r:HR X.kw H G):∀ (n:Nat) (t:T) (v:V) (u:Value) (d:PyData),toD G n t=some d->Den X.kw H v t->zaR v u->∃ as,Reads s.heap u d as/\d.canLay0=true/\d.depth<=n:=by
 intro n;induction n with
 | zero =>
  intro t v u d h dn rv;cases dn with
  | non=>simp only[toD]at h; cases h; cases rv; exact⟨_,.none,rfl,Nat.zero_le _⟩
  | bl b=>simp only[toD]at h; cases h; cases rv; exact⟨_,.bool b,rfl,Nat.zero_le _⟩
  | int i=>simp only[toD]at h; cases h; obtain⟨t,rfl⟩:=rv; exact⟨_,.int i t,rfl,Nat.zero_le _⟩
  | str x =>
   simp only[toD]at h;split at h
   ·rename_i hx; cases h; obtain⟨t,rfl⟩:=rv; exact⟨_,.str x t,by simpa only [PyData.canLay0] using hx,Nat.zero_le _⟩
   ·cases h
  | ref a=>simp only[toD]at h; cases h
  | tup q ds=>simp only[toD]at h; cases h
  | fro q ds=>simp only[toD]at h; cases h
  | ty n=>simp only[toD]at h; cases h
 | succ n ih =>
  intro t v u d h dn rv;cases dn with
  | non=>simp only[toD]at h; cases h; cases rv; exact⟨_,.none,rfl,Nat.zero_le _⟩
  | bl b=>simp only[toD]at h; cases h; cases rv; exact⟨_,.bool b,rfl,Nat.zero_le _⟩
  | int i=>simp only[toD]at h; cases h; obtain⟨t,rfl⟩:=rv; exact⟨_,.int i t,rfl,Nat.zero_le _⟩
  | str x =>
   simp only[toD]at h;split at h
   ·rename_i hx; cases h; obtain⟨t,rfl⟩:=rv; exact⟨_,.str x t,by simpa only [PyData.canLay0] using hx,Nat.zero_le _⟩
   ·cases h
  | ref a =>
   simp only[toD]at h;split at h
   ·rename_i ts e;obtain⟨xs,e1,ds⟩:=r a _ e;obtain⟨its,rr,⟨o,m,e2,c2,_,d2⟩,_⟩:=I.list (SqL.of e1);cases e3:zdJ (toD G n) ts with
    | none=>rw[e3]at h; cases h
    | some ys =>
     rw[e3]at h; cases h;obtain⟨as,r1,c1,p1⟩:=zbS ih e3 ds rr;cases rv
     exact⟨_,.list e2 c2 d2 r1,by simpa only [PyData.canLay0] using c1,by simp only[PyData.depth]; lia⟩
   ·cases h
  | tup q ds =>
   rename_i a xs ts;simp only[toD]at h;obtain⟨its,rr,⟨o,e2,c2,m,d2⟩,_⟩:=I.tuple q;cases e3:zdJ (toD G n) ts with
   | none=>rw[e3]at h; cases h
   | some ys =>
    rw[e3]at h; cases h;obtain⟨as,r1,c1,p1⟩:=zbS ih e3 ds rr;cases rv
    exact⟨_,.tuple e2 c2 d2 r1,by simpa only [PyData.canLay0] using c1,by simp only[PyData.depth]; lia⟩
  | fro q ds =>
   rename_i a xs ts;simp only[toD]at h;obtain⟨its,rr,⟨o,m,e2,c2,_,d2⟩,_⟩:=I.list q.sq;cases e3:zdJ (toD G n) ts with
   | none=>rw[e3]at h; cases h
   | some ys =>
    rw[e3]at h; cases h;obtain⟨as,r1,c1,p1⟩:=zbS ih e3 ds rr;cases rv
    exact⟨_,.list e2 c2 d2 r1,by simpa only [PyData.canLay0] using c1,by simp only[PyData.depth]; lia⟩
  | ty n=>simp only[toD]at h; cases h
end
section
variable {X:Cx}{e a b c o:Expr}{es:List Expr}{pos apos p:Pos}{ta tb tv:TE3}{t:TA3}{k:Nat}
def rD(K:KW)(f:PyData->PyData->Bool):R2:=λx y H Q=>∃ G tx ty dx dy,Den K H x tx/\Den K H y ty/\HR K H G/\toD G 20 tx=some dx/\toD G 20 ty=some dy/\Q (.bl (f dx dy)) H
def wD(f:PyData->PyData->Bool):R3:=λx y G Q=>match toD G 20 x,toD G 20 y with
 | some dx,some dy=>Q (.bl (f dx dy)) G
 | _,_=>False
theorem lD{K:KW}{f:PyData->PyData->Bool}:LR K (wD f) (rD K f):=by
 intro H G x y x3 y3 Q Q3 dx dy r h i;unfold wD at h;split at h
 ·rename_i d1 d2 e1 e2;exact⟨G,x3,y3,d1,d2,dx,dy,r,e1,e2,i _ G _ H h (Kp.refl _) (.bl _) r⟩
 ·exact h.elim
theorem zoi(hr:Room k X.A):OpR X (compareOp .Eq) (rD X.kw PyData.eqv):=by
 intro pins s σ H x y v u Q I rx ry h;obtain⟨G,tx,ty,dx,dy,d1,d2,r,e1,e2,q⟩:=h;obtain⟨as,r1,c1,p1⟩:=zbr I r 20 tx x v dx e1 d1 rx;obtain⟨bs,r2,c2,p2⟩:=zbr I r 20 ty y u dy e2 d2 ry;exact SeqAt.compareEq_reads r1 r2 c1 c2 (by have:=hr.un; lia) ⟨.bl _,H,I,rfl,q⟩
theorem zqZ(hr:Room k X.A):OpR X (compareOp .NotEq) (rD X.kw λa b=>!PyData.eqv a b):=by
 intro pins s σ H x y v u Q I rx ry h;obtain⟨G,tx,ty,dx,dy,d1,d2,r,e1,e2,q⟩:=h;obtain⟨as,r1,c1,p1⟩:=zbr I r 20 tx x v dx e1 d1 rx;obtain⟨bs,r2,c2,p2⟩:=zbr I r 20 ty y u dy e2 d2 ry;exact SeqAt.compareNe_reads r1 r2 c1 c2 (by have:=hr.un; lia) ⟨.bl _,H,I,rfl,q⟩
theorem qeq(hr:Room k X.A)(ha:QE X a ta)(hb:QE X b tb):QE X (.Compare a [.Eq] [b] pos) (wOp (wD PyData.eqv) ta tb):=zs7 (zoi hr) lD ha hb
theorem zjO(hr:Room k X.A)(ha:QE X a ta)(hb:QE X b tb):QT X (.Compare a [.Eq] [b] pos) (zam (wOp (wD PyData.eqv) ta tb)):=zi5 (zoi hr) lD ha hb
theorem zqu(hr:Room k X.A)(ha:QE X a ta)(hb:QE X b tb):QT X (.Compare a [.NotEq] [b] pos) (zam (wOp (wD λa b=>!PyData.eqv a b) ta tb)):=zi5 (zqZ hr) lD ha hb
noncomputable def zis(x y:T)(G:Gp):Option Bool:=match zaJ y G,toD G 20 x with
 | some ts,some d=>(zdJ (toD G 20) ts).map λds=>ds.any λz=>z.eqv d
 | _,_=>none
def zr8(f:Bool->Bool):R3:=λx y G Q=>match zis x y G with
 | some k=>Q (.bl (f k)) G
 | none=>False
def zso(K:KW)(f:Bool->Bool):R2:=λx y H Q=>∃ G tx ty k,Den K H x tx/\Den K H y ty/\HR K H G/\zis tx ty G=some k/\Q (.bl (f k)) H
theorem ztE{K:KW}{f:Bool->Bool}:LR K (zr8 f) (zso K f):=by
 intro H G x y x3 y3 Q Q3 dx dy r h i;unfold zr8 at h;split at h
 ·rename_i k e;exact⟨G,x3,y3,k,dx,dy,r,e,i _ G _ H h (Kp.refl _) (.bl _) r⟩
 ·exact h.elim
open Classical in
theorem zfa{h:Heap}{d:PyData}:∀ {us:List Value} {ds:List PyData} {as:List Addr},ReadsAll h us ds as->PyData.canLayAll0 ds=true ->
  (us.any λu=>decide (∃ z as,Reads h u z as/\z.canLay0=true/\z.eqv d=true))=ds.any λz=>z.eqv d
 | _,_,_,.nil,_=>rfl
 | u::us,z::ds,_,.cons r1 r2,hc=>by
  have hc':(PyData.canLay0 z&&PyData.canLayAll0 ds)=true:=hc
  obtain⟨c1,c2⟩:=Bool.and_eq_true_iff.mp hc'
  rw[List.any_cons,List.any_cons,zfa r2 c2]
  congr 1
  rw[Bool.eq_iff_iff,decide_eq_true_iff]
  constructor
  ·rintro⟨z',as',r',c',e'⟩
   have:=SeqAt.Reads.unique z z' u _ _ c1 r1 r'
   subst this; exact e'
  ·intro e; exact⟨z,_,r1,c1,e⟩
theorem zdf{h:Heap}:∀ {us:List Value} {ds:List PyData} {as:List Addr} {n:Nat} {u:Value},ReadsAll h us ds as->PyData.canLayAll0 ds=true->PyData.depthAll ds<=n->u∈us->∃ z bs,Reads h u z bs/\z.canLay0=true/\z.depth<=n
 | _,_,_,_,_,.nil,_,_,hm=>by simp at hm
 | u'::us,z::ds,_,n,u,.cons r1 r2,hc,hd,hm=>by
  have hc':(PyData.canLay0 z&&PyData.canLayAll0 ds)=true:=hc
  obtain⟨c1,c2⟩:=Bool.and_eq_true_iff.mp hc'
  have hd':max (PyData.depth z) (PyData.depthAll ds)<=n:=hd
  rcases List.mem_cons.mp hm with e | hm
  ·subst e; exact⟨z,_,r1,c1,by lia⟩
  ·exact zdf r2 c2 (by lia) hm
open Classical in
theorem zq2(hr:Room k X.A):OpR X (compareOp .In) (zso X.kw id):=by
 intro pins s σ H x y v u Q I rx ry h;obtain⟨G,tx,ty,kk,d1,d2,r,e,q⟩:=h;unfold zis at e;split at e
 ·rename_i ts d e1 e2;cases e3:zdJ (toD G 20) ts with
  | none=>rw[e3]at e; cases e
  | some ds =>
   rw[e3]at e;have e:(ds.any λz=>z.eqv d)=kk:=Option.some.inj e;subst e;obtain⟨as,r1,c1,p1⟩:=zbr I r 20 tx x v d e2 d1 rx;obtain⟨p,xs,e4,sq,dd⟩:=zd7 d2 r e1;subst e4;cases ry
   have at_:∀ (its:List Value),zaF xs its->(∀ w',w'∈its.toArray->SeqAt.EqAt X.A.in1 s w' v (decide (∃ z as,Reads s.heap w' z as/\z.canLay0=true/\z.eqv d=true)))/\(its.toArray.any λw'=>decide (∃ z as,Reads s.heap w' z as/\z.canLay0=true/\z.eqv d=true))=ds.any λz=>z.eqv d:=λits rv=>by
    obtain⟨bs,ra,ca,pa⟩:=zbS (zbr I r 20) e3 dd rv;refine⟨λw' hm=>?_,?_⟩
    ·obtain⟨z,cs,rz,cz,pz⟩:=zdf ra ca pa (by simpa using hm);have e5:decide (∃ z as,Reads s.heap w' z as/\z.canLay0=true/\z.eqv d=true)=z.eqv d:=by
      rw[Bool.eq_iff_iff,decide_eq_true_iff];constructor
      ·rintro⟨z',as',r',c',e'⟩;have:=SeqAt.Reads.unique z z' w' _ _ cz rz r';subst this; exact e'
      ·intro e; exact⟨z,_,rz,cz,e⟩
     rw[e5];exact SeqAt.eqAt_reads z d X.A.in1 s w' v cs as rz r1 cz c1 (by have:=hr.un; show X.A.units+1+_ < _; lia)
    ·rw[<- zfa ra ca]; simp
   rcases sq with sq | sq
   ·obtain⟨its,rv,pl,_⟩:=I.list sq;obtain⟨h1,h2⟩:=at_ its rv;exact SeqAt.in_listAt _ pl.isList h1 ⟨.bl _,H,I,by rw[h2]; rfl,q⟩
   ·obtain⟨its,rv,pl,_⟩:=I.tuple sq;obtain⟨h1,h2⟩:=at_ its rv;exact SeqAt.in_tupleAt _ pl h1 ⟨.bl _,H,I,by rw[h2]; rfl,q⟩
 ·cases e
open Classical in
noncomputable def zcV(x:T)(G:Gp):Option Bool:=match x with
 | .non=>some false
 | .bl b=>some b
 | .int i=>some (i != 0)
 | .tup ts=>some (!ts.isEmpty)
 | .fro ts=>some (!ts.isEmpty)
 | .ref p=>(match G p with
  | some (.lst ts)=>some (!ts.isEmpty)
  | some (.dK ts)=>some (!ts.isEmpty)
  | _=>none)
 | _=>none
def zhN(ta:TE3):TT3:=λτ G Q=>ta τ G λx G1=>match zcV x G1 with
 | some b=>Q b G1
 | none=>False
theorem Dens.isEmpty{K:KW}{H:Hp}{xs:List V}{ts:List T}(d:Dens K H xs ts):xs.isEmpty=ts.isEmpty:=by cases d<;>rfl
theorem zsr(ha:QE X a ta)(he:∀ whole,isTrue a X.env whole=(do let v <- whole; standAt a.pos; holding [v] (truthy v)):=by intro _; rfl):QT X a (zhN ta):=(znm ha he).imp λσ H Q hu=>by
 obtain⟨τ,G,Q3,s,r,h,i⟩:=hu
 refine⟨τ,G,_,s,r,h,λx G1 v H1 h1 k1 d1 r1=>?_⟩
 split at h1
 ·rename_i b e
  refine⟨b,?_,i b G1 H1 h1 k1 r1⟩
  cases d1 with
  | non=>cases e; exact rfl
  | bl c=>cases e; exact rfl
  | int j=>cases e; exact rfl
  | str x=>cases e
  | ty n=>cases e
  | tup q ds=>cases e; exact .inr (.inl ⟨_,q,by rw[ds.isEmpty]⟩)
  | fro q ds=>cases e; exact .inl ⟨_,q.sq,by rw[ds.isEmpty]⟩
  | ref p =>
   simp only[zcV]at e
   split at e
   ·rename_i ts e1; cases e
    obtain⟨xs,e2,ds⟩:=r1 p _ e1
    exact .inl ⟨_,SqL.of e2,by rw[ds.isEmpty]⟩
   ·rename_i ts e1; cases e
    obtain⟨xs,e2,ds⟩:=r1 p _ e1
    refine .inr (.inr ⟨_,e2,?_⟩)
    cases ds<;>rfl
   ·cases e
 ·exact h1.elim
def mx3:List T->Gp->VK3->Prop:=λts G Q=>match ts with
 | [.int i,.int j]=>Q (.int (if j > i then j else i)) G
 | _=>False
def mn3:List T->Gp->VK3->Prop:=λts G Q=>match ts with
 | [.int i,.int j]=>Q (.int (if j < i then j else i)) G
 | _=>False
theorem zqy(hm:X.mg "max"=none) (ha:QA X (e::es) t) (hg:Gl X "max":=by rfl) (he:starEach (e::es) X.env=(false,eval e X.env)::starEach es X.env:=by rfl) (hpl:(backTo pos (starEach es X.env)).any (·.1)=false:=by rfl) (hc:X.calm=true:=by rfl) :
  QE X (.Call (.Name "max" p) (e::es) [] pos) (wCB mx3 t):=zgP (zmQ hc) (λH G xs ts Q Q3 d r h i=>by
 unfold mx3 at h
 split at h
 ·cases d with
  | cons d1 d2=>cases d2 with
   | cons d3 d4=>cases d4; cases d1; cases d3; exact⟨_,_,rfl,i _ G _ H h (Kp.refl _) (.int _) r⟩
 ·exact h.elim) hm boot_max ha hg (by decide) (by decide) he hpl
def zsR:List T->Gp->VK3->Prop:=λts G Q=>match ts with
 | [.int i]=>Q (.int i) G
 | [.bl b]=>Q (.int (if b then 1 else 0)) G
 | _=>False
theorem zsw(hm:X.mg "int"=none) (ha:QA X (e::es) t) (hg:Gl X "int":=by rfl) (he:starEach (e::es) X.env=(false,eval e X.env)::starEach es X.env:=by rfl) (hpl:(backTo pos (starEach es X.env)).any (·.1)=false:=by rfl) :
  QE X (.Call (.Name "int" p) (e::es) [] pos) (wCB zsR t):=zlH zmS (λH G xs ts Q Q3 d r h i=>by
 unfold zsR at h
 split at h
 ·cases d with
  | cons d1 d2=>cases d2; cases d1; exact .inl ⟨_,rfl,i _ G _ H h (Kp.refl _) (.int _) r⟩
 ·cases d with
  | cons d1 d2=>cases d2; cases d1; exact .inr ⟨_,rfl,i _ G _ H h (Kp.refl _) (.int _) r⟩
 ·exact h.elim) hm boot_int ha hg (by decide) (by decide) he hpl
def zk5(x:T)(ts:List T)(G:Gp)(Q:VK3):Prop:=match x,ts with
 | .ref p,[y]=>(match G p with
  | some (.lst us)=>us.length<=1000000/\Q .non (updG G p (.lst (us++[y])))
  | _=>False)
 | _,_=>False
def zed(x:T)(G:Gp)(Q:Prop):Prop:=match x with
 | .ref p=>(match G p with
  | some (.lst _)=>Q
  | _=>False)
 | _=>False
def ziS(ta:TE3)(t:TA3):TE3:=λτ G Q=>ta τ G λx G1=>zed x G1 (t τ G1 λts G2=>zk5 x ts G2 Q)
theorem zhm(ho:QE X o ta)(ha:QA X (e::es) t)(hbase:attributeBase o "append" X.env (eval o X.env)=eval o X.env:=by rfl)
  (hfew:((backTo pos (starEach (e::es) X.env)).all (λx=>!x.1)&&(backToKw pos (keywordEach [] X.env)).all (λx=>x.1.isSome)
   && decide ((e::es).length+([]:List Keyword).length+(if ([]:List Keyword).isEmpty then 0 else 1) < 30))=true:=by rfl)
  (hline:(apos.endLine==pos.line)=true:=by rfl) (hs:starEach (e::es) X.env=(false,eval e X.env)::starEach es X.env:=by rfl) (hplain:(backTo pos (starEach es X.env)).any (·.1)=false:=by rfl) :
  QE X (.Call (.Attribute o "append" apos) (e::es) [] pos) (ziS ta t) :=
 (zqU PySem.F.plainAttrs_list PySem.F.slot_list_append PySem.F.type_list_append zlV ho ha hbase hfew hline hs hplain).imp λσ H Q hu=>by
  obtain⟨τ,G,Q3,s,r,h,i⟩:=hu
  refine⟨τ,G,_,s,r,h,λx G1 v H1 h1 k1 d1 r1=>?_⟩
  cases d1 with
  | ref p =>
   simp only[zed]at h1
   split at h1
   ·rename_i us e1
    obtain⟨xs,e2,ds⟩:=r1 p _ e1
    refine⟨.inl ⟨rfl,_,SqL.of e2⟩,τ,G1,_,s.mono k1,r1,h1,λts G2 vs H2 h2 k2 d2 r2=>?_⟩
    simp only[zk5]at h2
    cases d2 with
    | nil=>exact h2.elim
    | cons d3 d4 =>
     cases d4 with
     | cons d5 d6=>exact h2.elim
     | nil =>
      simp only at h2
      split at h2
      ·rename_i us' e5
       obtain⟨ys,e6,ds6⟩:=r2 p _ e5
       have km:∀ z,Kp H2 (upd H2 p (.lst z)):=λz=>Kp.mut (by rw[e6]; trivial)
       refine⟨p,ys,_,rfl,rfl,e6,?_,i _ _ _ _ h2.2 ((k1.trans k2).trans (km _)) .non (r2.put e5 ⟨_,zak,(ds6.append (.cons d3 .nil)).mono (km _)⟩)⟩
       have hl:(1000000:Nat) < sizeLine:=by rw[sizeLine_eq]; decide
       rw[ds6.length]
       exact Nat.lt_of_le_of_lt h2.1 hl
      ·exact h2.elim
   ·exact h1.elim
  | _=>exact False.elim h1
end
noncomputable def zou(scope:Scope)(N:List Str)(sel:List (Option Nat))(oN:List Str)(osc:Scope):Bool :=
 scope.kind==.function&&scope.names.all (λx=>x.2 != .local||scope.names.lookup x.1==some .local)&&scope.names.all (λx=>x.2 != .cell) &&
 scope.names.all (λx=>x.2 != .free||(osc.names.lookup x.1==some .cell||osc.names.lookup x.1==some .free))&&sel.length==N.length &&
 (List.zip sel N).all (λp=>match p.1 with
  | none=>true
  | some j=>oN[j]?==some p.2&&scope.names.lookup p.2==some .free)
theorem zgG{X:Cx}{scope:Scope}{N:List Str}{sel:List (Option Nat)}{oN:List Str}{osc:Scope}(hN:X.N=oN)(hsc:X.env.scope=osc)(c:zou scope N sel oN osc=true):BlkOk X scope N sel:=by
 simp only[zou,Bool.and_eq_true,List.all_eq_true]at c;obtain⟨⟨⟨⟨⟨c1,c2⟩,c3⟩,c4⟩,c5⟩,c6⟩:=c;have kk:∀ x,X.env.kindOf x=osc.names.lookup x:=λx=>by rw[<- hsc]; rfl
 refine⟨by simpa using c1,λx hx hl=>?_,λx hx hl=>?_,λx hx hl=>?_,by simpa using c5,λi j x h1 h2=>?_⟩
 ·have:=c2 x hx; simpa [hl] using this
 ·have:=c3 x hx; simp[hl]at this
 ·have:=c4 x hx; rw[kk]; simpa [hl] using this
 ·have hz:(some j,x)∈List.zip sel N:=by
   rw[List.mem_iff_getElem?];exact⟨i,by rw[List.getElem?_zip_eq_some]; exact⟨h1,h2⟩⟩
  have:=c6 _ hz;simp only[Bool.and_eq_true,beq_iff_eq]at this;rw[hN]; exact this
def zfI(P:Program)(w:World)(K:W.Frag)(mg:Str->Option Value)(base:Heap)(k:Nat)(x:Str)(ps:List Str)(sp:Sp3):Prop :=
 ∃ f fd,FOk P w K mg base k f fd ps sp/\mg x=some (.ref f)/\W.keepIn K (.ref f)=true/\zcU K fd ps []
def zdW(P:Program)(w:World)(K:W.Frag)(mg:Str->Option Value)(base:Heap)(k:Nat)(C:Addr)(m:Str)(ps:List Str)(sp:Sp3):Prop :=
 ∃ f fd,FOk P w K mg base k f fd ps sp/\Cls K C/\Meth K C m f/\zcU K fd ps []
def zm4(P:Program)(w:World)(K:W.Frag)(mg:Str->Option Value)(base:Heap)(k:Nat)(x:Str)(C:Addr)(ps:List Str)(sp:Sp3):Prop :=
 ∃ f fd,FOk P w K mg base k f fd ps sp/\mg x=some (.ref C)/\Mk K C f/\zcU K fd ps []
theorem zfI.mono{P:Program}{w:World}{K:W.Frag}{mg:Str->Option Value}{base:Heap}{j k:Nat}{x:Str}{ps:List Str}{sp:Sp3}(F:zfI P w K mg base j x ps sp)(h:j<=k):zfI P w K mg base k x ps sp :=
 let ⟨f,fd,F,r⟩:=F; ⟨f,fd,FnOk.mono F h,r⟩
theorem zdW.mono{P:Program}{w:World}{K:W.Frag}{mg:Str->Option Value}{base:Heap}{j k:Nat}{C:Addr}{m:Str}{ps:List Str}{sp:Sp3}(F:zdW P w K mg base j C m ps sp)(h:j<=k):zdW P w K mg base k C m ps sp :=
 let ⟨f,fd,F,r⟩:=F; ⟨f,fd,FnOk.mono F h,r⟩
theorem zm4.mono{P:Program}{w:World}{K:W.Frag}{mg:Str->Option Value}{base:Heap}{j k:Nat}{x:Str}{C:Addr}{ps:List Str}{sp:Sp3}(F:zm4 P w K mg base j x C ps sp)(h:j<=k):zm4 P w K mg base k x C ps sp :=
 let ⟨f,fd,F,r⟩:=F; ⟨f,fd,FnOk.mono F h,r⟩
section
variable {X:Cx}{e a b c o:Expr}{es:List Expr}{pos apos p:Pos}{ta tb tv:TE3}{t:TA3}{k:Nat}{C:Addr}{ps:List Str}{sp:Sp3}{x m:Str}
theorem zaE(F:zfI X.prog X.w X.K X.mg X.base k x ps sp)(hr:Room k X.A)(ha:QA X (e::es) t)(hg:Gl X x:=by rfl)(hdb:(x==("__debug__":Str))=false:=by decide)
  (he:starEach (e::es) X.env=(false,eval e X.env)::starEach es X.env:=by rfl) (hpl:(backTo pos (starEach es X.env)).any (·.1)=false:=by rfl) :
  QE X (.Call (.Name x p) (e::es) [] pos) (zar sp t):=by
 obtain⟨f,fd,F,hm,hk,hb⟩:=F;exact zsD F hr hm hk hb ha hg hdb he hpl
theorem zbD{pl:Sem Bool}(he:QE X o ta)(F:zdW X.prog X.w X.K X.mg X.base k C m ps sp)(hr:Room k X.A)(ha:QA X (e::es) t)
  (hst:starEach (e::es) X.env=(false,eval e X.env)::starEach es X.env:=by rfl) (hpl:(backTo pos (starEach es X.env)).any (·.1)=false:=by rfl)
  (ht:eval (.Call (.Attribute o m apos) (e::es) [] pos) X.env=(do
   let ov <- eval o X.env
   standAt apos.atName
   let (f,first) <- holding [ov] (getMethod ov m pl)
   callWith pos f first (backTo pos (starEach (e::es) X.env)) (backToKw pos (keywordEach [] X.env))):=by rfl) :
  QE X (.Call (.Attribute o m apos) (e::es) [] pos) (zay C m sp ta t):=by
 obtain⟨f,fd,F,c,hm,hb⟩:=F;exact zsu he c hm F hr hb ha hst hpl ht
theorem zbb{pl:Sem Bool}(he:QE X o ta)(F:zdW X.prog X.w X.K X.mg X.base k C m ps sp)(hr:Room k X.A)
  (ht:eval (.Call (.Attribute o m apos) [] [] pos) X.env=(do
   let ov <- eval o X.env
   standAt apos.atName
   let (f,first) <- holding [ov] (getMethod ov m pl)
   callWith pos f first (backTo pos (starEach [] X.env)) (backToKw pos (keywordEach [] X.env))):=by rfl) :
  QE X (.Call (.Attribute o m apos) [] [] pos) (zaq C m sp ta):=by
 obtain⟨f,fd,F,c,hm,hb⟩:=F;exact zqx he c hm F hr hb ht
theorem zn5(F:zm4 X.prog X.w X.K X.mg X.base k x C ps sp)(hr:Room (k+1) X.A)(ha:QA X (e::es) t)(hg:Gl X x:=by rfl)(hdb:(x==("__debug__":Str))=false:=by decide)
  (he:starEach (e::es) X.env=(false,eval e X.env)::starEach es X.env:=by rfl) (hpl:(backTo pos (starEach es X.env)).any (·.1)=false:=by rfl) :
  QE X (.Call (.Name x p) (e::es) [] pos) (zbe C sp t):=by
 obtain⟨f,fd,F,hm,M,hb⟩:=F;exact zsv M F hr hm hb ha hg hdb he hpl
theorem zrK(F:zm4 X.prog X.w X.K X.mg X.base k x C ps sp)(hr:Room (k+1) X.A)(hg:Gl X x:=by rfl)(hdb:(x==("__debug__":Str))=false:=by decide) :
  QE X (.Call (.Name x p) [] [] pos) (zbe C sp zat):=by
 obtain⟨f,fd,F,hm,M,hb⟩:=F;exact zqz M F hr hm hb hg hdb
end
noncomputable def kT:Key->T
 | .inl i=>.int i
 | .inr x=>.str x
noncomputable def zhG:T->Option Key
 | .int i=>some (.inl i)
 | .str x=>some (.inr x)
 | _=>none
noncomputable def zrZ:T->Option A0
 | .non=>some .non
 | .int i=>some (.int i)
 | .str x=>some (.str x)
 | _=>none
noncomputable def zjA:List T->Option (List A0)
 | []=>some []
 | t::r=>match zrZ t,zjA r with
  | some a,some l=>some (a::l)
  | _,_=>none
noncomputable def zrS:T->Option A1
 | .tup ts=>(zjA ts).map .tup
 | .non=>some (.at .non)
 | .int i=>some (.at (.int i))
 | .str x=>some (.at (.str x))
 | _=>none
noncomputable def zk0:List T->Option LK
 | []=>some []
 | t::r=>match zrS t,zk0 r with
  | some a,some l=>some (a::l)
  | _,_=>none
noncomputable def znL:T->Option LK
 | .tup ts=>zk0 ts
 | _=>none
theorem zj7{t:T}{k:Key}(h:zhG t=some k):t=kT k:=by
 cases t<;>simp only[zhG]at h
 all_goals first | (cases h; rfl) | cases h
theorem zpU{t:T}{a:A0}(h:zrZ t=some a):t=a0T a:=by
 cases t<;>simp only[zrZ]at h
 all_goals first | (cases h; rfl) | cases h
theorem zkn:∀ {ts:List T} {l:List A0},zjA ts=some l->ts=l.map a0T
 | [],l,h=>by cases h; rfl
 | t::r,l,h=>by
  unfold zjA at h
  split at h
  ·rename_i a m e1 e2; cases h; rw[zpU e1,zkn e2]; rfl
  ·cases h
theorem zpT{t:T}{a:A1}(h:zrS t=some a):t=a1T a:=by
 cases t<;>simp only[zrS]at h
 all_goals first | (cases h; rfl) | skip
 all_goals first | (cases h; done) | skip
 rename_i ts;cases e:zjA ts with
 | none=>rw[e]at h; cases h
 | some l=>rw[e]at h; cases h; rw[zkn e]; rfl
theorem zkm:∀ {ts:List T} {l:LK},zk0 ts=some l->ts=l.map a1T
 | [],l,h=>by cases h; rfl
 | t::r,l,h=>by
  unfold zk0 at h
  split at h
  ·rename_i a m e1 e2; cases h; rw[zpT e1,zkm e2]; rfl
  ·cases h
theorem zhE{t:T}{k:LK}(h:znL t=some k):t=lkT k:=by
 cases t<;>simp only[znL]at h
 all_goals first | (cases h; done) | skip
 rw[zkm h]; rfl
theorem ziN:∀ l:List A0,zjA (l.map a0T)=some l
 | []=>rfl
 | a::r=>by
  have:zrZ (a0T a)=some a:=by cases a<;>rfl
  simp only[List.map_cons,zjA,this,ziN r]
theorem ziM:∀ l:LK,zk0 (l.map a1T)=some l
 | []=>rfl
 | a::r=>by
  have:zrS (a1T a)=some a:=by
   cases a with
   | «at» a=>cases a<;>rfl
   | tup l=>simp only[a1T,zrS,ziN]; rfl
  simp only[List.map_cons,zk0,this,ziM r]
theorem zj0(k:LK):znL (lkT k)=some k:=ziM k
section
variable {X:Cx}{pins:List (Addr×Obj)}{σ:L2.St}{H:Hp}{s:Shared}{G:Gp}
theorem zor{a:A0}{v:V}{u:Value}(d:Den X.kw H v (a0T a))(r:zaR v u):a.val u:=by
 cases a with
 | non=>cases d; exact r
 | int i=>cases d; exact r
 | str x=>cases d; exact r
theorem zmF:∀ {l:List A0} {vs:List V} {us:List Value},Dens X.kw H vs (l.map a0T)->zaF vs us->Paired A0.val l us
 | [],_,_,.nil,.nil=>.nil
 | _::_,_,_,.cons d dr,.cons r rr=>.cons (zor d r) (zmF dr rr)
theorem zrH(I:Inv X pins σ H s){a:A1}{v:V}{u:Value}(d:Den X.kw H v (a1T a))(r:zaR v u):a.val s.heap u:=by
 cases a with
 | «at» a=>exact zor d r
 | tup l =>
  cases d with
  | tup q ds =>
   obtain⟨its,rv,⟨o,e,c,n,dd⟩,_⟩:=I.tuple q;cases r
   exact⟨_,its.toArray,rfl,⟨o,n,e,c,dd⟩,by simpa using zmF ds rv⟩
theorem zmE(I:Inv X pins σ H s):∀ {l:LK} {vs:List V} {us:List Value},Dens X.kw H vs (l.map a1T)->zaF vs us->Paired (A1.val s.heap) l us
 | [],_,_,.nil,.nil=>.nil
 | _::_,_,_,.cons d dr,.cons r rr=>.cons (zrH I d r) (zmE I dr rr)
theorem zge(I:Inv X pins σ H s){k:LK}{b:Addr}(d:Den X.kw H (.ref b) (lkT k)):zjl s.heap k b:=by
 generalize e:lkT k=t at d;cases d with
 | ref=>cases e
 | fro=>cases e
 | tup q ds =>
  cases e
  obtain⟨its,rv,⟨o,e,c,n,dd⟩,_⟩:=I.tuple q;exact⟨its.toArray,⟨o,n,e,c,dd⟩,by simpa using zmE I ds rv⟩
end
section
variable {κ:Type} [DecidableEq κ]
noncomputable def zeI(kvs:List (κ×T))(k:κ)(v:T):List (κ×T):=if (kvs.any λkv=>decide (kv.1=k))=true then kvs.map (λkv=>if kv.1=k then (kv.1,v)else kv)else kvs++[(k,v)]
noncomputable def zcZ(kvs:List (κ×T))(k:κ):Option T:=(kvs.find? λkv=>decide (kv.1=k)).map (·.2)
theorem zh7{kvs:List (κ×T)}{k:κ}{v:T}(h:k∉kvs.map (·.1)):zeI kvs k v=kvs++[(k,v)]:=by
 unfold zeI;rw[if_neg];intro hany;obtain⟨x,hx,e⟩:=List.any_eq_true.mp hany;exact h (List.mem_map.mpr ⟨x,hx,of_decide_eq_true e⟩)
theorem zlI{kvs:List (κ×T)}{k:κ}{v:T}(h:k∈kvs.map (·.1)):zeI kvs k v=kvs.map (λkv=>if kv.1=k then (kv.1,v)else kv):=by
 unfold zeI;rw[if_pos];obtain⟨x,hx,e⟩:=List.mem_map.mp h;exact List.any_eq_true.mpr ⟨x,hx,decide_eq_true e⟩
end
section
variable {K:KW}{H H':Hp}
theorem zdz.any{k:Key}:∀ {xs:List (Key×V)} {kvs:List (Key×T)},zdz K H xs kvs->(xs.any λkv=>decide (kv.1=k))=kvs.any λkv=>decide (kv.1=k)
 | _,_,.nil=>rfl
 | _,_,.cons ⟨e,_⟩ r=>by rw[List.any_cons,List.any_cons,zdz.any r,e]
theorem zdz.repl{k:Key}{v:V}{t:T}(d:Den K H v t):∀ {xs:List (Key×V)} {kvs:List (Key×T)},zdz K H xs kvs->zdz K H (xs.map λkv=>if kv.1=k then (kv.1,v)else kv) (kvs.map λkv=>if kv.1=k then (kv.1,t)else kv)
 | _,_,.nil=>.nil
 | (a,x)::_,(b,y)::_,.cons ⟨e,d'⟩ r=>by
  simp only at e d'
  subst e
  refine .cons ?_ (zdz.repl d r)
  by_cases z:a=k
  ·simp only[z,if_true]; exact⟨trivial,d⟩
  ·simp only[z,if_false]; exact⟨trivial,d'⟩
theorem Paired.snoc'{α β:Type}{F:α->β->Prop}{a:α}{b:β}:∀ {l:List α} {r:List β},Paired F l r->F a b->Paired F (l++[a]) (r++[b])
 | _,_,.nil,h=>.cons h .nil
 | _,_,.cons p q,h=>.cons p (Paired.snoc' q h)
theorem zdz.put{k:Key}{v:V}{t:T}(d:Den K H v t){xs:List (Key×V)}{kvs:List (Key×T)}(r:zdz K H xs kvs):zdz K H (zjS xs k v) (zeI kvs k t):=by
 unfold zjS zeI;rw[zdz.any r];split
 ·exact zdz.repl d r
 ·exact Paired.snoc' r ⟨rfl,d⟩
theorem zdz.val{k:Key}:∀ {xs:List (Key×V)} {kvs:List (Key×T)} {t:T},zdz K H xs kvs->zcZ kvs k=some t->∃ v,zi1 xs k=some v/\Den K H v t
 | _,_,_,.nil,e=>by cases e
 | (a,x)::xs,(b,y)::kvs,t,.cons ⟨e1,d⟩ r,e=>by
  simp only at e1 d
  subst e1
  unfold zcZ at e
  unfold zi1
  rw[List.find?_cons]at e ⊢
  by_cases z:a=k
  ·simp only[z,decide_true]at e ⊢
   cases e
   exact⟨x,rfl,d⟩
  ·simp only[z,decide_false]at e ⊢
   exact zdz.val r e
theorem zdz.valN{k:Key}:∀ {xs:List (Key×V)} {kvs:List (Key×T)},zdz K H xs kvs->zcZ kvs k=none->zi1 xs k=none
 | _,_,.nil,e=>rfl
 | (a,x)::xs,(b,y)::kvs,.cons ⟨e1,d⟩ r,e=>by
  simp only at e1 d
  subst e1
  unfold zcZ at e
  unfold zi1
  rw[List.find?_cons]at e ⊢
  by_cases z:a=k
  ·simp only[z,decide_true]at e; cases e
  ·simp only[z,decide_false]at e ⊢
   exact zdz.valN r e
theorem zcW.keys:∀ {kvs:List (LK×T)} {xs:List (LK×Addr×Value)},zcW K H kvs xs->kvs.map (·.1)=xs.map (·.1)
 | _,_,.nil=>rfl
 | _,_,.cons ⟨e,_⟩ r=>by rw[List.map_cons,List.map_cons,zcW.keys r,e]
theorem zcW.repl{k:LK}{v:V}{u:Value}{t:T}(d:Den K H v t)(rv:zaR v u):∀ {kvs:List (LK×T)} {xs:List (LK×Addr×Value)},zcW K H kvs xs->zcW K H (kvs.map λkv=>if kv.1=k then (kv.1,t)else kv) (xs.map (putAt k u))
 | _,_,.nil=>.nil
 | (a,y)::_,(b,c,z)::_,.cons ⟨e,d1,d2⟩ r=>by
  simp only at e
  subst e
  refine .cons ?_ (zcW.repl d rv r)
  unfold putAt
  by_cases q:a=k
  ·simp only[q,if_true]
   exact⟨trivial,q ▸ d1,v,rv,d⟩
  ·simp only[q,if_false]
   exact⟨trivial,d1,d2⟩
theorem zdg{k:LK}:∀ {xs:List (LK×Addr×Value)},(atKey xs k).isSome=true↔k∈xs.map (·.1)
 | []=>by simp[atKey]
 | x::xs=>by
  have ih:=@zdg k xs
  unfold atKey at ih ⊢
  rw[List.find?_cons]
  by_cases q:x.1=k
  ·simp[q]
  ·simp only[q,decide_false,List.map_cons,List.mem_cons]
   rw[ih]
   constructor
   ·exact .inr
   ·rintro (h | h)
    ·exact absurd h.symm q
    ·exact h
theorem zcW.put{k:LK}{b:Addr}{v:V}{u:Value}{t:T}(dk:Den K H (.ref b) (lkT k))(d:Den K H v t)(rv:zaR v u){kvs:List (LK×T)}{xs:List (LK×Addr×Value)}(r:zcW K H kvs xs):zcW K H (zeI kvs k t) (storedH xs k b u):=by
 unfold storedH;by_cases q:k∈kvs.map (·.1)
 ·rw[zlI q,if_pos (zdg.mpr (r.keys ▸ q))];exact zcW.repl d rv r
 ·rw[zh7 q,if_neg (λz=>q (r.keys ▸ zdg.mp z))];exact Paired.snoc' r ⟨rfl,dk,v,rv,d⟩
theorem zcW.length{kvs:List (LK×T)}{xs:List (LK×Addr×Value)}(r:zcW K H kvs xs):kvs.length=xs.length:=Paired.length r
end
def zkA(o i v:T)(G:Gp)(Q:Gp->Prop):Prop:=match o with
 | .ref p=>(match G p with
  | some (.lst ts)=>(match i with
   | .int k=>(match ixN ts.length k with
    | some j=>Q (updG G p (.lst (ts.set j v)))
    | none=>False)
   | _=>False)
  | some (.dK kvs)=>(match zhG i with
   | some k=>kvs.length<=1000000/\Q (updG G p (.dK (zeI kvs k v)))
   | none=>(match kvs,znL i with
    | [],some k=>zhO k=true/\Q (updG G p (.dT [(k,v)]))
    | _,_=>False))
  | some (.dT kvs)=>(match znL i with
   | some k=>zhO k=true/\kvs.length<=1000000/\Q (updG G p (.dT (zeI kvs k v)))
   | none=>False)
  | _=>False)
 | _=>False
def zsn(K:KW):zr0:=λo i v H Q=>∃ G to ti tv Q3,Den K H o to/\Den K H i ti/\Den K H v tv/\HR K H G/\zkA to ti tv G Q3/\∀ G' H',Q3 G'->Kp H H'->HR K H' G'->Q H'
section
variable {X:Cx}{k:Nat}
theorem zjZ{pins:List (Addr×Obj)}{σ:L2.St}{H:Hp}{s:Shared}{p b:Addr}{u:Value}{kk:LK}{xs:List (LK×Addr×Value)}{E:Value->Shared->Prop}{Q:Unit->Shared->Prop}(hr:Room k X.A)(I:Inv X pins σ H s)(mu:Mut (H p))
  (raw:zi4 X.prog X.w p xs s.heap) (his:∀ x∈xs,zjl s.heap x.1 x.2.1) (hk:zjl s.heap kk b) (ok:zhO kk=true) (sz:xs.length < sizeLine)
  (h:∀ s',Inv X pins σ (upd H p (.ext (zi4 X.prog X.w p (storedH xs kk b u)))) s'->Q () s'):wpAny (model X.prog X.w) X.A (setItem (.ref p) (.ref b) u) Q E s:=by
 obtain⟨nd,_,oks,nod,o,es,ep,e1,e2,e3,e4⟩:=id raw;have hD:s.heap.DictOfH (ze7 X.prog X.w) p xs:=⟨o,es,ep,e1,e2,e3,e4,λx hx=>⟨his x hx,oks x hx⟩,nod⟩;refine wpAny_setItem_heap (hsz:=Nat.le_of_lt sz) (knd:=ze7 X.prog X.w) (show X.A.units+1+4 < cLine by have:=hr.un; lia) ⟨hk,ok⟩ hD λh' hD' sb=>h _ ?_;obtain⟨o',es',ep',f1,f2,f3,f4,f5,f6⟩:=id hD';refine zjv I mu sb ⟨o',f1⟩ (zng ⟨nd,?_,λx hx=>(f5 x hx).2,f6,o',es',ep',f1,f2,f3,f4⟩);unfold storedH;split
 ·rw[List.length_map]; exact Nat.le_of_lt sz
 ·rw[List.length_append,List.length_singleton]; exact sz
theorem zoN(hr:Room k X.A):zs4 X (zsn X.kw):=by
 intro pins s σ H o i v ov iv u Q I ro ri rv h;obtain⟨G,to,ti,tv,Q3,d1,d2,d3,r,h,imp⟩:=h;have hl:(1000000:Nat) < sizeLine:=by rw[sizeLine_eq]; decide
 cases d1 with
 | ref p =>
  simp only[zkA]at h;split at h
  ·rename_i ts e;obtain⟨xs,e1,ds⟩:=r p _ e;cases d2 with
   | int kk =>
    simp only at h;split at h
    ·rename_i j ej;have km:Kp H (upd H p (.lst (xs.set j v))):=Kp.mut (by rw[e1]; trivial);exact znc pins s σ H _ _ v ov iv u Q I ro ri rv ⟨p,xs,kk,j,rfl,rfl,e1,by rw[ds.length]; exact ej,imp _ _ h km (r.put e ⟨_,zak,(ds.set d3 j).mono km⟩)⟩
    ·exact h.elim
   | _=>exact False.elim h
  ·rename_i kvs e;obtain⟨xs,e1,ds⟩:=r p _ e;split at h
   ·rename_i kk ek;have e2:=zj7 ek;subst e2;cases (show ov=Value.ref p from ro)
    have ey:i=kV kk:=by cases kk<;>cases d2<;>rfl
    have km:Kp H (upd H p (.dK (zjS xs kk v))):=Kp.mut (by rw[e1]; trivial);have hlen:xs.length=kvs.length:=Paired.length ds;exact zmG (znT hr) I (ey ▸ zr3.k (k:=kk) (v:=v) e1 (by rw[hlen]; exact Nat.lt_of_le_of_lt h.1 hl)) ri rv λs' I'=>⟨_,I',imp _ _ h.2 km (r.put e ⟨_,zak,(zdz.put d3 ds).mono km⟩)⟩
   ·split at h
    ·rename_i kk ek;have e2:=zhE ek;subst e2;cases ds
     cases (show ov=Value.ref p from ro)
     obtain⟨z,nd,vs,rel,o,es,ep,g1,g2,g3,g4,g5,g6⟩:=zkS I.hok e1;cases rel
     have es0:es.toList=[]:=List.length_eq_zero_iff.mp (by have:=g5.length; simpa using this);have raw:zi4 X.prog X.w p [] s.heap:=⟨nd,Nat.zero_le _,λ_ hx=>by simp at hx,List.nodup_nil,o,es,ep,g1,g2,g3,by rw[es0]; rfl⟩;generalize et:lkT kk=tk at d2;have d2':=d2;cases d2 with
     | tup q dd =>
      cases (show iv=Value.ref _ from ri)
      rw[<- et]at d2';refine zjZ hr I (by rw[e1]; trivial) raw (λ_ hx=>by simp at hx) (zge I d2') h.1 (by rw[sizeLine_eq]; decide) λs' I'=>?_;have km:∀ z,Kp H (upd H p (.ext z)):=λz=>Kp.mut (by rw[e1]; trivial);exact⟨_,I',imp _ _ h.2 (km _) (r.put e ⟨_,zak,zcW.mono (km _) (zcW.put d2' d3 rv .nil)⟩)⟩
     | _=>cases et
    ·exact h.elim
  ·rename_i kvs e;obtain⟨xs,e1,ds⟩:=r p _ e;split at h
   ·rename_i kk ek;have e2:=zhE ek;subst e2;cases (show ov=Value.ref p from ro)
    obtain⟨raw,_,_⟩:=I.hok p _ e1;have his:∀ x∈xs,zjl s.heap x.1 x.2.1:=by
     intro x hx;have:∀ {kvs:List (LK×T)} {xs:List (LK×Addr×Value)},zcW X.kw H kvs xs->x∈xs->Den X.kw H (.ref x.2.1) (lkT x.1):=by
      intro kvs xs r;induction r with
      | nil=>intro h; simp at h
      | cons p _ ih =>
       intro h;rcases List.mem_cons.mp h with q | q
       ·subst q; exact p.2.1
       ·exact ih q
     exact zge I (this ds hx)
    generalize et:lkT kk=tk at d2;have d2':=d2;cases d2 with
    | tup q dd =>
     cases (show iv=Value.ref _ from ri)
     rw[<- et]at d2';refine zjZ hr I (by rw[e1]; trivial) raw his (zge I d2') h.1 (by rw[<- zcW.length ds]; exact Nat.lt_of_le_of_lt h.2.1 hl) λs' I'=>?_;have km:∀ z,Kp H (upd H p (.ext z)):=λz=>Kp.mut (by rw[e1]; trivial);exact⟨_,I',imp _ _ h.2.2 (km _) (r.put e ⟨_,zak,zcW.mono (km _) (zcW.put d2' d3 rv ds)⟩)⟩
    | _=>cases et
   ·exact h.elim
  ·exact h.elim
 | _=>exact False.elim h
end
section
variable {X:Cx}{e a b c o i:Expr}{es:List Expr}{pos apos p:Pos}{ta tb tv to ti:TE3}{t:TA3}{k:Nat}
def ziU(to ti:TE3):TG3:=λv τ G Q=>to τ G λo G1=>ti τ G1 λi G2=>zkA o i v G2 λG3=>Q τ G3
theorem zsx(hr:Room k X.A)(ho:QE X o to)(hi:QE X i ti)(ha:∀ v,assign (.Subscript o i pos) X.env v=(do
   let ov <- holding [v] (eval o X.env)
   let iv <- holding [v,ov] (eval i X.env)
   standAt pos
   holding [v,ov,iv] (setItem ov iv v)
   release [v,ov,iv] []):=by intro _; rfl):QG X (.Subscript o i pos) (ziU to ti):=(zqM ho hi (zoN hr) ha).imp λv σ H Q hu=>by
 obtain⟨tv,τ,G,Q3,dv,s,r,h,im⟩:=hu
 refine⟨τ,G,_,s,r,h,λx G1 ov H1 h1 k1 d1 r1=>⟨τ,G1,_,s.mono k1,r1,h1,λy G2 iv H2 h2 k2 d2 r2=>?_⟩⟩
 exact⟨G2,x,y,tv,_,d1.mono k2,d2,dv.mono (k1.trans k2),r2,h2,λG' H' q k3 r3=>im τ G' σ H' q ((k1.trans k2).trans k3) (s.mono ((k1.trans k2).trans k3)) r3⟩
theorem zjP{v:Expr}{pos':Pos}(hr:Room k X.A)(hv:QE X v tv)(ho:QE X o to)(hi:QE X i ti)(ha:∀ v,assign (.Subscript o i pos') X.env v=(do
   let ov <- holding [v] (eval o X.env)
   let iv <- holding [v,ov] (eval i X.env)
   standAt pos'
   holding [v,ov,iv] (setItem ov iv v)
   release [v,ov,iv] []):=by intro _; rfl)
  (hs:swapsWithSole [.Subscript o i pos'] v pos.line X.env=pure false:=by rfl) (hw:swappedStores [.Subscript o i pos'] v X.env=pure none:=by rfl)
  (h1:(assignEach [.Subscript o i pos'] X.env).map (·.2)=[assign (.Subscript o i pos') X.env]:=by rfl):QS X (.Assign [.Subscript o i pos'] v pos) (ziR tv (ziU to ti)):=ztD hv (zsx hr ho hi ha) hs hw h1
def zcb:TE3:=λ_ G Q=>∀ p,G p=none->Q (.ref p) (updG G p (.dK []))
theorem zlG:QE X (.Dict [] [] pos) zcb:=znx.imp λσ H Q hu=>(by obtain⟨τ,G,Q3,s,r,h,im⟩:=hu; exact λp hp=>im _ _ _ _ (h p (r.free hp)) (Kp.new hp) (.ref p) (r.new (o:=.dK []) hp ⟨[],zak,.nil⟩))
noncomputable def za1(x:T)(G:Gp):Option (List T):=match x with
 | .tup ts=>some ts
 | .fro ts=>some ts
 | .ref p=>(match G p with
  | some (.lst ts)=>some ts
  | some (.dK kvs)=>some (kvs.map λkv=>kT kv.1)
  | some (.dT kvs)=>some (kvs.map λkv=>lkT kv.1)
  | _=>none)
 | _=>none
theorem zqn{kk:Key}{v:Value}(h:zjk kk v=true):zaR (kV kk) v:=by
 rcases zaM h with ⟨i,t,rfl,rfl⟩ | ⟨x,t,rfl,rfl⟩
 ·exact⟨_,rfl⟩
 ·exact⟨_,rfl⟩
theorem zrG{K:KW}{H:Hp}(kk:Key):Den K H (kV kk) (kT kk):=by cases kk; exact .int _; exact .str _
theorem zdX{P:Program}{w:World}:∀ {es:List DictEntry} {vs:List (Key×Value)} {xs:List (Key×V)},Pairs (zaD P w) es vs->KV xs vs->zaF (xs.map λx=>kV x.1) (es.map (·.key))
 | _,_,_,.nil,.nil=>.nil
 | _,_,(a,x)::xs,.cons h1 h2 r,.cons ⟨e,_⟩ q=>.cons (by simp only at e; subst e; exact zqn h1) (zdX r q)
theorem zek{K:KW}{H:Hp}:∀ {xs:List (Key×V)} {kvs:List (Key×T)},zdz K H xs kvs->Dens K H (xs.map λx=>kV x.1) (kvs.map λkv=>kT kv.1)
 | _,_,.nil=>.nil
 | _,_,.cons ⟨e,_⟩ r=>.cons (by dsimp only; rw[e]; exact zrG _) (zek r)
theorem zgJ{P:Program}{w:World}(xs:List (LK×Addr×Value)):zaF (xs.map λx=>V.ref x.2.1) ((xs.map (entryOfKey (ze7 P w))).map (·.key)):=by
 induction xs with
 | nil=>exact .nil
 | cons x r ih=>exact .cons rfl ih
theorem zeW{K:KW}{H:Hp}:∀ {kvs:List (LK×T)} {xs:List (LK×Addr×Value)},zcW K H kvs xs->Dens K H (xs.map λx=>V.ref x.2.1) (kvs.map λkv=>lkT kv.1)
 | _,_,.nil=>.nil
 | _,_,.cons ⟨e,d,_⟩ r=>.cons (by dsimp only; rw[e]; exact d) (zeW r)
def zsl(K:KW):List V->Hp->VK->Prop:=λxs H Q=>∃ v G x us,xs=[v]/\Den K H v x/\HR K H G/\za1 x G=some us/\∀ w H',Kp H H'->Den K H' w (.tup us)->HR K H' G->Q w H'
theorem zmN(hc:X.calm=true):zci X (.type "tuple") (zsl X.kw):=by
 intro pins s σ H xs us Q I r h;obtain⟨v,G,x,ts,rfl,d,hr,e,q⟩:=h;have base:(∃ ts',zaJ x G=some ts'/\ts'=ts)->wpAny (model X.prog X.w) X.A (call (.type "tuple") us) (EP X pins σ Q) X.xe s:=by
  rintro⟨ts',e1,rfl⟩;obtain⟨p,ys,e2,sq,ds⟩:=zd7 d hr e1;subst e2;refine zhJ pins s σ H _ us Q I r ⟨p,ys,rfl,?_⟩;rcases sq with sq | sq
  ·exact .inl ⟨sq,λl hl=>q _ _ (Kp.new hl) (.tup (SqT.of zak) (ds.mono (Kp.new hl))) (hr.lay hl)⟩
  ·exact .inr ⟨sq,q _ _ (Kp.refl _) (.tup sq ds) hr⟩
 cases d with
 | tup _ _=>exact base ⟨_,rfl,Option.some.inj e⟩
 | fro _ _=>exact base ⟨_,rfl,Option.some.inj e⟩
 | ref p =>
  obtain⟨u,rfl,ru⟩:=zg6 r;cases ru
  simp only[za1]at e;split at e
  ·rename_i ts' eg; exact base ⟨ts',by simp only[zaJ,eg],Option.some.inj e⟩
  ·rename_i kvs eg;cases e
   obtain⟨ks,e1,ds⟩:=hr p _ eg;obtain⟨z,nd,vs,rel,o,ees,ep,g1,g2,g3,g4,g5,g6⟩:=zkS I.hok e1;have hsz:ees.size=ks.length:=by
    have h1:=g5.length;have h2:ks.length=vs.length:=Paired.length rel;rw[Array.length_toList]at h1;lia
   exact tupD hc I nd ⟨o,g1,g2,g3⟩ (zdX g5 rel) (by rw[hsz]; exact z) λl hl=>q _ _ (Kp.new hl) (.tup (SqT.of zak) ((zek ds).mono (Kp.new hl))) (hr.lay hl)
  ·rename_i kvs eg;cases e
   obtain⟨xs,e1,ds⟩:=hr p _ eg;obtain⟨⟨nd,sz,oks,nod,o,ees,ep,g1,g2,g3,g4⟩,_,_⟩:=I.hok p _ e1;have hsz:ees.size=xs.length:=by rw[<- Array.length_toList,g4,List.length_map]
   exact tupD hc I nd ⟨o,g1,g2,g3⟩ (by rw[g4]; exact zgJ xs) (by rw[hsz]; exact sz) λl hl=>q _ _ (Kp.new hl) (.tup (SqT.of zak) ((zeW ds).mono (Kp.new hl))) (hr.lay hl)
  ·cases e
 | _=>cases e
def zgs:List T->Gp->VK3->Prop:=λts G Q=>match ts with
 | [x]=>(match za1 x G with
  | some us=>Q (.tup us) G
  | none=>False)
 | _=>False
theorem zhl(hm:X.mg "tuple"=none) (ha:QA X (e::es) t) (hg:Gl X "tuple":=by rfl) (he:starEach (e::es) X.env=(false,eval e X.env)::starEach es X.env:=by rfl) (hpl:(backTo pos (starEach es X.env)).any (·.1)=false:=by rfl) (hc:X.calm=true:=by rfl) :
  QE X (.Call (.Name "tuple" p) (e::es) [] pos) (wCB zgs t):=zlH (zmN hc) (λH G xs ts Q Q3 d r h im=>by
 unfold zgs at h
 split at h
 ·cases d with
  | cons d1 d2 =>
   cases d2
   split at h
   ·rename_i us e
    exact⟨_,G,_,us,rfl,d1,r,e,λw H' kk dd rr=>im _ G _ H' h kk dd rr⟩
   ·exact h.elim
 ·exact h.elim) hm boot_tuple ha hg (by decide) (by decide) he hpl
noncomputable def zjx(kvs:List (Key×T))(y:T):Option (Option T):=match zhG y with
 | some kk=>some (zcZ kvs kk)
 | none=>(match kvs,znL y with
  | [],some kk=>if zhO kk=true then some none else none
  | _,_=>none)
noncomputable def zjw(kvs:List (LK×T))(y:T):Option (Option T):=match znL y with
 | some kk=>if zhO kk=true then some (zcZ kvs kk)else none
 | none=>none
noncomputable def zcq(x y:T)(G:Gp):Option (Option T):=match x with
 | .ref p=>(match G p with
  | some (.dK kvs)=>zjx kvs y
  | some (.dF _ kvs)=>zjx kvs y
  | some (.dT kvs)=>zjw kvs y
  | some (.dG _ kvs)=>zjw kvs y
  | _=>none)
 | _=>none
inductive DAsk(K:KW)(H:Hp)(p:Addr)(y:V)(o:Option V):Prop
 | k (g:zp1 H p y o):DAsk K H p y o
 | t (b:Addr) (kk:LK) (xs:List (LK×Addr×Value)) (e:y=.ref b) (hr:Rd H p (.ext (zi4 K.P K.w p xs))∨(xs=[]/\Rd H p (.dK []))) (ds:∀ x∈xs,Den K H (.ref x.2.1) (lkT x.1))
   (d:Den K H (.ref b) (lkT kk)) (ok:zhO kk=true) (ro:zg3 o ((atKey xs kk).map (·.2))):DAsk K H p y o
theorem zfF{pins:List (Addr×Obj)}{σ:L2.St}{H:Hp}{s:Shared}{p:Addr}{xs:List (LK×Addr×Value)}(I:Inv X pins σ H s)(hr:Rd H p (.ext (zi4 X.prog X.w p xs))∨(xs=[]/\Rd H p (.dK [])))
  (ds:∀ x∈xs,Den X.kw H (.ref x.2.1) (lkT x.1)):(p==sysModules)=false/\s.heap.DictOfH (ze7 X.prog X.w) p xs:=by
 rcases hr with hr | ⟨rfl,hr⟩
 ·obtain⟨⟨nd,_,oks,nod,o,es,ep,e1,e2,e3,e4⟩,_,_⟩:=hr.ok I.hok;exact⟨nd,o,es,ep,e1,e2,e3,e4,λx hx=>⟨zge I (ds x hx),oks x hx⟩,nod⟩
 ·obtain⟨z,nd,vs,rel,o,es,ep,g1,g2,g3,g4,g5,g6⟩:=hr.ok I.hok;cases rel
  have es0:es.toList=[]:=List.length_eq_zero_iff.mp (by have:=g5.length; simpa using this);exact⟨nd,o,es,ep,g1,g2,g3,by rw[es0]; rfl,λx hx=>by simp at hx,List.nodup_nil⟩
section
variable {pins:List (Addr×Obj)}{σ:L2.St}{H:Hp}{s:Shared}{p:Addr}{y dv:V}{u r:Value}{ov:Option V}{E:Value->Shared->Prop}
theorem zoS(hr:Room k X.A):X.A.units+1+4 < cLine:=by have:=hr.un; lia
theorem ztR{Q:Value->Shared->Prop}(hr:Room k X.A)(I:Inv X pins σ H s)(g:DAsk X.kw H p y ov)(ry:zaR y u)(h:∀ s',Inv X pins σ H s'->Q (.bool ov.isSome) s') :
  wpAny (model X.prog X.w) X.A (compareOp .In u (.ref p)) Q E s:=by
 rcases g with g | ⟨b,kk,xs,rfl,hd,ds,d,ok,ro⟩
 ·exact ztP (znT hr) I g ry h
 ·cases ry
  obtain⟨nd,dd⟩:=zfF I hd ds;refine wpAny_in_heap (knd:=ze7 X.prog X.w) (zoS hr) ⟨zge I d,ok⟩ nd dd ?_;have q:=ro.isSome_eq;rw[Option.isSome_map]at q;rw[<- q];exact h _ (I.tok _)
theorem zmX{Q:Value->Shared->Prop}{v:V}(hr:Room k X.A)(I:Inv X pins σ H s)(g:DAsk X.kw H p y (some v))(ry:zaR y u)(h:∀ w' s',Inv X pins σ H s'->zaR v w'->Q w' s') :
  wpAny (model X.prog X.w) X.A (getItem (.ref p) u) Q E s:=by
 rcases g with g | ⟨b,kk,xs,rfl,hd,ds,d,ok,ro⟩
 ·exact zmH (znT hr) I g ry h
 ·cases ry
  obtain⟨nd,dd⟩:=zfF I hd ds;obtain⟨w',hw,rw'⟩:=zg3.some_of (v:=v) (o:=(atKey xs kk).map (·.2)) ro;obtain⟨pr,hp,hp2⟩:=Option.map_eq_some_iff.mp hw;refine wpAny_getItem_heap (knd:=ze7 X.prog X.w) (zoS hr) ⟨zge I d,ok⟩ dd hp ?_;rw[hp2];exact h w' _ (I.tok _) rw'
theorem zrR{Q:Value->Shared->Prop}(hr:Room k X.A)(I:Inv X pins σ H s)(g:DAsk X.kw H p y ov)(ry:zaR y u)(rd:zaR dv r)(h:∀ w' s',Inv X pins σ H s'->zaR (ov.getD dv) w'->Q w' s') :
  wpAny (model X.prog X.w) X.A (call (.builtin "dict.get") [.ref p,u,r]) Q E s:=by
 rcases g with g | ⟨b,kk,xs,rfl,hd,ds,d,ok,ro⟩
 ·exact zrI (znT hr) I g ry rd h
 ·cases ry
  obtain⟨nd,dd⟩:=zfF I hd ds;exact call_meetsIn PySem.F.slot_dict_get dd.typeIs PySem.F.entry_dict_get (PySem.F.args_dict_get_3 _ _ _) (meetsH_dict_get_default (ze7 X.prog X.w) p b nd r) ⟨zoS hr,kk,xs,⟨zge I d,ok⟩,dd,h _ _ (I.tok _) (ro.getD rd)⟩
theorem DAsk.type(I:Inv X pins σ H s)(g:DAsk X.kw H p y ov):s.TypeIs (.ref p) "dict"/\∀ b,Value.ref p=.ref b->∃ ob,s.heap.get? b=some ob/\ob.dict=none:=by
 rcases g with g | ⟨b,kk,xs,rfl,hd,ds,d,ok,ro⟩
 ·exact⟨zjt I g,zju I g⟩
 ·obtain⟨nd,dd⟩:=zfF I hd ds;refine⟨dd.typeIs,λc q=>?_⟩;cases q
  obtain⟨ob,_,_,h1,h2,_⟩:=dd;exact⟨ob,h1,h2.2.1⟩
end
theorem zcW.val{K:KW}{H:Hp}{kk:LK}:∀ {kvs:List (LK×T)} {xs:List (LK×Addr×Value)},zcW K H kvs xs ->
  (∃ t z u,zcZ kvs kk=some t/\(atKey xs kk).map (·.2)=some u/\zaR z u/\Den K H z t)∨(zcZ kvs kk=none/\(atKey xs kk).map (·.2)=none)
 | _,_,.nil=>.inr ⟨rfl,rfl⟩
 | (a,y)::kvs,(b,c,z)::xs,.cons ⟨e,_,v,rv,d⟩ r=>by
  simp only at e rv d
  subst e
  by_cases z:a=kk
  ·subst z
   exact .inl ⟨y,v,_,by simp[zcZ],by simp[atKey],rv,d⟩
  ·rcases zcW.val (kk:=kk) r with ⟨t,v',u,h1,h2,h3,h4⟩ | ⟨h1,h2⟩
   ·exact .inl ⟨t,v',u,by simpa [zcZ,z] using h1,by simpa [atKey,z] using h2,h3,h4⟩
   ·exact .inr ⟨by simpa [zcZ,z] using h1,by simpa [atKey,z] using h2⟩
theorem zcW.dens{K:KW}{H:Hp}{kvs:List (LK×T)}{xs:List (LK×Addr×Value)}(r:zcW K H kvs xs):∀ x∈xs,Den K H (.ref x.2.1) (lkT x.1):=by
 induction r with
 | nil=>intro x h; simp at h
 | cons p _ ih =>
  intro x h;rcases List.mem_cons.mp h with q | q
  ·subst q; exact p.2.1
  ·exact ih x q
theorem ziA{K:KW}{H:Hp}{u:V}{y:T}{r:Option T}{p:Addr}{kvs:List (Key×T)}{ks:List (Key×V)}(rd:Rd H p (.dK ks))(ds:zdz K H ks kvs)(d2:Den K H u y)(h:zjx kvs y=some r) :
  ∃ o,DAsk K H p u o/\((∃ t z,r=some t/\o=some z/\Den K H z t)∨(r=none/\o=none)):=by
 unfold zjx at h;split at h
 ·rename_i kk ek;cases h
  have e2:=zj7 ek;subst e2;have ey:u=kV kk:=by cases kk<;>cases d2<;>rfl
  refine⟨zi1 ks kk,.k (.inl ⟨ks,kk,rd,ey,rfl⟩),?_⟩;cases e3:zcZ kvs kk with
  | some t=>obtain⟨z,e4,d4⟩:=zdz.val ds e3; exact .inl ⟨t,z,rfl,e4,d4⟩
  | none=>exact .inr ⟨rfl,zdz.valN ds e3⟩
 ·split at h
  ·rename_i kk ek;split at h
   ·rename_i ok;cases h
    cases ds
    have e2:=zhE ek;subst e2;generalize et:lkT kk=tk at d2;have d2':=d2;cases d2 with
    | tup q dd =>
     rw[<- et]at d2';exact⟨none,.t _ kk [] rfl (.inr ⟨rfl,rd⟩) (λ_ hx=>by simp at hx) d2' ok trivial,.inr ⟨rfl,rfl⟩⟩
    | _=>cases et
   ·cases h
  ·cases h
theorem ziz{K:KW}{H:Hp}{u:V}{y:T}{r:Option T}{p:Addr}{kvs:List (LK×T)}{xs:List (LK×Addr×Value)}(rd:Rd H p (.ext (zi4 K.P K.w p xs)))(ds:zcW K H kvs xs)(d2:Den K H u y)(h:zjw kvs y=some r) :
  ∃ o,DAsk K H p u o/\((∃ t z,r=some t/\o=some z/\Den K H z t)∨(r=none/\o=none)):=by
 unfold zjw at h;split at h
 ·rename_i kk ek;split at h
  ·rename_i ok;cases h
   have e2:=zhE ek;subst e2;generalize et:lkT kk=tk at d2;have d2':=d2;cases d2 with
   | tup q dd =>
    rw[<- et]at d2';rcases zcW.val (kk:=kk) ds with ⟨t,z,w,h1,h2,h3,h4⟩ | ⟨h1,h2⟩
    ·exact⟨some z,.t _ kk xs rfl (.inl rd) ds.dens d2' ok (by rw[h2]; exact h3),.inl ⟨t,z,h1,rfl,h4⟩⟩
    ·exact⟨none,.t _ kk xs rfl (.inl rd) ds.dens d2' ok (by rw[h2]; trivial),.inr ⟨h1,rfl⟩⟩
   | _=>cases et
  ·cases h
 ·cases h
theorem zhI{K:KW}{H:Hp}{G:Gp}{v u:V}{x y:T}{r:Option T}(d1:Den K H v x)(d2:Den K H u y)(hr:HR K H G)(h:zcq x y G=some r) :
  ∃ p o,v=.ref p/\DAsk K H p u o/\((∃ t z,r=some t/\o=some z/\Den K H z t)∨(r=none/\o=none)):=by
 cases d1 with
 | ref p =>
  simp only[zcq]at h;split at h
  ·rename_i kvs eg;obtain⟨ks,e1,ds⟩:=hr p _ eg;obtain⟨o,h1,h2⟩:=ziA (.inl e1) ds d2 h;exact⟨p,o,rfl,h1,h2⟩
  ·rename_i ob kvs eg;obtain⟨ks,e1,ds⟩:=hr p _ eg;obtain⟨o,h1,h2⟩:=ziA (.inr ⟨ob,e1⟩) ds d2 h;exact⟨p,o,rfl,h1,h2⟩
  ·rename_i kvs eg;obtain⟨ks,e1,ds⟩:=hr p _ eg;obtain⟨o,h1,h2⟩:=ziz (.inl e1) ds d2 h;exact⟨p,o,rfl,h1,h2⟩
  ·rename_i ob kvs eg;obtain⟨ks,e1,ds⟩:=hr p _ eg;obtain⟨o,h1,h2⟩:=ziz (.inr ⟨ob,e1⟩) ds d2 h;exact⟨p,o,rfl,h1,h2⟩
  ·cases h
 | _=>cases h
def zs5(f:Bool->Bool):R3:=λy x G Q=>match zcq x y G with
 | some r=>Q (.bl (f r.isSome)) G
 | none=>False
def zsp(K:KW)(f:Bool->Bool):R2:=λy x H Q=>∃ p o,x=.ref p/\DAsk K H p y o/\Q (.bl (f o.isSome)) H
theorem ztG{K:KW}{f:Bool->Bool}:LR K (zs5 f) (zsp K f):=by
 intro H G y x y3 x3 Q Q3 dy dx r h im;unfold zs5 at h;split at h
 ·rename_i rr e;obtain⟨p,o,e1,g,e2⟩:=zhI dx dy r e;refine⟨p,o,e1,g,?_⟩;have:o.isSome=rr.isSome:=by
   rcases e2 with ⟨t,z,e3,e4,_⟩ | ⟨e3,e4⟩
   ·rw[e3,e4]; rfl
   ·rw[e3,e4]; rfl
  rw[this];exact im _ G _ H h (Kp.refl _) (.bl _) r
 ·exact h.elim
theorem zq4(hr:Room k X.A):OpR X (compareOp .In) (zsp X.kw id):=by
 intro pins s σ H y x v u Q I ry rx h;obtain⟨p,o,rfl,g,q⟩:=h;cases rx
 exact ztR hr I g ry λs' I'=>⟨.bl _,H,I',rfl,q⟩
def zp4(f:Bool->Bool):R3:=λx y G Q=>match zis x y G with
 | some kk=>Q (.bl (f kk)) G
 | none=>(match zcq y x G with
  | some r=>Q (.bl (f r.isSome)) G
  | none=>False)
theorem ztF{K:KW}{f:Bool->Bool}:LR K (zp4 f) (λx y H Q=>zso K f x y H Q∨zsp K f x y H Q):=by
 intro H G x y x3 y3 Q Q3 dx dy r h im;unfold zp4 at h;split at h
 ·rename_i kk e;exact .inl (ztE H G x y x3 y3 Q Q3 dx dy r (by unfold zr8; rw[e]; exact h) im)
 ·exact .inr (ztG H G x y x3 y3 Q Q3 dx dy r h im)
theorem zs6(hr:Room k X.A)(ha:QE X a ta)(hb:QE X b tb)(hm:behindInMarks .In b=false:=by with_unfolding_all rfl):QT X (.Compare a [.In] [b] pos) (zam (wOp (zp4 id) ta tb)):=zi5 (OpR.or (zq2 hr) (zq4 hr)) ztF ha hb hm
def ixA:R3:=λx y G Q=>match zcq x y G with
 | some (some v)=>Q v G
 | some none=>False
 | none=>ix3 x y G Q
theorem zpy(hr:Room k X.A):IxR X (λx y H Q=>∃ p v,x=.ref p/\DAsk X.kw H p y (some v)/\Q v H):=by
 intro value slice pins s σ H x y v u Q I rx ry h hs;obtain⟨p,z,rfl,g,q⟩:=h;cases rx
 exact tail_any (g.type I).1 PySem.F.slot_dict_getitem.lookup (zmX hr I g ry λw' s' I' rw'=>⟨z,H,I',rw',q⟩) hs
theorem zbP(hr:Room k X.A)(ha:QE X a ta)(hb:QE X b tb)(hs:zmY b:=by exact λ_ _=>rfl):QE X (.Subscript a b pos) (wOp ixA ta tb):=(zsI (IxR.or (zpy hr) (IxR.or zpx zrr)) ha hb hs).imp λσ H Q h=>lOp (r3:=ixA) (λH G x y x3 y3 Q Q3 dx dy r h im=>by
  unfold ixA at h
  split at h
  ·rename_i w e
   obtain⟨p,o,e1,g,⟨t',z,e2,e3,dz⟩ | ⟨e2,_⟩⟩:=zhI dx dy r e
   case inr=>cases e2
   cases e2
   subst e3
   exact .inl ⟨p,z,e1,g,im _ G _ H h (Kp.refl _) dz r⟩
  ·exact h.elim
  ·refine .inr ?_
   unfold ix3 at h
   cases dy with
   | int j =>
    simp only at h
    split at h
    ·rename_i us e
     split at h
     ·rename_i w e2
      obtain⟨p,xs,e1,q,ds⟩:=zd7 dx r e
      obtain⟨z,e3,d3⟩:=zpQ ds e2
      have fin:=im _ G _ H h (Kp.refl _) d3 r
      rcases q with q | q
      ·exact .inl ⟨p,xs,j,z,e1,rfl,q,e3,fin⟩
      ·exact .inr ⟨p,xs,j,z,e1,rfl,q,e3,fin⟩
     ·exact h.elim
    ·exact h.elim
   | _=>exact False.elim h) h
def za3(x:T)(G:Gp)(Q:Prop):Prop:=match x with
 | .ref p=>(match G p with
  | some (.dK _)=>Q
  | some (.dF _ _)=>Q
  | some (.dT _)=>Q
  | some (.dG _ _)=>Q
  | _=>False)
 | _=>False
def ziw(x y z:T)(G:Gp)(Q:VK3):Prop:=match zcq x y G with
 | some r=>Q (r.getD z) G
 | none=>False
theorem znz{pins:List (Addr×Obj)}{σ:L2.St}{H:Hp}{s:Shared}{G:Gp}{v:V}{x:T}{Q:Prop}(I:Inv X pins σ H s)(d:Den X.kw H v x)(r:HR X.kw H G)(h:za3 x G Q) :
  Q/\∃ p,v=.ref p/\s.TypeIs (.ref p) "dict"/\∀ b,Value.ref p=.ref b->∃ ob,s.heap.get? b=some ob/\ob.dict=none:=by
 have lk:∀ p xs,Rd H p (.ext (zi4 X.prog X.w p xs))->s.TypeIs (.ref p) "dict"/\∀ b,Value.ref p=.ref b->∃ ob,s.heap.get? b=some ob/\ob.dict=none:=by
  intro p xs rd;obtain⟨⟨nd,_,oks,nod,o,es,ep,e1,e2,e3,e4⟩,_,_⟩:=rd.ok I.hok;refine⟨⟨o,e1,e2.1⟩,λb q=>?_⟩;cases q
  exact⟨o,e1,e2.2.1⟩
 cases d with
 | ref p =>
  simp only[za3]at h;split at h
  ·rename_i kvs eg;obtain⟨ks,e1,ds⟩:=r p _ eg;have q:=zop I (.inl ⟨ks,.inl e1⟩);exact⟨h,p,rfl,q.1,q.2.1⟩
  ·rename_i ob kvs eg;obtain⟨ks,e1,ds⟩:=r p _ eg;have q:=zop I (.inl ⟨ks,.inr ⟨ob,e1⟩⟩);exact⟨h,p,rfl,q.1,q.2.1⟩
  ·rename_i kvs eg;obtain⟨xs,e1,ds⟩:=r p _ eg;exact⟨h,p,rfl,lk p xs (.inl e1)⟩
  ·rename_i ob kvs eg;obtain⟨xs,e1,ds⟩:=r p _ eg;exact⟨h,p,rfl,lk p xs (.inr ⟨ob,e1⟩)⟩
  ·exact h.elim
 | _=>exact False.elim h
def ziY(to te:TE3):TE3:=λτ G Q=>to τ G λx G1=>za3 x G1 (te τ G1 λy G2=>ziw x y .non G2 Q)
def zew(to te tf:TE3):TE3:=λτ G Q=>to τ G λx G1=>za3 x G1 (te τ G1 λy G2=>tf τ G2 λz G3=>ziw x y z G3 Q)
theorem znZ{K:KW}{H:Hp}{G:Gp}{v u w:V}{x y z:T}{Q3:VK3}(d1:Den K H v x)(d2:Den K H u y)(d3:Den K H w z)(hr:HR K H G)(h:ziw x y z G Q3) :
  ∃ p o t,v=.ref p/\DAsk K H p u o/\Den K H (o.getD w) t/\Q3 t G:=by
 unfold ziw at h;split at h
 ·rename_i r e;obtain⟨p,o,e1,g,e2⟩:=zhI d1 d2 hr e;refine⟨p,o,_,e1,g,?_,h⟩;rcases e2 with ⟨t,zz,e3,e4,dz⟩ | ⟨e3,e4⟩
  ·rw[e3,e4]; exact dz
  ·rw[e3,e4]; exact d3
 ·exact h.elim
variable {f:Expr}{te tf:TE3}
theorem zsA(hr:Room k X.A)(ho:QE X o to)(he:QE X e te)(hf:QE X f tf)(m:M2 X o "get" apos e f pos:=by exact⟨rfl,rfl,rfl,rfl⟩):QE X (.Call (.Attribute o "get" apos) [e,f] [] pos) (zew to te tf):=by
 intro pins s σ H Q I ⟨τ,G,Q3,st,r,h,im⟩;refine wpAny_Call_method m.base m.few m.line PySem.F.plainAttrs_dict PySem.F.slot_dict_get PySem.F.type_dict_get
  (thn (ho pins s σ H (λv H1=>∃ x G1,za3 x G1 (te τ G1 λy G2=>tf τ G2 λz G3=>ziw x y z G3 Q3)/\Kp H H1/\Den X.kw H1 v x/\HR X.kw H1 G1) I ⟨τ,G,_,st,r,h,λx G1 v H1 h1 k1 d1 r1=>⟨x,G1,h1,k1,d1,r1⟩⟩) λu s1 ⟨v,H1,I1,rv,x,G1,h1,k1,d1,r1⟩=>?_)
 obtain⟨h1,p,rfl,t1,t2⟩:=znz I1 d1 r1 h1;cases rv
 refine⟨t1,t2,?_⟩;rw[m.trees];refine Calls.callWith_builtin rfl (Calls.evalArgs_plain (Calls.spliced_cons (thn (he pins s1 σ H1 (λw H2=>∃ y G2,(tf τ G2 λz G3=>ziw x y z G3 Q3)/\Kp H1 H2/\Den X.kw H2 w y/\HR X.kw H2 G2) I1 ⟨τ,G1,_,st.mono k1,r1,h1,λy G2 w H2 h2 k2 d2 r2=>⟨y,G2,h2,k2,d2,r2⟩⟩) λiv s2 ⟨w,H2,I2,rw2,y,G2,h2,k2,d2,r2⟩ =>
  Calls.spliced_cons (thn (hf pins s2 σ H2 (λw H3=>∃ z G3,ziw x y z G3 Q3/\Kp H2 H3/\Den X.kw H3 w z/\HR X.kw H3 G3) I2 ⟨τ,G2,_,st.mono (k1.trans k2),r2,h2,λz G3 w H3 h3 k3 d3 r3=>⟨z,G3,h3,k3,d3,r3⟩⟩) λfv s3 ⟨w3,H3,I3,rw3,z,G3,h3,k3,d3,r3⟩=>Calls.spliced_nil ?_))))
 obtain⟨p',ov,t,e,g,dt,q⟩:=znZ (d1.mono (k2.trans k3)) (d2.mono k3) d3 r3 h3;cases e
 exact zrR hr I3 g rw2 rw3 λw' s4 I4 rw'=>⟨_,H3,I4,rw',im _ G3 _ H3 q ((k1.trans k2).trans k3) dt r3⟩
end
section
variable {X:Cx}{e a b c o i l:Expr}{es:List Expr}{pos apos p p2:Pos}{ta tb tc tv to ti tl:TE3}{t:TA3}{k:Nat}{tg:Expr}
theorem znk{x z:Str}(hm:∃ t,X.mg x=some (.str z t))(hg:Gl X x:=by rfl)(hd:(x==("__debug__":Str))=false:=by decide):QE X (.Name x pos) (wC (.str z)):=let ⟨_,h⟩:=hm; zsy h hg hd
theorem zdd(hl:QE X l tl):QI X tg l (zce tl):=by
 intro pins s σ H R I h;obtain⟨τ,G,Q3,st,r,h,im⟩:=h;refine thn (hl pins s σ H (λv H1=>∃ x G1,zce (λ_ _ Q=>Q x G1) τ G1 Q3/\Kp H H1/\Den X.kw H1 v x/\HR X.kw H1 G1) I ⟨τ,G,_,st,r,h,λx G1 v H1 h1 k1 d1 r1=>⟨x,G1,h1,k1,d1,r1⟩⟩) λv s1 ⟨vv,H1,I1,rv,x,G1,h1,k1,d1,r1⟩=>?_;unfold zce at h1;cases d1 with
 | tup q ds =>
  rename_i a xs ts;cases rv
  obtain⟨its,rr,pl,hz⟩:=I1.tuple q;refine wpAny_pyIter_tuple (show s1.heap.IsTuple a its.toArray from pl) ?_;refine⟨s1.heap.objs.size,[s1.heap.objs.size],_,_,H1,rfl,I1.kept (t':=s1.toks) λb o e=>hPs _ e,zkt a _,⟨_,hPz _ rfl,rfl,rfl⟩,λb hb=>?_,im ts _ G1 _ H1 h1 k1 r1 ⟨λj H2 G2 kk _ _ hj=>?_,λj H2 G2 y H3 kk r2 _ hj hy=>?_,λj H2 G2 kk _ _ hj=>?_⟩⟩
  ·obtain rfl:=List.mem_singleton.mp hb;exact I1.fpOk (nLr _) (I1.hok.fresh (nLr _))
  ·have hj':j < xs.length:=by rw[ds.length]; exact hj
   exact⟨xs,xs[j],kk.sqT q,by simp[hj']⟩
  ·obtain⟨e,hy⟩:=hy;subst e;obtain⟨t,et,dt⟩:=(ds.mono kk).getV (hy xs (kk.sqT q));exact⟨Kp.refl _,r2,t,et,dt⟩
  ·exact⟨xs,kk.sqT q,by rw[ds.length]; exact hj⟩
 | fro q ds =>
  rename_i a xs ts;cases rv
  obtain⟨its,rr,pl,hz⟩:=I1.list q.sq;refine wpAny_pyIter_list pl.isList ?_;refine⟨s1.heap.objs.size,[s1.heap.objs.size],_,_,H1,rfl,I1.kept (t':=s1.toks) λb o e=>hPs _ e,zhR a _,⟨_,hPz _ rfl,rfl,rfl⟩,λb hb=>?_,im ts _ G1 _ H1 h1 k1 r1 ⟨λj H2 G2 kk _ _ hj=>?_,λj H2 G2 y H3 kk r2 _ hj hy=>?_,λj H2 G2 kk _ _ hj=>?_⟩⟩
  ·obtain rfl:=List.mem_singleton.mp hb;exact I1.fpOk (nLr _) (I1.hok.fresh (nLr _))
  ·have hj':j < xs.length:=by rw[ds.length]; exact hj
   exact⟨xs,xs[j],(kk.sqF q).sq,by simp[hj']⟩
  ·obtain⟨e,hy⟩:=hy;subst e;obtain⟨t,et,dt⟩:=(ds.mono kk).getV (hy xs (kk.sqF q).sq);exact⟨Kp.refl _,r2,t,et,dt⟩
  ·exact⟨xs,(kk.sqF q).sq,by rw[ds.length]; exact hj⟩
 | ref a =>
  simp only at h1;split at h1
  ·rename_i ts e;cases rv
   obtain⟨xs,e1,ds⟩:=r1 a _ e;obtain⟨its,rr,pl,hz⟩:=I1.list (SqL.of e1);refine wpAny_pyIter_list pl.isList ?_;refine⟨s1.heap.objs.size,[s1.heap.objs.size],_,_,H1,rfl,I1.kept (t':=s1.toks) λb o e=>hPs _ e,zhR a _,⟨_,hPz _ rfl,rfl,rfl⟩,λb hb=>?_,im ts _ G1 _ H1 h1 k1 r1 ⟨λj H2 G2 kk r2 hS hj=>?_,λj H2 G2 y H3 kk r2 hS hj hy=>?_,λj H2 G2 kk r2 hS hj=>?_⟩⟩
   ·obtain rfl:=List.mem_singleton.mp hb;exact I1.fpOk (nLr _) (I1.hok.fresh (nLr _))
   ·obtain⟨ys,e2,ds2⟩:=r2 a _ hS;have hj':j < ys.length:=by rw[ds2.length]; exact hj
    exact⟨ys,ys[j],SqL.of e2,by simp[hj']⟩
   ·obtain⟨ez,hy⟩:=hy;subst ez;obtain⟨ys,e2,ds2⟩:=r2 a _ hS;obtain⟨t,et,dt⟩:=ds2.getV (hy ys (SqL.of e2));exact⟨Kp.refl _,r2,t,et,dt⟩
   ·obtain⟨ys,e2,ds2⟩:=r2 a _ hS;exact⟨ys,SqL.of e2,by rw[ds2.length]; exact hj⟩
  ·exact h1.elim
 | _=>exact False.elim h1
structure CmpI(X:Cx)(op:CmpOp)(f:Int->Int->Bool):Prop where
 o:OpR X (compareOp op) (rI0 λi j=>.bl (f i j))
noncomputable abbrev zov:=List T->St3->Gp->(St3->Gp->Prop)->Prop
def lGs(K:KW)(g:zov):TGs:=λvs σ H Q=>∃ ts τ G Q3,Dens K H vs ts/\Sts K H σ τ/\HR K H G/\g ts τ G Q3/\zow K H Q3 Q
def zeT:zov:=λts τ G Q=>match ts with
 | []=>Q τ G
 | _=>False
def zbf(g:TG3)(u:zov):zov:=λts τ G Q=>match ts with
 | t::r=>g t τ G λτ' G'=>u r τ' G' Q
 | []=>False
theorem _root_.L2.PGs.imp{ts:List Expr}{g g':TGs}(h:PGs X ts g)(i:∀ v σ H Q,g' v σ H Q->g v σ H Q):PGs X ts g':=λpins s σ H v u Q I r q=>h pins s σ H v u Q I r (i _ _ _ _ q)
abbrev QGs(X:Cx)(ts:List Expr)(g:zov):Prop:=PGs X ts (lGs X.kw g)
theorem zsz:QGs X [] zeT:=zpa.imp λv σ H Q hu=>by
 obtain⟨ts,τ,G,Q3,d,s,r,h,im⟩:=hu
 cases d with
 | nil=>exact⟨rfl,im τ G σ H h (Kp.refl _) s r⟩
 | cons _ _=>exact False.elim h
theorem qgs{g:TG3}{u:zov}(h1:QG X e g)(h2:QGs X es u)(hs:(assignEach (e::es) X.env).map (·.2)=assign e X.env::(assignEach es X.env).map (·.2):=by rfl):QGs X (e::es) (zbf g u):=(znt h1 h2 hs).imp λv σ H Q hu=>by
 obtain⟨ts,τ,G,Q3,d,s,r,h,im⟩:=hu
 cases d with
 | nil=>exact False.elim h
 | cons d1 d2 =>
  refine⟨_,_,rfl,_,τ,G,_,d1,s,r,h,λτ' G' σ' H' h' k' s' r'=>?_⟩
  exact⟨_,τ',G',Q3,d2.mono k',s',r',h',im.mono k'⟩
def zeS(n:Nat)(u:zov):TG3:=λx τ G Q=>match x with
 | .tup ts=>ts.length=n/\u ts τ G Q
 | _=>False
theorem zo0{u:zov}{kk n:Nat}(h:QGs X es u)(hn:(assignEach es X.env).length=n:=by rfl)(hst:(assignEach es X.env).findIdx? (·.1)=none:=by rfl)(hc:X.calm=true:=by rfl):QG X (.Tuple es kk pos) (zeS n u):=(zqL hc h hn hst).imp λv σ H Q hu=>by
 obtain⟨x,τ,G,Q3,d,s,r,h,im⟩:=hu
 cases d with
 | tup q ds=>exact⟨_,_,rfl,q,by rw[ds.length]; exact h.1,_,τ,G,Q3,ds,s,r,h.2,im⟩
 | _=>exact False.elim h
noncomputable abbrev TO3:=St3->Gp->(Option Int->Gp->Prop)->Prop
noncomputable def lO(K:KW)(t:TO3):TO:=λσ H Q=>∃ τ G Q3,Sts K H σ τ/\HR K H G/\t τ G Q3/\∀ o G' H',Q3 o G'->Kp H H'->HR K H' G'->Q o H'
noncomputable def wP0:TO3:=λ_ G Q=>Q none G
noncomputable def wP1(ta:TE3):TO3:=λτ G Q=>ta τ G λx G1=>match x with
 | .int i=>Q (some i) G1
 | _=>False
abbrev QO(X:Cx)(e:Option Expr)(t:TO3):Prop:=PO X e (lO X.kw t)
theorem _root_.L2.PO.imp{e:Option Expr}{t t':TO}(h:PO X e t)(i:∀ σ H Q,t' σ H Q->t σ H Q):PO X e t':=λpins s σ H Q I q=>h pins s σ H Q I (i _ _ _ q)
theorem qp0:QO X none wP0:=zo9.imp λσ H Q hu=>(by obtain⟨τ,G,Q3,s,r,h,im⟩:=hu; exact im none G H h (Kp.refl _) r)
theorem qp1(ha:QE X a ta):QO X (some a) (wP1 ta):=(zo8 ha).imp λσ H Q hu=>by
 obtain⟨τ,G,Q3,s,r,h,im⟩:=hu
 refine⟨τ,G,_,s,r,h,λx G1 v H1 h1 k1 d1 r1=>?_⟩
 cases d1 with
 | int i=>exact⟨i,rfl,im _ G1 H1 h1 k1 r1⟩
 | _=>exact False.elim h1
noncomputable def zkU(ts:List T)(lo hi:Option Int):List T:=(ts.drop (HT.sIx ts.length 0 lo)).take (HT.sIx ts.length ts.length hi - HT.sIx ts.length 0 lo)
def zaC(x:T)(lo hi:Option Int)(G:Gp)(Q:VK3):Prop:=match x with
 | .tup ts=>Q (.tup (zkU ts lo hi)) G
 | .fro ts=>∀ p,G p=none->Q (.ref p) (updG G p (.lst (zkU ts lo hi)))
 | .ref p=>(match G p with
  | some (.lst ts)=>∀ p,G p=none->Q (.ref p) (updG G p (.lst (zkU ts lo hi)))
  | _=>False)
 | _=>False
def zaN(ta:TE3)(tl th:TO3):TE3:=λτ G Q=>ta τ G λx G1=>tl τ G1 λlo G2=>th τ G2 λhi G3=>zaC x lo hi G3 Q
end
end L3
namespace HT
open PySem PySem.Spec PyProof.Rows L2
section
variable {prog:Program}{w:World}{A:Around}{E:Value->Shared->Prop}{s:Shared}
theorem getItem_tuple_all{t sl:Addr}{items:Array Value}{vl vu:Value}{lo hi:Option Int}{Q:Value->Shared->Prop}(ht:IsTup s.heap t items)(hs:s.heap.IsSliceOf sl vl vu .none)(pl:IsPart vl lo)(pu:IsPart vu hi)
  (hw:sIx items.size 0 lo=0/\sIx items.size items.size hi=items.size) (h:Q (.ref t) s):wpAny (model prog w) A (getItem (.ref t) (.ref sl)) Q E s:=by
 obtain⟨os,hos,hcs,hds⟩:=id hs;have hTs:s.TypeIs (.ref sl) "slice":=⟨os,hos,hcs⟩;unfold getItem
 try with_reducible refine wpAny_holding ?_
 first | refine wB (wQ ?_) | skip
 refine wB (wpAny_sequenceKey ht.typeIs (by decide) ?_);refine wpAny_bind (wpAny_callSpecial?_slot (name:=Str.ofString "__getitem__") ht.typeIs PyProof.Rows.slot_tuple_getitem
  (wpAny_call_entry PyProof.Rows.slot_tuple_getitem ht.typeIs entry_tuple_getitem ?_ (args_tuple_getitem _ _)))
 show wpAny _ _ (Builtin.Tuple.tupleItemsOf (.ref t) >>= _) _ _ s;refine wB (tupleItemsOf_ ht ?_);refine wB (wpAny_typeOf hTs ?_);rw[if_pos (by decide)];refine wB (zcO hs pl pu ?_);have hy:((((sIx items.size 0 lo:Nat):Int)==0&&(1:Int)==1&&(sIx items.size items.size hi - sIx items.size 0 lo)==items.size)=true):=by
  rw[hw.1,hw.2]; simp
 show wpAny _ _ (if (((sIx items.size 0 lo:Nat):Int)==0&&(1:Int)==1&&(sIx items.size items.size hi - sIx items.size 0 lo)==items.size)=true then _ else _) _ _ s;rw[if_pos hy];refine wB (show wpAny _ _ (Builtin.Tuple.tupleIsExact (.ref t)) _ _ _ from ?_);unfold Builtin.Tuple.tupleIsExact;refine wB (wpAny_typeOf ht.typeIs (wQ ?_));rw[if_pos (by decide)];exact wB (wpAny_rule (wQ ⟨_,rfl,wQ h⟩))
end
end HT
namespace L3
open PySem PySem.Spec PyProof.Rows L2
section
variable {X:Cx}{e a b c o i l:Expr}{es:List Expr}{pos apos p p2:Pos}{ta tb tc tv to ti tl:TE3}{t:TA3}{k:Nat}{tg:Expr}
theorem Dens.cut{K:KW}{H:Hp}{xs:List V}{ts:List T}(d:Dens K H xs ts)(lo hi:Option Int):Dens K H (zot xs lo hi) (zkU ts lo hi):=by
 unfold zot zkU;rw[d.length];exact(d.drop _).take _
theorem zkT{ts:List T}{lo hi:Option Int}(h:HT.sIx ts.length 0 lo=0/\HT.sIx ts.length ts.length hi=ts.length):zkU ts lo hi=ts:=by
 unfold zkU;rw[h.1,h.2];simp
def ztw(K:KW):V->Option Int->Option Int->Hp->VK->Prop:=λx lo hi H Q=>∃ G tx Q3,Den K H x tx/\HR K H G/\zaC tx lo hi G Q3/\Imp K H Q3 Q
theorem zqi:SlR X (ztw X.kw):=by
 intro pins s σ H x v vl vu lo hi sl Q I rx hs pl pu h;obtain⟨G,tx,Q3,d,r,h,im⟩:=h;cases d with
 | tup q ds =>
  rename_i a xs ts;simp only[zaC]at h;by_cases hw:HT.sIx ts.length 0 lo=0/\HT.sIx ts.length ts.length hi=ts.length
  ·cases rx
   obtain⟨its,rr,ht,hz⟩:=I.tuple q;have hlen:its.toArray.size=ts.length:=by rw[List.size_toArray,<- ds.length]; exact rr.length.symm
   refine⟨"tuple",_,PyProof.Rows.slot_tuple_getitem.lookup,ht.typeIs,?_⟩;rw[zkT hw]at h;exact HT.getItem_tuple_all ht hs pl pu (by rw[hlen]; exact hw) ⟨.ref a,H,I,rfl,im _ G _ H h (Kp.refl _) (.tup q ds) r⟩
  ·exact zqh pins s σ H _ v vl vu lo hi sl Q I rx hs pl pu ⟨a,xs,rfl,q,by rw[ds.length]; exact hw,λp hp=>im _ G _ _ h (Kp.new hp) (.tup (SqT.of zak) ((ds.cut lo hi).mono (Kp.new hp))) (r.lay hp)⟩
 | fro q ds =>
  rename_i a xs ts;exact zlt pins s σ H _ v vl vu lo hi sl Q I rx hs pl pu ⟨a,xs,rfl,q.sq,λp hp=>im _ _ _ _ (h p (r.free hp)) (Kp.new hp) (.ref p) (r.new (o:=.lst (zkU ts lo hi)) hp ⟨_,zak,(ds.cut lo hi).mono (Kp.new hp)⟩)⟩
 | ref a =>
  simp only[zaC]at h;split at h
  ·rename_i ts eg;obtain⟨xs,e1,ds⟩:=r a _ eg;exact zlt pins s σ H _ v vl vu lo hi sl Q I rx hs pl pu ⟨a,xs,rfl,SqL.of e1,λp hp=>im _ _ _ _ (h p (r.free hp)) (Kp.new hp) (.ref p) (r.new (o:=.lst (zkU ts lo hi)) hp ⟨_,zak,(ds.cut lo hi).mono (Kp.new hp)⟩)⟩
  ·exact h.elim
 | _=>exact False.elim h
theorem zlD{lo hi:Option Expr}{wl wh:TO3}(ha:QE X a ta)(hl:QO X lo wl)(hh:QO X hi wh):QE X (.Subscript a (.Slice lo hi none p2) pos) (zaN ta wl wh):=(znu zqi ha hl hh).imp λσ H Q hu=>by
 obtain⟨τ,G,Q3,s,r,h,im⟩:=hu
 refine⟨τ,G,_,s,r,h,λx G1 v H1 h1 k1 d1 r1=>⟨τ,G1,_,s.mono k1,r1,h1,λlo G2 H2 h2 k2 r2=>⟨τ,G2,_,s.mono (k1.trans k2),r2,h2,λhi G3 H3 h3 k3 r3=>?_⟩⟩⟩
 exact⟨G3,x,Q3,d1.mono (k2.trans k3),r3,h3,im.mono ((k1.trans k2).trans k3)⟩
end
section
variable {X:Cx}{e a b c o i l:Expr}{es:List Expr}{pos apos p p2:Pos}{ta tb tc tv to ti tl:TE3}{t:TA3}{k:Nat}{tg:Expr}
noncomputable def isInt:T->Option Bool
 | .int _=>some true
 | .bl _=>some true
 | .non=>some false
 | .str _=>some false
 | .tup _=>some false
 | _=>none
noncomputable def zga:T->Option Bool
 | .bl _=>some true
 | .int _=>some false
 | .non=>some false
 | .str _=>some false
 | .tup _=>some false
 | _=>none
noncomputable def zdU:T->Option Bool
 | .tup _=>some true
 | .bl _=>some false
 | .int _=>some false
 | .non=>some false
 | .str _=>some false
 | _=>none
def zoB(n:String)(f:T->Option Bool)(ta:TE3):TE3:=λτ G Q=>ta τ G λx G1=>match f x with
 | some b=>Q (.bl b) G1
 | none=>False
end
end L3
namespace L2
open PySem PySem.Spec PyProof.Rows
section
variable {X:Cx}{pins:List (Addr×Obj)}{σ:St}{H:Hp}{s:Shared}{p:Addr}{u:HO}{o:Obj}
theorem Inv.freeze(I:Inv X pins σ H s)(e:H p=some u)(mu:Mut (some u))(ho:s.heap.get? p=some o):Inv X pins σ (upd H p (.frz o u)) s:=by
 have nown:∀ b y,H b=some (.own y)->b≠p:=λb y r z=>by subst z; rw[e]at r; cases r; exact mu
 have ntup:∀ b xs,H b=some (.tup xs)->b≠p:=λb y r z=>by subst z; rw[e]at r; cases r; exact mu
 have ok:zbg X.prog X.w (upd H p (.frz o u)) s.heap p u:=(I.hok p u e).stay (λ_ _ _ q=>q) (λb q=>by rw[zal (nown b p q)]; exact q) λb xs q=>by rw[zal (ntup b xs q)]; exact q
 exact I.write (x:=p) (e:=p) (o:=.frz o u) (t':=s.toks) (h':=s.heap) (by rw[e]; exact mu) (.inl rfl) (λ_ _ _ q=>q) ⟨o,ho⟩ ⟨ho,ok⟩
theorem Inv.nofrz(I:Inv X pins σ H s)(e:H p=some u)(mu:Mut (some u)):∀ ob w,X.H₀ p≠some (.frz ob w):=λob w z=>by
 have:=I.base.frzs p ob w z
 rw[e]at this; cases this; exact mu
theorem Inv.thaw(I:Inv X pins σ H s)(e:H p=some (.frz o u))(nf:∀ ob w,X.H₀ p≠some (.frz ob w)):Inv X pins σ (upd H p u) s:=by
 have nn:∀ b,H b=none->b≠p:=λb n z=>by subst z; rw[e]at n; cases n
 have no:∀ b w,H b=some w->(∀ ob x,w≠.frz ob x)->b≠p:=λb w q h z=>by subst z; rw[e]at q; cases q; exact h _ _ rfl
 refine⟨I.ok,I.os,I.bare,⟨I.base.keep,I.base.slot,λb ob q n hx=>?_,I.base.there,λb xs q=>?_,λb ob w q=>?_,λb ps q=>?_⟩,I.loc,I.cell,?_,λx c q=>?_,λz hz=>?_,λb w q=>?_,I.len⟩
 ·have:=I.base.free b ob q n hx;rw[zal (nn b this)]; exact this
 ·have:=I.base.tups b xs q;rw[zal (no b _ this λ_ _ z=>by cases z)]; exact this
 ·have:=I.base.frzs b ob w q;rw[zal]; exact this;rintro rfl; exact nf _ _ q
 ·obtain⟨more,this⟩:=I.base.tbls b ps q;exact⟨more,by rw[zal (no b _ this λ_ _ z=>by cases z)]; exact this⟩
 ·rw[zal (nn _ I.free)]; exact I.free
 ·rw[zal (nn _ (I.freeC x c q))]; exact I.freeC x c q
 ·obtain⟨a1,a2,a3⟩:=I.pin z hz;exact⟨a1,by rw[zal (nn _ a2)]; exact a2,a3⟩
 ·have st:∀ b' w',zbg X.prog X.w H s.heap b' w'->zbg X.prog X.w (upd H p u) s.heap b' w':=λb' w' x=>x.stay (λ_ _ _ q=>q)
   (λc q=>by rw[zal (no c _ q λ_ _ z=>by cases z)]; exact q) λc xs q=>by rw[zal (no c _ q λ_ _ z=>by cases z)]; exact q
  by_cases hb:b=p
  ·subst hb;rw[zak]at q; cases q;exact st _ _ (I.hok b _ e).2
  ·rw[zal hb]at q;exact st _ _ (I.hok b _ q)
noncomputable def Itd(p:Addr)(o:Obj)(vs:List V):It:=⟨λi H=>i < vs.length/\∃ u,H p=some (.frz o u),λi H x H'=>H'=H/\vs[i]?=some x,λi H=>vs.length<=i/\∃ u,H p=some (.frz o u)⟩
theorem zhS{P:Program}{w:World}{K:PySem.W.Frag}{tg:Expr}{es:Array DictEntry}{ep:Nat}{vs:List V}(p it:Addr)(o:Obj)(hx:o.ExactDict)(hd:o.data=.dict es ep)(rv:zaF vs (es.toList.map (·.key))) :
  Turn P w K tg (Itd p o vs) [it] it (λi h=>h.IsKeyIter it p i es.size ep):=by
 have hlen:vs.length=es.size:=by have:=rv.length; simpa using this
 refine⟨by simp,λi h st b hb=>?_,λi h h' st k=>st.at λo e=>k it (by simp) o e,?_,?_,λ_ _ _ _ _ st q=>wpAny_pyIter_keyiter st q⟩
 ·have e:b=it:=by simpa using hb
  subst e;obtain⟨o,e,c,d⟩:=st;exact⟨o,e,λv z=>by rw[d]at z; cases z⟩
 ·intro X hP hw hK hc i pins s σ H E I hf st hg;subst hP hw hK;obtain⟨f0,f1,f2,f3,f4,f5⟩:=hf it (by simp);obtain⟨lt,u,eH⟩:=hg;refine zfD st ⟨o,(I.hok p _ eH).1,hx,hd⟩ (λh' v ev st' sb=>?_) (λge=>absurd lt (by lia)) (I.ok.hd hc);have I1:Inv X pins σ H { s with heap:=h' }:=I.turned (t':=s.toks) (λb o hb e=>(sb.2 b hb).trans e) f0 f1 f3 f4 f5;obtain⟨oi,e,c,d⟩:=id st';obtain⟨x,hx1,hx2⟩:∃ x,vs[i]?=some x/\zaR x v:=by
   obtain⟨u',hu,ru⟩:=rv.get (x:=vs[i]) (i:=i) (by simp[lt]);refine⟨vs[i],by simp[lt],?_⟩;rw[List.getElem?_map,Array.getElem?_toList]at hu;rw[hu]at ev; cases ev; exact ru
  exact⟨v,rfl,zmq (s:={ s with heap:=h' }) e c d (by decide) ⟨x,H,I1,hx2,⟨rfl,hx1⟩,st',λb hb=>(hf b hb).1⟩⟩
 ·intro X hP hw hK hc i pins s σ H E I hf st hg;subst hP hw hK;obtain⟨f0,f1,f2,f3,f4,f5⟩:=hf it (by simp);obtain⟨ge,u,eH⟩:=hg;refine zfD st ⟨o,(I.hok p _ eH).1,hx,hd⟩ (λh' v ev st' sb=>?_) (λ_ h' eb=>⟨rfl,I.turned (t':=s.toks) (λb o hb e=>eb b o hb e) f0 f1 f3 f4 f5⟩) (I.ok.hd hc);rw[Array.getElem?_eq_none (by lia)]at ev; cases ev
end
end L2
namespace L3
open PySem PySem.Spec PyProof.Rows L2
section
variable {X:Cx}{e a b c o i l:Expr}{es:List Expr}{pos apos p p2:Pos}{ta tb tc tv to ti tl:TE3}{t:TA3}{k:Nat}{tg:Expr}{st:Stmt}
noncomputable def zsc(q:Addr)(kvs:List (Key×T))(D:Ends3):Ends3 :=
 ⟨λτ G=>∃ ob,G q=some (.dF ob kvs)/\D.nx τ (updG G q (.dK kvs)),λv G=>∃ ob,G q=some (.dF ob kvs)/\D.rt v (updG G q (.dK kvs)),λτ G=>∃ ob,G q=some (.dF ob kvs)/\D.bk τ (updG G q (.dK kvs)),λτ G=>∃ ob,G q=some (.dF ob kvs)/\D.ct τ (updG G q (.dK kvs))⟩
noncomputable def zsb(q:Addr)(kvs:List (LK×T))(D:Ends3):Ends3 :=
 ⟨λτ G=>∃ ob,G q=some (.dG ob kvs)/\D.nx τ (updG G q (.dT kvs)),λv G=>∃ ob,G q=some (.dG ob kvs)/\D.rt v (updG G q (.dT kvs)),λτ G=>∃ ob,G q=some (.dG ob kvs)/\D.bk τ (updG G q (.dT kvs)),λτ G=>∃ ob,G q=some (.dG ob kvs)/\D.ct τ (updG G q (.dT kvs))⟩
def zr6(t:TS3):TS3:=λD τ G=>(∃ q kvs,G q=some (.dK kvs)/\t (zsc q kvs D) τ G)∨∃ q kvs,G q=some (.dT kvs)/\t (zsb q kvs D) τ G
noncomputable def zoD(q:Addr)(D:Ends):Ends :=
 ⟨λσ H=>∃ ob u,H q=some (.frz ob u)/\D.nx σ (upd H q u),λv H=>∃ ob u,H q=some (.frz ob u)/\D.rt v (upd H q u),λσ H=>∃ ob u,H q=some (.frz ob u)/\D.bk σ (upd H q u),λσ H=>∃ ob u,H q=some (.frz ob u)/\D.ct σ (upd H q u)⟩
theorem zll{q:Addr}{D:Ends}{pins:List (Addr×Obj)}{f:Flow}{s':Shared}(nf:∀ ob w,X.H₀ q≠some (.frz ob w))(h:SP X pins (zoD q D) f s'):SP X pins D f s':=by
 cases f with
 | next=>obtain⟨σ',H',I,ob,u,e,d⟩:=h; exact⟨σ',_,I.thaw e nf,d⟩
 | brk=>obtain⟨σ',H',I,ob,u,e,d⟩:=h; exact⟨σ',_,I.thaw e nf,d⟩
 | cont=>obtain⟨σ',H',I,ob,u,e,d⟩:=h; exact⟨σ',_,I.thaw e nf,d⟩
 | ret v=>obtain⟨x,σ',H',I,r,ob,u,e,d⟩:=h; exact⟨x,σ',_,I.thaw e nf,r,d⟩
theorem HR.thaw{K:KW}{H:Hp}{G:Gp}(r:HR K H G){q:Addr}{ob:Obj}{u:HO}{g:GO}(e:H q=some (.frz ob u))(m:zpw u=false)(n:zep K (upd H q u) q g):HR K (upd H q u) (updG G q g):=λb p e'=>by
 by_cases z:b=q
 ·subst z; rw[zaa]at e'; cases e'; exact n
 ·rw[zab z]at e'
  exact(r b p e').at (Kp.thaw e m) (zal z)
theorem zfy{K:KW}{H H':Hp}{G':Gp}{q:Addr}{ob:Obj}{kvs:List (Key×T)}(k:Kp H H')(r:HR K H' G')(e:G' q=some (.dF ob kvs)):∃ ob ks,H' q=some (.frz ob (.dK ks))/\Kp H' (upd H' q (.dK ks))/\HR K (upd H' q (.dK ks)) (updG G' q (.dK kvs)):=by
 obtain⟨ks,e1,ds⟩:=r q _ e;have kt:Kp H' (upd H' q (.dK ks)):=Kp.thaw e1 rfl;exact⟨ob,ks,e1,kt,r.thaw e1 rfl ⟨ks,zak,zdz.mono kt ds⟩⟩
theorem zfx{K:KW}{H H':Hp}{G':Gp}{q:Addr}{ob:Obj}{kvs:List (LK×T)}(k:Kp H H')(r:HR K H' G')(e:G' q=some (.dG ob kvs)):∃ ob u,H' q=some (.frz ob u)/\Kp H' (upd H' q u)/\HR K (upd H' q u) (updG G' q (.dT kvs)):=by
 obtain⟨xs,e1,ds⟩:=r q _ e;have kt:Kp H' (upd H' q (.ext (zi4 K.P K.w q xs))):=Kp.thaw e1 rfl;exact⟨ob,_,e1,kt,r.thaw e1 rfl ⟨xs,zak,zcW.mono kt ds⟩⟩
theorem zqv{t:TS3}(h:QS X st t):QS X st (zr6 t):=by
 intro pins s σ H D I ⟨τ,G,D3,ss,r,h3,im⟩;rcases h3 with ⟨q,kvs,eg,h3⟩ | ⟨q,kvs,eg,h3⟩
 ·obtain⟨ks,e1,ds⟩:=r q _ eg;have nf:=I.nofrz e1 trivial;refine thn (h pins s σ H (zoD q D) I ⟨τ,G,_,ss,r,h3,⟨?_,?_,?_,?_⟩⟩) λf s' z=>zll nf z
  ·intro τ' G' σ' H' ⟨ob0,e,d⟩ k' s' r';obtain⟨ob,ks',e2,kt,rt⟩:=zfy k' r' e;exact⟨ob,_,e2,im.nx τ' _ σ' _ d (k'.trans kt) (s'.mono kt) rt⟩
  ·intro t' G' v H' ⟨ob0,e,d⟩ k' s' r';obtain⟨ob,ks',e2,kt,rt⟩:=zfy k' r' e;exact⟨ob,_,e2,im.rt t' _ v _ d (k'.trans kt) (s'.mono kt) rt⟩
  ·intro τ' G' σ' H' ⟨ob0,e,d⟩ k' s' r';obtain⟨ob,ks',e2,kt,rt⟩:=zfy k' r' e;exact⟨ob,_,e2,im.bk τ' _ σ' _ d (k'.trans kt) (s'.mono kt) rt⟩
  ·intro τ' G' σ' H' ⟨ob0,e,d⟩ k' s' r';obtain⟨ob,ks',e2,kt,rt⟩:=zfy k' r' e;exact⟨ob,_,e2,im.ct τ' _ σ' _ d (k'.trans kt) (s'.mono kt) rt⟩
 ·obtain⟨ks,e1,ds⟩:=r q _ eg;have nf:=I.nofrz e1 trivial;refine thn (h pins s σ H (zoD q D) I ⟨τ,G,_,ss,r,h3,⟨?_,?_,?_,?_⟩⟩) λf s' z=>zll nf z
  ·intro τ' G' σ' H' ⟨ob0,e,d⟩ k' s' r';obtain⟨ob,ks',e2,kt,rt⟩:=zfx k' r' e;exact⟨ob,_,e2,im.nx τ' _ σ' _ d (k'.trans kt) (s'.mono kt) rt⟩
  ·intro t' G' v H' ⟨ob0,e,d⟩ k' s' r';obtain⟨ob,ks',e2,kt,rt⟩:=zfx k' r' e;exact⟨ob,_,e2,im.rt t' _ v _ d (k'.trans kt) (s'.mono kt) rt⟩
  ·intro τ' G' σ' H' ⟨ob0,e,d⟩ k' s' r';obtain⟨ob,ks',e2,kt,rt⟩:=zfx k' r' e;exact⟨ob,_,e2,im.bk τ' _ σ' _ d (k'.trans kt) (s'.mono kt) rt⟩
  ·intro τ' G' σ' H' ⟨ob0,e,d⟩ k' s' r';obtain⟨ob,ks',e2,kt,rt⟩:=zfx k' r' e;exact⟨ob,_,e2,im.ct τ' _ σ' _ d (k'.trans kt) (s'.mono kt) rt⟩
theorem zml{K:KW}{H1:Hp}{q:Addr}{ob:Obj}{vs:List V}{ts:List T}{S:Gp->Prop}(ds:Dens K H1 vs ts)(hS:∀ H' G',HR K H' G'->S G'->∃ u,H' q=some (.frz ob u)):ItOk K H1 (Itd q ob vs) ts S where
 go:=λj H' G' kk r hs hj=>⟨by rw[ds.length]; exact hj,hS H' G' r hs⟩
 yld:=λj H' G' y H2 kk r hs hj hy=>by
  obtain⟨e,hy⟩:=hy
  subst e
  obtain⟨t,et,dt⟩:=(ds.mono kk).getV hy
  exact⟨Kp.refl _,r,t,et,dt⟩
 stop:=λj H' G' kk r hs hj=>⟨by rw[ds.length]; exact hj,hS H' G' r hs⟩
def zru(tl:TE3):TI3:=λτ G R=>tl τ G λx G1=>match x with
 | .ref q=>(match G1 q with
  | some (.dK kvs)=>∀ ob,R (kvs.map λkv=>kT kv.1) (λG=>G q=some (.dF ob kvs)) (updG G1 q (.dF ob kvs))
  | some (.dT kvs)=>∀ ob,R (kvs.map λkv=>lkT kv.1) (λG=>G q=some (.dG ob kvs)) (updG G1 q (.dG ob kvs))
  | _=>False)
 | _=>False
theorem zqC(hl:QE X l tl):QI X tg l (zru tl):=by
 intro pins s σ H R I ⟨τ,G,Q3,st,r,h,im⟩;refine thn (hl pins s σ H (λv H1=>∃ x G1,zru (λ_ _ Q=>Q x G1) τ G1 Q3/\Kp H H1/\Den X.kw H1 v x/\HR X.kw H1 G1) I ⟨τ,G,_,st,r,h,λx G1 v H1 h1 k1 d1 r1=>⟨x,G1,h1,k1,d1,r1⟩⟩) λv s1 ⟨vv,H1,I1,rv,x,G1,h1,k1,d1,r1⟩=>?_;unfold zru at h1;cases d1 with
 | ref q =>
  cases rv
  simp only at h1;split at h1
  ·rename_i kvs eg;obtain⟨ks,e1,ds⟩:=r1 q _ eg;obtain⟨z,nd,vs,rel,o,es,ep,g1,g2,g3,g4,g5,g6⟩:=zkS I1.hok e1;have I2:Inv X pins σ (upd H1 q (.frz o (.dK ks))) s1:=I1.freeze e1 trivial g1;have kf:Kp H1 (upd H1 q (.frz o (.dK ks))):=Kp.mut (by rw[e1]; trivial);have r2:HR X.kw (upd H1 q (.frz o (.dK ks))) (updG G1 q (.dF o kvs)):=r1.put eg ⟨ks,zak,zdz.mono kf ds⟩;refine zhk nd ⟨o,g1,g2,g3⟩ ⟨_,[_],_,Itd q o (ks.map λx=>kV x.1),_,rfl,I2.kept (t':=s1.toks) λb o e=>hPs _ e,zhS q _ o g2 g3 (zdX g5 rel),⟨_,hPz _ rfl,rfl,rfl⟩,λb hb=>?_,im _ _ _ _ _ (h1 o) (k1.trans kf) r2 (zml ((zek ds).mono kf) λH' G' r' hs=>?_)⟩
   ·obtain rfl:=List.mem_singleton.mp hb;exact I2.fpOk (nLr _) (I2.hok.fresh (nLr _))
   ·obtain⟨ks',e',_⟩:=r' q _ hs;exact⟨_,e'⟩
  ·rename_i kvs eg;obtain⟨xs,e1,ds⟩:=r1 q _ eg;obtain⟨⟨nd,sz,oks,nod,o,es,ep,g1,g2,g3,g4⟩,_,_⟩:=I1.hok q _ e1;have I2:Inv X pins σ (upd H1 q (.frz o (.ext (zi4 X.prog X.w q xs)))) s1:=I1.freeze e1 trivial g1;have kf:Kp H1 (upd H1 q (.frz o (.ext (zi4 X.prog X.w q xs)))):=Kp.mut (by rw[e1]; trivial);have r2:HR X.kw (upd H1 q (.frz o (.ext (zi4 X.prog X.w q xs)))) (updG G1 q (.dG o kvs)):=r1.put eg ⟨xs,zak,zcW.mono kf ds⟩;refine zhk nd ⟨o,g1,g2,g3⟩ ⟨_,[_],_,Itd q o (xs.map λx=>V.ref x.2.1),_,rfl,I2.kept (t':=s1.toks) λb o e=>hPs _ e,zhS q _ o g2 g3 (by rw[g4]; exact zgJ xs),⟨_,hPz _ rfl,rfl,rfl⟩,λb hb=>?_,im _ _ _ _ _ (h1 o) (k1.trans kf) r2 (zml ((zeW ds).mono kf) λH' G' r' hs=>?_)⟩
   ·obtain rfl:=List.mem_singleton.mp hb;exact I2.fpOk (nLr _) (I2.hok.fresh (nLr _))
   ·obtain⟨ks',e',_⟩:=r' q _ hs;exact⟨_,e'⟩
  ·exact h1.elim
 | _=>exact False.elim h1
end
end L3
namespace L2
open PySem PySem.Spec PyProof.Rows
open AutoSeq1 (wpAny_loadPart')
section
variable {prog:Program}{w:World}{A:Around}{E:Value->Shared->Prop}{s:Shared}
theorem zrc{ti tp:Addr}{j:Nat}{vs:Array Value}{v:Value}{Q:Value->Shared->Prop}(a:s.heap.IsTupleIter ti tp j)(b:s.heap.IsTuple tp vs)(c:vs[j]?=some v)
  (q:∀ g,g.IsTupleIter ti tp (j+1)->Heap.SameBut ti s.heap g->Q v { s with heap:=g }):wpAny (model prog w) A (Builtin.SmallTypes.nextOf (.ref ti)) Q E s:=by
 obtain⟨oi,a1,a2,a3⟩:=id a;obtain⟨ot,b1,_,nt,b3⟩:=b;unfold Builtin.SmallTypes.nextOf;refine wpAny_bind (wpAny_callSpecial?_slot (name:=Str.ofString "__next__") a.typeIs F.slot_tuple_iterator_next (wpAny_call_entry F.slot_tuple_iterator_next a.typeIs F.entry_tuple_iterator_next ?go (F.args_tuple_iterator_next_1 _)))
 change wpAny _ _ (field (.ref ti) 0 >>= λ_=>_) _ _ s
 refine wB (wpAny_field a1 a3 (x:=.ref tp) rfl ?_)
 change wpAny _ _ (if (Value.ref tp==Value.none)=true then _ else _) _ _ s
 rw[if_neg (show ¬ ((Value.ref tp==Value.none)=true)from Bool.false_ne_true)]
 change wpAny _ _ (field (.ref ti) 1 >>= λ_=>_) _ _ s
 refine wB (wpAny_field a1 a3 (x:=.int j 0) rfl ?_)
 change wpAny _ _ (seqItems? (.ref tp) >>= λ_=>_) _ _ s
 refine wB (wpAny_seqItems b1 b3 ?_);simp only[Int.toNat_natCast,c];refine wpAny_bind (wpAny_setField a1 a3 (by simp) (wpAny_pure ⟨v,rfl,wpAny_pure (q _ ?here (Heap.SameBut.update ..))⟩));refine⟨_,Heap.get?_update_self _ a1 (Obj.isFreed_of_fields (Obj.data_mapFields a3 _)),(Obj.cls_mapFields ..).trans a2,?_⟩;rw[Obj.data_mapFields a3]; simp[rawInt]
theorem zlU{ti tp:Addr}{j:Nat}{vs:Array Value}{Q:Value->Shared->Prop}(hh:A.handled=none)(a:s.heap.IsTupleIter ti tp j)(b:s.heap.IsTuple tp vs)(c:vs[j]?=none)
  (q:∀ g x,Heap.ExtBut ti s.heap g->(∃ ob,g.get? x=some ob/\ob.cls=.type "StopIteration")->E (.ref x) { s with heap:=g }):wpAny (model prog w) A (Builtin.SmallTypes.nextOf (.ref ti)) Q E s:=by
 obtain⟨oi,a1,a2,a3⟩:=id a;obtain⟨ot,b1,_,nt,b3⟩:=b;unfold Builtin.SmallTypes.nextOf;refine wpAny_bind (wpAny_callSpecial?_slot (name:=Str.ofString "__next__") a.typeIs F.slot_tuple_iterator_next (wpAny_call_entry F.slot_tuple_iterator_next a.typeIs F.entry_tuple_iterator_next ?go (F.args_tuple_iterator_next_1 _)))
 change wpAny _ _ (field (.ref ti) 0 >>= λ_=>_) _ _ s
 refine wB (wpAny_field a1 a3 (x:=.ref tp) rfl ?_)
 change wpAny _ _ (if (Value.ref tp==Value.none)=true then _ else _) _ _ s
 rw[if_neg (show ¬ ((Value.ref tp==Value.none)=true)from Bool.false_ne_true)]
 change wpAny _ _ (field (.ref ti) 1 >>= λ_=>_) _ _ s
 refine wB (wpAny_field a1 a3 (x:=.int j 0) rfl ?_)
 change wpAny _ _ (seqItems? (.ref tp) >>= λ_=>_) _ _ s
 refine wB (wpAny_seqItems b1 b3 ?_);simp only[Int.toNat_natCast,c];refine wpAny_bind (wpAny_rule (wpAny_bind (wpAny_setField a1 a3 (by simp) ?nx)))
 change wpAny _ _ (newExc (.type "StopIteration") [] >>= λ_=>_) _ _ _
 simp only[newExc,newTuple,raiseNew];refine wpAny_bind (wpAny_bind (wpAny_newObj_type (wpAny_bind (m:=firstArgMember _ _) (wpAny_of_eq (a:=Value.none) (by first | rfl | (simp only[firstArgMember]; rfl)) (wpAny_newObj_type ?raise (by size_fits)))) (by size_fits)));refine wB (wpAny_handled ?hd);rw[show A.in1.handled=none from hh];exact wB (wQ (wpAny_throw (q _ _ (((Heap.SameBut.update ..).extBut.push _).push _) ⟨_,hPz _ rfl,rfl⟩)))
theorem zrE(hh:A.handled=none)(ti tp:Addr)(ne:tp≠ti)(vs:Array Value):Draws prog w A ti [ti,tp] vs.size (λj v=>vs[j]?=some v) (λj g=>g.IsTupleIter ti tp j/\g.IsTuple tp vs) :=
 ⟨λ_ _ st=>let ⟨o,e,_⟩:=st.1; ⟨o,e⟩,
  λ_ _ _ st k=>⟨st.1.at λo e=>k ti (by simp) o e,let ⟨o,e,r⟩:=st.2; ⟨o,k tp (by simp) o e,r⟩⟩,
  λj s Q E lt st q=>zrc st.1 st.2 (v:=vs[j]) (by simp[lt]) λg st' sb=>q _ g s.toks (by simp[lt]) ⟨st',st.2.extBut sb.extBut ne⟩ sb,
  λs Q E st q=>zlU hh st.1 st.2 (by simp) q⟩
theorem znE(tp:Addr)(vs:Array Value)(n:Nat)(dct:Option Addr)(sl:Array (Option Value)) :
  Meets (Builtin.«enumerate.__new__» ⟨[.type "enumerate",.ref tp],[]⟩) (λ_ R s=>s.heap.get? tp=some { cls:=.type "tuple",dict:=dct,data:=.seq vs n,slots:=sl } /\
   R (.ok (.ret (.ref (s.heap.push { cls:=.type "tuple_iterator",data:=.fields #[.ref tp,.int 0 0] }).objs.size)))
    { s with heap:=(s.heap.push { cls:=.type "tuple_iterator",data:=.fields #[.ref tp,.int 0 0] }).push { cls:=.type "enumerate",data:=.fields #[.none,.bool false,.ref s.heap.objs.size,rawInt 0,.none,.none] } }) :=
 .of_wp λprog w A R s q=>by
  obtain⟨hp,g,d,tk,os⟩:=s; obtain⟨e,q⟩:=q
  have hsub:=sub_enumerate
  have isT:Heap.IsTuple (Shared.heap ⟨hp,g,d,tk,os⟩) tp vs:=⟨_,e,rfl,n,rfl⟩
  wp_walk using wpAny_loadPart' e
  refine wpAny_stack_any λst=>wQ ?fr
  split
  ·rename_i cc _ _ _ _ _
   cases (cc==Value.type "enumerate")<;>(wp_walk using wpAny_loadPart' e,wpAny_pyIter_tuple isT; exact⟨_,rfl,q⟩)
  ·wp_walk using wpAny_loadPart' e,wpAny_pyIter_tuple isT
   exact⟨_,rfl,q⟩
theorem zkY{tp:Addr}{vs:Array Value}{Q:Value->Shared->Prop}(isT:s.heap.IsTuple tp vs)
  (q:∀ g,IsEnum g (s.heap.objs.size+1) s.heap.objs.size 0 .none->g.IsTupleIter s.heap.objs.size tp 0->(∀ b o,s.heap.get? b=some o->g.get? b=some o)->Q (.ref (s.heap.objs.size+1)) { s with heap:=g }) :
  wpAny (model prog w) A (call (.type "enumerate") [.ref tp]) Q E s:=by
 obtain⟨⟨c,dct,dt,sl⟩,e1,e2,n,e3⟩:=isT;cases (show c=.type "tuple" from e2)
 cases (show dt=.seq vs n from e3)
 refine callType_new F.called_enumerate (by decide) (F.typeCall_enumerate_1 _) (F.newCall_enumerate_1 _) (λobj=>F.args_object_init_2 obj _) F.entry_enumerate_new (znE tp vs n dct sl) ⟨e1,?_⟩;have z:(s.heap.push { cls:=.type "tuple_iterator",data:=.fields #[.ref tp,.int 0 0] }).objs.size=s.heap.objs.size+1:=Heap.size_push ..
 change _/\_
 rw[z];have at1:IsEnum ((s.heap.push { cls:=.type "tuple_iterator",data:=.fields #[.ref tp,.int 0 0] }).push { cls:=.type "enumerate",data:=.fields #[.none,.bool false,.ref s.heap.objs.size,rawInt 0,.none,.none] })
   (s.heap.objs.size+1) s.heap.objs.size 0 .none:=by
  have:=Heap.get?_push_size (s.heap.push { cls:=.type "tuple_iterator",data:=.fields #[.ref tp,.int 0 0] }) (o:={ cls:=.type "enumerate",data:=.fields #[.none,.bool false,.ref s.heap.objs.size,rawInt 0,.none,.none] }) rfl
  rwa [z]at this
 exact⟨⟨_,at1,rfl⟩,q _ at1 ⟨_,hPs _ (hPz _ rfl),rfl,rfl⟩ λb o x=>hPs _ (hPs _ x)⟩
end
section
variable {X:Cx}{pins:List (Addr×Obj)}{σ:St}{H:Hp}{s:Shared}{h':Heap}{ch:List Addr}{t':Nat}
theorem Inv.turns(I:Inv X pins σ H s)(k:∀ b o,b∉ch->s.heap.get? b=some o->h'.get? b=some o)(hf:∀ b∈ch,zk6 X pins H b):Inv X pins σ H { s with heap:=h',toks:=t' }:=by
 refine I.step (g':=s.gens) (d':=s.drawn) (ch:=ch) (λb hb=>?_) (λb o _ _ hc e _=>k b o hc e) (λb o _ _ hc e _=>⟨o.slots,k b o hc e⟩) (λ_ _ _ _ n=>n)
  (λb o hc e=>⟨o,k b o hc e⟩) (λ_ _ e=>e) (λ_ _ _ e=>e) (λb ps e=>⟨#[],by rw[e]; simp⟩) (λm hm=>?_) (λb u e=>?_) I.bare
 ·obtain⟨f0,f1,f2,f3,f4,f5⟩:=hf b hb;exact⟨f3,f1,f4,f5⟩
 ·obtain⟨o,es,ep,ho,r⟩:=hm;exact⟨o,es,ep,k _ o (λz=>(hf _ z).2.1 rfl) ho,r⟩
 ·have nc:∀ c u,H c=some u->c∉ch:=λc u q z=>by rw[(hf c z).1]at q; cases q
  refine (I.hok b u e).stay (λc v hc q=>k c v ?_ q) (λ_ q=>q) λ_ _ q=>q;rcases hc with z | z
  ·rw[z]; exact nc b u e
  ·exact nc c _ z
theorem Inv.turnsNew{T:Addr}{o:HO}(I:Inv X pins σ H s)(k:∀ b o,b∉ch->s.heap.get? b=some o->h'.get? b=some o)(hf:∀ b∈ch,zk6 X pins H b)(hT:s.heap.objs.size<=T)(new:zbg X.prog X.w (upd H T o) h' T o) :
  Inv X pins σ (upd H T o) { s with heap:=h',toks:=t' }:=by
 have hn:=I.hok.fresh hT;have lt:∀ b ob,s.heap.get? b=some ob->b≠T:=λb ob q=>nNl (nLl (hLz q) hT);refine I.step (g':=s.gens) (d':=s.drawn) (ch:=ch) (λb hb=>?_) (λb o _ _ hc e _=>k b o hc e) (λb o _ _ hc e _=>⟨o.slots,k b o hc e⟩) (λb ob _ q n=>by rw[zal (lt b ob q)]; exact n)
  (λb o hc e=>⟨o,k b o hc e⟩) (λb xs q=>by rw[zal (zao q hn)]; exact q) (λb ob xs q=>by rw[zal (zao q hn)]; exact q) (λb ps q=>⟨#[],by rw[zal (zao q hn),q]; simp⟩) (λm hm=>?_) (λb u e=>?_) I.bare
 ·obtain⟨f0,f1,f2,f3,f4,f5⟩:=hf b hb;exact⟨f3,f1,f4,f5⟩
 ·obtain⟨o,es,ep,ho,r⟩:=hm;exact⟨o,es,ep,k _ o (λz=>(hf _ z).2.1 rfl) ho,r⟩
 ·have nc:∀ c u,H c=some u->c∉ch:=λc u q z=>by rw[(hf c z).1]at q; cases q
  by_cases hb:b=T
  ·subst hb; rw[zak]at e; cases e; exact new
  ·rw[zal hb]at e;refine (I.hok b u e).stay (λc v hc q=>k c v ?_ q) (λc q=>by rw[zal (zao q hn)]; exact q) λc xs q=>by rw[zal (zao q hn)]; exact q
   rcases hc with z | z
   ·rw[z]; exact nc b u e
   ·exact nc c _ z
end
noncomputable def Ite(K:W.Frag)(a:Addr):It :=
 ⟨λi H=>∃ xs x,SqT K H a xs/\xs[i]?=some x,λi H x H'=>∃ y t,(∀ xs,SqT K H a xs->xs[i]?=some y)/\H t=none/\x=.ref t/\H'=upd H t (.tup [.int i,y]),λi H=>∃ xs,SqT K H a xs/\xs.length<=i⟩
theorem zkv{P:Program}{w:World}{K:PySem.W.Frag}{els:List Expr}{kk:Nat}{pos:Pos}(a e ti:Addr)(ne:e≠ti):Turn P w K (.Tuple els kk pos) (Ite K a) [e,ti] e (λi h=>(∃ old,IsEnum h e ti i old)/\h.IsTupleIter ti a i):=by
 refine⟨by simp,λi h st b hb=>?_,λi h h' st k=>?_,?_,?_,λA i s Q E st q=>?_⟩
 ·obtain⟨⟨old,st1⟩,o,e2,c,d⟩:=st;rcases List.mem_cons.mp hb with z | z
  ·subst z; exact⟨_,st1,λv z=>by have z':Data.fields _=Data.cell v:=z; cases z'⟩
  ·obtain rfl:=List.mem_singleton.mp z;exact⟨o,e2,λv z=>by rw[d]at z; cases z⟩
 ·obtain⟨⟨old,st1⟩,st2⟩:=st;exact⟨⟨old,k e (by simp) _ st1⟩,st2.at λo q=>k ti (by simp) o q⟩
 ·intro X hP hw hK hc i pins s σ H E I hf st hg;subst hP hw hK;obtain⟨⟨old,st1⟩,st2⟩:=st;obtain⟨xs,x,hq,hx⟩:=hg;obtain⟨its,rv,pt,hz⟩:=I.tuple hq;obtain⟨u,hu,ru⟩:=rv.get hx;have hlt:i < its.toArray.size:=by
   obtain⟨h1,_⟩:=List.getElem?_eq_some_iff.mp hu;simpa using h1
  have nea:a≠ti:=by
   rintro rfl;obtain⟨o,e1,e2,_⟩:=id st2;obtain⟨o',e1',e2',_⟩:=id pt;rw[e1]at e1'; cases e1'; rw[e2]at e2'; exact absurd e2' (by decide)
  have neb:a≠e:=by
   rintro rfl;obtain⟨o',e1',e2',_⟩:=id pt;have st1':s.heap.get? a=some _:=st1;rw[st1']at e1'; cases e1'; exact absurd (show Value.type "enumerate"=Value.type "tuple" from e2') (by decide)
  have D:=zrE (prog:=X.prog) (w:=X.w) (A:=X.A.in1) (show X.A.in1.handled=none from I.ok.hd hc) ti a nea its.toArray;refine wpAny_pyNext_enum_itemD D st1 ⟨st2,pt⟩ hlt ne (by simp[ne,Ne.symm neb]) λv h' tk hv eo st' et hs hk=>⟨_,rfl,?_⟩;have hvu:v=u:=by
   have hv':its.toArray[i]?=some v:=hv;rw[List.getElem?_toArray,hu]at hv';exact(Option.some.inj hv').symm
  subst hvu;obtain⟨f0,f1,f2,f3,f4,f5⟩:=hf e (by simp);obtain⟨g0,g1,g2,g3,g4,g5⟩:=hf ti (by simp);refine wpAny_letOwnedTupleGo_enum eo λh2 e2 sb=>?_;have hTe:s.heap.objs.size≠e:=Nat.ne_of_gt (hLz st1);have hTi:s.heap.objs.size≠ti:=by obtain⟨o,q,_⟩:=id st2; exact Nat.ne_of_gt (hLz q)
  have kk2:∀ b o,b≠e->b≠ti->s.heap.get? b=some o->h2.get? b=some o:=λb o n1 n2 q=>(sb.2 b n1).trans (hk b o n1 n2 q);have et2:h2.get? s.heap.objs.size=some { cls:=.type "tuple",data:=.seq #[.int i tk,v] }:=(sb.2 _ hTe).trans et;have hn:=I.hok.fresh (nLr _);have new:zbg X.prog X.w (upd H s.heap.objs.size (.tup [.int i,x])) h2 s.heap.objs.size (.tup [.int i,x]) :=
   ⟨by show 2<=sizeLine; rw[sizeLine_eq]; decide,[.int i tk,v],.cons ⟨tk,rfl⟩ (.cons ru .nil),⟨_,et2,rfl,⟨_,rfl⟩,rfl⟩⟩
  have I2:=I.turnsNew (t':=tk+1) (ch:=[e,ti]) (h':=h2) (λb o nb q=>kk2 b o (λz=>nb (by simp[z])) (λz=>nb (by simp[z])) q) hf (Nat.le_refl _) new;refine⟨.ref s.heap.objs.size,_,I2,rfl,⟨x,_,λys hy=>by rw[I.tuple_inj hy hq]; exact hx,hn,rfl,rfl⟩,⟨⟨_,by simpa using e2⟩,?_⟩,λb hb=>?_⟩
  ·obtain⟨o,q,r⟩:=st'.1;exact⟨o,(sb.2 ti (Ne.symm ne)).trans q,r⟩
  ·rcases List.mem_cons.mp hb with z | z
   ·subst z; rw[zal (Ne.symm hTe)]; exact f0
   ·obtain rfl:=List.mem_singleton.mp z;rw[zal (Ne.symm hTi)]; exact g0
 ·intro X hP hw hK hc i pins s σ H E I hf st hg;subst hP hw hK;obtain⟨⟨old,st1⟩,st2⟩:=st;obtain⟨xs,hq,hx⟩:=hg;obtain⟨its,rv,pt,hz⟩:=I.tuple hq;have hl:=rv.length;have nea:a≠ti:=by
   rintro rfl;obtain⟨o,e1,e2,_⟩:=id st2;obtain⟨o',e1',e2',_⟩:=id pt;rw[e1]at e1'; cases e1'; rw[e2]at e2'; exact absurd e2' (by decide)
  have D:Draws X.prog X.w X.A.in1 ti [ti,a] i (λ_ _=>False) (λj g=>j=i/\g.IsTupleIter ti a i/\g.IsTuple a its.toArray) :=
   ⟨λ_ _ st=>let ⟨o,e,_⟩:=st.2.1; ⟨o,e⟩,
     λ_ _ _ st k=>⟨st.1,st.2.1.at λo e=>k ti (by simp) o e,let ⟨o,e,r⟩:=st.2.2; ⟨o,k a (by simp) o e,r⟩⟩,
     λj s Q E lt st q=>absurd st.1 (nNl lt),
     λs Q E st q=>zlU (I.ok.hd hc) st.2.1 st.2.2 (by simp; lia) q⟩
  exact wpAny_pyNext_enum_endD D st1 ⟨rfl,st2,pt⟩ λh' eb=>⟨rfl,I.turns (t':=s.toks) (ch:=[e,ti]) (λb o nb q=>eb b o (λz=>nb (by simp[z])) q) hf⟩
 ·obtain⟨⟨old,st1⟩,_⟩:=st;exact wpAny_pyIter_enum st1 q
end L2
namespace L3
open PySem PySem.Spec PyProof.Rows L2
section
variable {X:Cx}{a:Expr}{pos p tpos:Pos}{t:TA3}{els:List Expr}{kk:Nat}
noncomputable def zbZ(ts:List T):List T:=(List.range ts.length).map λ(i:Nat)=>T.tup [.int i,ts.getD i .non]
theorem zmA{ts:List T}{i:Nat}{t:T}(h:ts[i]?=some t):(zbZ ts)[i]?=some (.tup [.int i,t]):=by
 obtain⟨h1,h2⟩:=List.getElem?_eq_some_iff.mp h;unfold zbZ;rw[List.getElem?_map,List.getElem?_range h1];simp[h]
def zpD(t:TA3):TI3:=λτ G R=>t τ G λts G1=>match ts with
 | [.tup us]=>R (zbZ us) (λ_=>True) G1
 | _=>False
theorem zlF(hm:X.mg "enumerate"=none) (ha:QA X [a] t) (hg:Gl X "enumerate":=by rfl) (hs:starEach [a] X.env=[(false,eval a X.env)]:=by rfl):QI X (.Tuple els kk tpos) (.Call (.Name "enumerate" p) [a] [] pos) (zpD t):=by
 intro pins s σ H R I ⟨τ,G,Q3,st,r,h,im⟩;refine Call_ (ze8 I hg hm boot_enumerate (PyProof.Rows.callWith_type1 (thn (ha pos pins s σ H (λvs H1=>∃ ts G1,(match ts with
  | [.tup us]=>Q3 (zbZ us) (λ_=>True) G1
  | _=>False)/\Kp H H1/\Dens X.kw H1 vs ts/\HR X.kw H1 G1) I ⟨τ,G,_,st,r,h,λts G1 vs H1 h1 k1 d1 r1=>⟨ts,G1,h1,k1,d1,r1⟩⟩) λus s1 ⟨vs,H1,I1,rv,ts,G1,h1,k1,d1,r1⟩=>?_) hs rfl))
 split at h1
 ·rename_i us';cases d1 with
  | cons d d2 =>
   cases d2
   cases d with
   | tup q ds =>
    rename_i a' xs;cases rv with
    | cons rv0 rv1 =>
     cases rv1
     cases rv0
     obtain⟨its,rr,pt,hz⟩:=I1.tuple q;refine zkY (show s1.heap.IsTuple a' its.toArray from pt) λg e1 e2 kp=>?_;have I2:Inv X pins σ H1 { s1 with heap:=g }:=I1.kept (t':=s1.toks) kp;refine wpAny_pyIter_enum (s:={ s1 with heap:=g }) e1 ⟨_,[s1.heap.objs.size+1,s1.heap.objs.size],_,Ite X.K a',H1,rfl,I2,zkv a' _ _ (Nat.succ_ne_self _),⟨⟨_,e1⟩,e2⟩,λb hb=>?_,im _ _ G1 _ H1 h1 k1 r1 ⟨λj H2 G2 kk _ _ hj=>?_,λj H2 G2 y H3 kk r2 _ hj hy=>?_,λj H2 G2 kk _ _ hj=>?_⟩⟩
     ·have fr:H1 b=none:=by
       rcases List.mem_cons.mp hb with z | z
       ·subst z; exact I1.hok.fresh (Nat.le_succ _)
       ·obtain rfl:=List.mem_singleton.mp z;exact I1.hok.fresh (nLr _)
      rcases List.mem_cons.mp hb with z | z
      ·subst z; exact I1.fpOk (Nat.le_succ _) fr
      ·obtain rfl:=List.mem_singleton.mp z;exact I1.fpOk (nLr _) fr
     ·have hj':j < xs.length:=by rw[ds.length]; simpa [zbZ] using hj
      exact⟨xs,xs[j],kk.sqT q,by simp[hj']⟩
     ·obtain⟨y',t',hy1,hn,e,e'⟩:=hy;subst e; subst e';obtain⟨tt,et,dt⟩:=(ds.mono kk).getV (hy1 xs (kk.sqT q));exact⟨Kp.new hn,r2.lay hn,_,zmA et,.tup (SqT.of zak) (.cons (.int _) (.cons (dt.mono (Kp.new hn)) .nil))⟩
     ·exact⟨xs,kk.sqT q,by rw[ds.length]; simpa [zbZ] using hj⟩
 ·exact h1.elim
end
end L3
namespace L2
open PySem PySem.Spec PyProof.Rows
section
variable {prog:Program}{w:World}{A:Around}{E:Value->Shared->Prop}{s:Shared}
theorem zhW{a:Value}{vs:List Value}{ns:List Int}{Q:Value->Shared->Prop}(hI:IntsAre vs ns)(h64:vs.length < 64)
  (hc:∀ (A':Around) (E':Value->Shared->Prop) (Q':List Value->Shared->Prop),A'.handled=A.handled->(∀ h' tk,(∀ b o,s.heap.get? b=some o->h'.get? b=some o)->Q' vs { s with heap:=h',toks:=tk })->wpAny (model prog w) A' (collect a) Q' E' s)
  (h:∀ (h1 h':Heap) (tk:Nat) (p:Addr) (e:Nat) (out:List Value) (ns':List Int),(∀ b o,s.heap.get? b=some o->h1.get? b=some o)->(∀ b o,h1.get? b=some o->h'.get? b=some o)->h1.objs.size<=p->h'.get? p=some (seqObj "list" out.toArray e)->IntsAre out ns'->ns'.Perm ns->ns'.Pairwise (·<=·)->Q (.ref p) { s with heap:=h',toks:=tk }) :
  wpAny (model prog w) A (call (.builtin "sorted") [a]) Q E s:=by
 refine Calls.call_function_entry kind_sorted plain_sorted entry_sorted (args_sorted1 _) ?_;unfold Builtin.«sorted»;refine wpAny_bind (m:=checkCount "sorted" 1 1 _) (wpAny_pure ?_);refine wB (hc _ _ _ rfl λh1 tk k1=>?_);refine wpAny_bind (wpAny_newList ?_ (by rw[sizeLine_eq]; lia));have hoL:(h1.push (seqObj "list" vs.toArray 0)).get? h1.objs.size=some (seqObj "list" vs.toArray 0):=Heap.get?_push_size _ rfl;refine wpAny_bind (wpAny_holding (wpAny_call_entry (s:={ s with heap:=h1.push (seqObj "list" vs.toArray 0),toks:=tk }) slot_list_sort ⟨_,hoL,rfl⟩ entry_list_sort (list_sort_tree hoL hI h64 λout ns' a1 a2 a3=>⟨_,rfl,?_⟩) (args_list_sort _)));refine wQ ⟨_,rfl,?_⟩;obtain⟨e,he⟩:=sortedHeap_at (out:=out) hoL;refine h h1 _ tk _ e out.toList ns' k1 (λb o q1=>?_) (Nat.le_refl _) (by simpa using he) a1 a2 a3;have lt:=hLz q1;rw[sortedHeap_old (Nat.ne_of_lt lt) (by rw[Heap.size_push]; exact Nat.lt_succ_of_lt lt)];exact hPs _ q1
end
end L2
namespace L3
open PySem PySem.Spec PyProof.Rows L2
section
variable {X:Cx}{e a b c o i l:Expr}{es:List Expr}{pos apos p p2:Pos}{ta tb tc tv to ti tl:TE3}{t:TA3}{k:Nat}{tg:Expr}{st:Stmt}
theorem qgt(ha:QE X a ta)(hb:QE X b tb):QE X (.Compare a [.Gt] [b] pos) (wOp (iI0 λi j=>.bl (decide (j < i))) ta tb):=zs7 zq3 (lI0 λ_ _ _=>.bl _) ha hb
def ziX(ta:TE3):TE3:=λτ G Q=>ta τ G λx G1=>match zcV x G1 with
 | some b=>Q (.bl (!b)) G1
 | none=>False
def za6:List T->Gp->VK3->Prop:=λts G Q=>match ts with
 | [.tup us]=>Q (.int us.length) G
 | [.fro us]=>Q (.int us.length) G
 | [.ref q]=>(match G q with
  | some (.lst us)=>Q (.int us.length) G
  | some (.dK kvs)=>Q (.int kvs.length) G
  | _=>False)
 | _=>False
theorem zdA(hm:X.mg "len"=none) (ha:QA X (e::es) t) (hg:Gl X "len":=by rfl) (he:starEach (e::es) X.env=(false,eval e X.env)::starEach es X.env:=by rfl) (hpl:(backTo pos (starEach es X.env)).any (·.1)=false:=by rfl) :
  QE X (.Call (.Name "len" p) (e::es) [] pos) (wCB za6 t):=zgP (zci.or ziH zmR) (λH G xs ts Q Q3 d r h im=>by
 unfold za6 at h
 split at h
 ·cases d with
  | cons d1 d2 =>
   cases d2
   cases d1 with
   | tup q ds=>exact .inl ⟨_,_,rfl,.inr q,im _ G _ H (by rw[ds.length]; exact h) (Kp.refl _) (.int _) r⟩
 ·cases d with
  | cons d1 d2 =>
   cases d2
   cases d1 with
   | fro q ds=>exact .inl ⟨_,_,rfl,.inl q.sq,im _ G _ H (by rw[ds.length]; exact h) (Kp.refl _) (.int _) r⟩
 ·cases d with
  | cons d1 d2 =>
   cases d2
   cases d1
   split at h
   ·rename_i us eg
    obtain⟨xs,e1,ds⟩:=r _ _ eg
    exact .inl ⟨_,xs,rfl,.inl (SqL.of e1),im _ G _ H (by rw[ds.length]; exact h) (Kp.refl _) (.int _) r⟩
   ·rename_i kvs eg
    obtain⟨ks,e1,ds⟩:=r _ _ eg
    exact .inr ⟨_,ks,rfl,e1,im _ G _ H (by rw[Paired.length ds]; exact h) (Kp.refl _) (.int _) r⟩
   ·exact h.elim
 ·exact h.elim) hm boot_len ha hg (by decide) (by decide) he hpl
noncomputable def ze9:List T->Option (List Int)
 | []=>some []
 | .int n::r=>(ze9 r).map (n::·)
 | _::_=>none
theorem zgc:∀ {ts:List T} {ns:List Int},ze9 ts=some ns->ts=ns.map T.int
 | [],ns,h=>by cases h; rfl
 | .int n::r,ns,h=>by
  simp only[ze9,Option.map_eq_some_iff]at h
  obtain⟨ms,h1,rfl⟩:=h
  rw[zgc h1]; rfl
 | .non::_,_,h=>by cases h
 | .bl _::_,_,h=>by cases h
 | .str _::_,_,h=>by cases h
 | .ref _::_,_,h=>by cases h
 | .tup _::_,_,h=>by cases h
 | .fro _::_,_,h=>by cases h
 | .ty _::_,_,h=>by cases h
theorem zgX:∀ (ns:List Int),ze9 (ns.map T.int)=some ns
 | []=>rfl
 | n::r=>by simp[ze9,zgX r]
theorem zel{K:KW}{H:Hp}:∀ {vs:List V} {ns:List Int},Dens K H vs (ns.map T.int)->vs=ns.map V.int
 | _,[],.nil=>rfl
 | _,n::r,.cons d ds=>by cases d; rw[zel ds]; rfl
theorem zcY:∀ {ns:List Int} {us:List Value},zaF (ns.map V.int) us->IntsAre us ns
 | [],_,.nil=>.nil
 | n::r,_,.cons ⟨t,e⟩ rr=>by subst e; exact .cons n t (zcY rr)
noncomputable def zgt(ns:List Int):List Int:=ns.mergeSort λa b=>decide (a<=b)
theorem zgM(ns:List Int):(zgt ns).Perm ns:=List.mergeSort_perm _ _
theorem znb(ns:List Int):(zgt ns).Pairwise (·<=·):=by
 have:=List.pairwise_mergeSort (le:=λa b:Int=>decide (a<=b)) (λa b c=>by simp; lia) (λa b=>by simp; lia) ns;exact this.imp λh=>by simpa using h
theorem zjL{ms ns:List Int}(p:ms.Perm ns)(s:ms.Pairwise (·<=·)):ms=zgt ns :=
 (p.trans (zgM ns).symm).eq_of_pairwise (le:=λa b=>a<=b) (λa b _ _ h1 h2=>by lia) s (znb ns)
def zqf:List T->Gp->VK3->Prop:=λts G Q=>match ts with
 | [.ref q]=>(match G q with
  | some (.lst us)=>(match ze9 us with
   | some ns=>ns.length < 64/\∀ p,G p=none->Q (.ref p) (updG G p (.lst ((zgt ns).map T.int)))
   | none=>False)
  | some (.dK kvs)=>(match ze9 (kvs.map λkv=>kT kv.1)with
   | some ns=>ns.length < 64/\∀ p,G p=none->Q (.ref p) (updG G p (.lst ((zgt ns).map T.int)))
   | none=>False)
  | _=>False)
 | _=>False
def ztt(K:KW):List V->Hp->VK->Prop:=λxs H Q=>∃ q ts G Q3,xs=[.ref q]/\ts=[T.ref q]/\HR K H G/\zqf ts G Q3/\Imp K H Q3 Q
theorem zgL{pins:List (Addr×Obj)}{σ:L2.St}{H:Hp}{s:Shared}{G:Gp}{Q:VK}{Q3:VK3}{ns ns':List Int}{out:List Value}{h1 h':Heap}{tk e:Nat}{p:Addr}(I:Inv X pins σ H s)(r:HR X.kw H G)(im:Imp X.kw H Q3 Q)
  (h:∀ p,G p=none->Q3 (.ref p) (updG G p (.lst ((zgt ns).map T.int)))) (hl:ns.length < 64) (k1:∀ b o,s.heap.get? b=some o->h1.get? b=some o) (k2:∀ b o,h1.get? b=some o->h'.get? b=some o) (hp:h1.objs.size<=p)
  (e1:h'.get? p=some (seqObj "list" out.toArray e)) (hi:IntsAre out ns') (pm:ns'.Perm ns) (so:ns'.Pairwise (·<=·)):EP X pins σ Q (.ref p) { s with heap:=h',toks:=tk }:=by
 have I1:Inv X pins σ H { s with heap:=h1,toks:=tk }:=I.kept k1;have es:=zjL pm so;subst es;have hn:=I1.hok.fresh hp;have hlen:((zgt ns).map V.int).length<=sizeLine:=by rw[List.length_map,(zgM ns).length_eq,sizeLine_eq]; lia
 have I2:Inv X pins σ (upd H p (.lst ((zgt ns).map V.int))) { s with heap:=h',toks:=tk }:=I1.laid (t':=tk) k2 hp ⟨hlen,out,e,zfK hi,e1⟩;exact⟨.ref p,_,I2,rfl,im _ _ _ _ (h p (r.free hn)) (Kp.new hn) (.ref p) (r.new (o:=.lst ((zgt ns).map T.int)) hn ⟨_,zak,Dens.ints _⟩)⟩
theorem ziF(hc:X.calm=true):zci X (.builtin "sorted") (ztt X.kw):=by
 intro pins s σ H xs us Q I rv h;obtain⟨q,ts,G,Q3,rfl,rfl,r,h,im⟩:=h;obtain⟨u,rfl,ru⟩:=zg6 rv;cases ru
 simp only[zqf]at h;split at h
 ·rename_i vs eg;split at h
  ·rename_i ns en;have e0:=zgc en;subst e0;obtain⟨ys,e1,ds⟩:=r q _ eg;have e2:=zel ds;subst e2;obtain⟨its,rr,pl,hz⟩:=I.list (SqL.of e1);have hi:=zcY rr;have hlen:=hi.length;refine zhW hi (by lia) (λA' E' Q' _ q'=>collect_list pl.isList (q' _ s.toks λb o z=>?_) (by rw[sizeLine_eq]; lia)) λh1 h' tk p e out ns' k1 k2 hp e1 hi' pm so=>zgL I r im h.2 h.1 k1 k2 hp e1 hi' pm so;have lt:=hLz z;rw[Heap.get?_update_ne _ _ _ _ (Nat.ne_of_lt lt)];exact hPs _ z
  ·exact h.elim
 ·rename_i kvs eg;split at h
  ·rename_i ns en;have e0:=zgc en;obtain⟨ks,e1,ds⟩:=r q _ eg;obtain⟨z,nd,vs,rel,o,ees,ep,g1,g2,g3,g4,g5,g6⟩:=zkS I.hok e1;have dk:=zek ds;rw[e0]at dk;have vk:=zdX g5 rel;rw[zel dk]at vk;have hi:=zcY vk;have hlen:=hi.length;have hes:ees.size=ns.length:=by rw[<- hlen,List.length_map,Array.length_toList]
   refine zhW hi (by lia) (λA' E' Q' hA q'=>zfM (zlC (ep:=ep) nd) (by rw[hA]; exact I.ok.hd hc) ⟨o,g1,g2,g3⟩ (by rw[hes,sizeLine_eq]; lia) λh' tk acc kp items=>?_) λh1 h' tk p e out ns' k1 k2 hp e1 hi' pm so=>zgL I r im h.2 h.1 k1 k2 hp e1 hi' pm so;have el:acc.toList=ees.toList.map (·.key):=by
    refine List.ext_getElem? λj=>?_;rw[Array.getElem?_toList,List.getElem?_map,Array.getElem?_toList];cases e:acc[j]? with
    | some v=>exact(items.2 j v e).symm
    | none =>
     have:acc.size<=j:=by simpa using e
     rw[items.1]at this;rw[Array.getElem?_eq_none this]; rfl
   rw[el];exact q' h' tk kp
  ·exact h.elim
 ·exact h.elim
theorem zoV(hm:X.mg "sorted"=none) (ha:QA X (e::es) t) (hg:Gl X "sorted":=by rfl) (he:starEach (e::es) X.env=(false,eval e X.env)::starEach es X.env:=by rfl) (hpl:(backTo pos (starEach es X.env)).any (·.1)=false:=by rfl) (hc:X.calm=true:=by rfl) :
  QE X (.Call (.Name "sorted" p) (e::es) [] pos) (wCB zqf t):=zgP (ziF hc) (λH G xs ts Q Q3 d r h im=>by
 unfold zqf at h
 split at h
 ·cases d with
  | cons d1 d2 =>
   cases d2
   cases d1
   exact⟨_,_,G,Q3,rfl,rfl,r,h,im⟩
 ·exact h.elim) hm boot_sorted ha hg (by decide) (by decide) he hpl
end
end L3
namespace L2
open PySem PySem.Spec PyProof.Rows
section
theorem zld{vs:List (Key×Value)}{xs:List (Key×V)}(q:KV xs vs):zaF (xs.map (·.2)) (vs.map (·.2)):=by
 induction q with
 | nil=>exact .nil
 | cons h _ ih=>exact .cons h.2 ih
theorem zlg{P:Program}{w:World}{K:PySem.W.Frag}{tg:Expr}{kvs:List (Key×Value)}{es:Array DictEntry}{ep:Nat}{vs:List V}(p it:Addr)(o:Obj)(hx:o.ExactDict)(hd:o.data=.dict es ep)(hk:KeysOf (zaD P w) es)(hp:Pairs (zaD P w) es.toList kvs)(hn:(kvs.map (·.1)).Nodup)(rv:zaF vs (kvs.map (·.2))) :
  Turn P w K tg (Itd p o vs) [it] it (λi h=>h.IsValIter it p i kvs.length ep):=by
 have hlen:vs.length=kvs.length:=by have:=rv.length; simpa using this
 refine⟨by simp,λi h st b hb=>?_,λi h h' st k=>?_,?_,?_,λA i s Q E st q=>?_⟩
 ·have e:b=it:=by simpa using hb
  subst e;obtain⟨o,e,c,d⟩:=st;exact⟨o,e,λv z=>by rw[d]at z; cases z⟩
 ·obtain⟨o,e,r⟩:=st;exact⟨o,k it (by simp) o e,r⟩
 ·intro X hP hw hK hc i pins s σ H E I hf st hg;subst hP hw hK;obtain⟨f0,f1,f2,f3,f4,f5⟩:=hf it (by simp);obtain⟨lt,u,eH⟩:=hg;have lt':i < kvs.length:=by lia
  have dm:s.heap.DictAt (zaD X.prog X.w) p kvs ep:=⟨o,es,(I.hok p _ eH).1,hx,hd,hk,hp,hn⟩;refine wpAny_pyNext_values_item (k:=kvs[i].1) (v:=kvs[i].2) st dm (by simp[lt']) λh' st' sb=>?_;have I1:Inv X pins σ H { s with heap:=h' }:=I.turned (t':=s.toks) (λb o hb e=>(sb.2 b hb).trans e) f0 f1 f3 f4 f5;obtain⟨oi,e,c,d⟩:=id st';obtain⟨x,hx1,hx2⟩:∃ x,vs[i]?=some x/\zaR x kvs[i].2:=by
   obtain⟨u',hu,ru⟩:=rv.get (x:=vs[i]) (i:=i) (by simp[lt]);refine⟨vs[i],by simp[lt],?_⟩;rw[List.getElem?_map,List.getElem?_eq_getElem lt']at hu;simp only[Option.map_some,Option.some.injEq]at hu;rw[hu]; exact ru
  exact⟨_,rfl,zmq (s:={ s with heap:=h' }) e c d (by decide) ⟨x,H,I1,hx2,⟨rfl,hx1⟩,st',λb hb=>(hf b hb).1⟩⟩
 ·intro X hP hw hK hc i pins s σ H E I hf st hg;subst hP hw hK;obtain⟨f0,f1,f2,f3,f4,f5⟩:=hf it (by simp);obtain⟨ge,u,eH⟩:=hg;have dm:s.heap.DictAt (zaD X.prog X.w) p kvs ep:=⟨o,es,(I.hok p _ eH).1,hx,hd,hk,hp,hn⟩;exact wpAny_pyNext_values_end (I.ok.hd hc) st dm (by simp; lia) λh' eb=>⟨rfl,I.turned (t':=s.toks) (λb o hb e=>eb b o hb e) f0 f1 f3 f4 f5⟩
 ·obtain⟨o,e,c,d⟩:=st;have ty:s.TypeIs (.ref it) "dict_valueiterator":=⟨o,e,c⟩;refine wpAny_pyIter_slot ty F.slot_dict_valueiterator_iter (wpAny_call_entry F.slot_dict_valueiterator_iter ty entry_dict_valueiterator_iter ?_ (F.args_dict_valueiterator_iter_1 _));exact wpAny_pure ⟨_,rfl,"dict_valueiterator",_,ty,F.slot_dict_valueiterator_next.lookup,q⟩
end
end L2
namespace L3
open PySem PySem.Spec PyProof.Rows L2
section
variable {X:Cx}{e a b c o i l:Expr}{es:List Expr}{pos apos p p2:Pos}{ta tb tc tv to ti tl:TE3}{t:TA3}{k:Nat}{tg:Expr}{st:Stmt}
theorem zmC{K:KW}{H:Hp}{xs:List (Key×V)}{kvs:List (Key×T)}(h:zdz K H xs kvs):Dens K H (xs.map (·.2)) (kvs.map (·.2)):=by
 induction h with
 | nil=>exact .nil
 | cons h _ ih=>exact .cons h.2 ih
def znS(tl:TE3):TI3:=λτ G R=>tl τ G λx G1=>match x with
 | .ref q=>(match G1 q with
  | some (.dK kvs)=>∀ ob,R (kvs.map (·.2)) (λG=>G q=some (.dF ob kvs)) (updG G1 q (.dF ob kvs))
  | _=>False)
 | _=>False
theorem zoZ(hl:QE X l tl)(hbase:attributeBase l "values" X.env (eval l X.env)=eval l X.env:=by rfl) (hline:(apos.endLine==pos.line)=true:=by rfl):QI X tg (.Call (.Attribute l "values" apos) [] [] pos) (znS tl):=by
 intro pins s σ H R I ⟨τ,G,Q3,st,r,h,im⟩;refine wpAny_Call_method0_late hbase hline (thn (hl pins s σ H (λv H1=>∃ x G1,znS (λ_ _ Q=>Q x G1) τ G1 Q3/\Kp H H1/\Den X.kw H1 v x/\HR X.kw H1 G1) I ⟨τ,G,_,st,r,h,λx G1 v H1 h1 k1 d1 r1=>⟨x,G1,h1,k1,d1,r1⟩⟩) λv s1 ⟨vv,H1,I1,rv,x,G1,h1,k1,d1,r1⟩=>?_);unfold znS at h1;cases d1 with
 | ref q =>
  cases rv
  simp only at h1;split at h1
  ·rename_i kvs eg;obtain⟨ks,e1,ds⟩:=r1 q _ eg;obtain⟨z,nd,vs,rel,o,es,ep,g1,g2,g3,g4,g5,g6⟩:=zkS I1.hok e1;have ty:s1.TypeIs (.ref q) "dict":=⟨o,g1,g2.1⟩;refine⟨"dict","dict.values",PySem.F.plainAttrs_dict,PySem.F.slot_dict_values,PySem.F.type_dict_values,ty,λb e=>?_,Calls.callWith_builtin rfl (PySem.evalArgs_none ?_)⟩
   ·cases e; exact⟨o,g1,g2.2.1⟩
   refine call_meetsIn PySem.F.slot_dict_values ty PySem.F.entry_dict_values (PySem.F.args_dict_values_1 _) (meets_dict_values (zaD X.prog X.w) q nd) ⟨⟨vs,o,es,ep,g1,g2,g3,g4,g5,g6⟩,?_⟩;have kp:∀ b o',s1.heap.get? b=some o'->(s1.heap.push { cls:=.type "dict_values",data:=.fields #[.ref q] }).get? b=some o':=λb o' e=>Heap.get?_push_of_some _ e;have I2:Inv X pins σ H1 { s1 with heap:=s1.heap.push { cls:=.type "dict_values",data:=.fields #[.ref q] } }:=I1.kept (t':=s1.toks) kp;refine wpAny_pyIter_values (knd:=zaD X.prog X.w) (s:={ s1 with heap:=s1.heap.push { cls:=.type "dict_values",data:=.fields #[.ref q] } }) (d:=q) (kvs:=vs) (ep:=ep) ⟨_,Heap.get?_push_size _ rfl,rfl,rfl⟩ ⟨o,es,kp q o g1,g2,g3,g4,g5,g6⟩ ?_;have I3:Inv X pins σ (upd H1 q (.frz o (.dK ks))) { s1 with heap:=s1.heap.push { cls:=.type "dict_values",data:=.fields #[.ref q] } }:=I2.freeze e1 trivial (kp q o g1);have kf:Kp H1 (upd H1 q (.frz o (.dK ks))):=Kp.mut (by rw[e1]; trivial);have r2:HR X.kw (upd H1 q (.frz o (.dK ks))) (updG G1 q (.dF o kvs)):=r1.put eg ⟨ks,zak,zdz.mono kf ds⟩;refine⟨_,[_],_,Itd q o (ks.map (·.2)),_,rfl,I3.kept (t':=s1.toks) λb o e=>hPs _ e,zlg q _ o g2 g3 g4 g5 g6 (zld rel),⟨_,hPz _ rfl,rfl,rfl⟩,λb hb=>?_,im _ _ _ _ _ (h1 o) (k1.trans kf) r2 (zml ((zmC ds).mono kf) λH' G' r' hs=>?_)⟩
   ·obtain rfl:=List.mem_singleton.mp hb;exact I3.fpOk (nLr _) (I3.hok.fresh (nLr _))
   ·obtain⟨ks',e',_⟩:=r' q _ hs;exact⟨_,e'⟩
  ·exact h1.elim
 | _=>exact False.elim h1
end
end L3
namespace M
inductive Let where
 | prepare (b:Int)
 | promise (b:Int) (v:Nat) (l:Option (Int×Int))
 | ask (b w:Int)
 | vote (b:Int) (v:Nat) (w:Int)
 deriving DecidableEq
noncomputable def Let.bal:Let->Int
 | .prepare b=>b
 | .promise b _ _=>b
 | .ask b _=>b
 | .vote b _ _=>b
structure Voter where
 promised:Option Int
 voted:Option (Int×Int)
noncomputable def upd{α β:Type} [DecidableEq α](f:α->β)(a:α)(x:β):α->β:=λj=>if j=a then x else f j
noncomputable def write(L:List Let)(x:Let):List Let:=if x∈L then L else L++[x]
@[grind =] theorem mem_write {L:List Let} {x y:Let}:y∈write L x↔y∈L∨y=x:=by
 unfold write; split<;>grind
theorem nodup_write{L:List Let}{x:Let}(h:L.Nodup):(write L x).Nodup:=by
 unfold write; split
 ·exact h
 ·rename_i hx;rw[List.nodup_append];refine⟨h,by simp,?_⟩;intro a ha b hb;simp at hb;subst hb;intro e;exact hx (e ▸ ha)
noncomputable def own(n:Nat)(b:Int):Nat:=(b % (n:Int)).toNat
noncomputable def lt?(o:Option Int)(b:Int):Bool:=match o with
 | none=>true
 | some p=>decide (p < b)
noncomputable def le?(o:Option Int)(b:Int):Bool:=match o with
 | none=>true
 | some p=>decide (p<=b)
theorem length_of_nodup{α:Type} [DecidableEq α]:∀ {l r:List α},l.Nodup->(∀ x∈l,x∈r)->l.length<=r.length
 | [],_,_,_=>Nat.zero_le _
 | x::l,r,nd,h=>by
  have hx:=h x List.mem_cons_self
  have hn:=List.nodup_cons.mp nd
  have h':∀ y∈l,y∈r.erase x:=λy hy=>by
   have:y≠x:=λe=>hn.1 (e ▸ hy)
   exact(List.mem_erase_of_ne this).mpr (h y (lMc _ hy))
  have:=length_of_nodup hn.2 h'
  rw[List.length_erase_of_mem hx]at this
  have:0 < r.length:=List.length_pos_of_mem hx
  simp only[List.length_cons]
  lia
end M
namespace P
open M (Let)
structure As where
 ballot:Option Int
 fresh:Int
 noted:List (Nat×Option (Int×Int))
 asked:List (Int×List Nat)
structure R where
 wishes:List Int
 many:Nat
 letters:List Let
 askers:Nat->As
 voters:Nat->M.Voter
noncomputable def R.setA(S:R)(i:Nat)(a:As):R:={ S with askers:=M.upd S.askers i a }
noncomputable def R.setV(S:R)(i:Nat)(a:M.Voter):R:={ S with voters:=M.upd S.voters i a }
noncomputable def R.write(S:R)(x:Let):R:={ S with letters:=M.write S.letters x }
noncomputable def mx(i j:Int):Int:=if j > i then j else i
noncomputable def ownB(number n least:Int):Int:=mx least number+(number - mx least number) % n
noncomputable def As.due(a:As)(i n:Nat)(least:Int):Int:=ownB i n (mx least a.fresh)
noncomputable def As.begin(a:As)(i n:Nat)(least:Int):As:={ a with ballot:=some (a.due i n least),fresh:=a.due i n least+1,noted:=[] }
noncomputable def R.begin(S:R)(i:Nat)(least:Int):R :=
 (S.setA i ((S.askers i).begin i S.wishes.length least)).write (.prepare ((S.askers i).due i S.wishes.length least))
noncomputable def R.fall(S:R)(i:Nat):R:=S.setA i { S.askers i with ballot:=none }
noncomputable def putL{κ α:Type} [DecidableEq κ](l:List (κ×α))(k:κ)(x:α):List (κ×α) :=
 if (l.any λkv=>decide (kv.1=k))=true then l.map (λkv=>if kv.1=k then (kv.1,x)else kv)else l++[(k,x)]
noncomputable def getL{κ α:Type} [DecidableEq κ](l:List (κ×α))(k:κ):Option α:=(l.find? λkv=>decide (kv.1=k)).map (·.2)
theorem zl2{κ α:Type} [DecidableEq κ]{k:κ}{x:α}:∀ {l:List (κ×α)},k∉l.map (·.1)->l.map (λkv=>if kv.1=k then (kv.1,x)else kv)=l
 | [],_=>rfl
 | (j,y)::r,h=>by
  simp only[List.map_cons,List.mem_cons,not_or]at h
  rw[List.map_cons,zl2 h.2,if_neg (λe=>h.1 e.symm)]
theorem ziv{κ α:Type} [DecidableEq κ]{l:List (κ×α)}{k:κ}:getL l k=none↔k∉l.map (·.1):=by
 unfold getL;simp only[Option.map_eq_none_iff,List.find?_eq_none,decide_eq_true_eq,List.mem_map,not_exists,not_and]
theorem znY{κ α:Type} [DecidableEq κ]{l:List (κ×α)}{k j:κ}{x:α}(h:k∉l.map (·.1)):getL (l++[(k,x)]) j=if j=k then some x else getL l j:=by
 unfold getL;rw[List.find?_append];by_cases e:j=k
 ·subst e;have:l.find? (λkv=>decide (kv.1=j))=none:=by
   have:=ziv.mpr h;unfold getL at this;simpa using this
  rw[this]; simp
 ·rw[if_neg e];have:([(k,x)]:List (κ×α)).find? (λkv=>decide (kv.1=j))=none:=by simp; exact λz=>e z.symm
  rw[this]; simp
theorem znl{κ α:Type} [DecidableEq κ]{l:List (κ×α)}{k:κ}{x:α}(h:k∉l.map (·.1)):putL l k x=l++[(k,x)]:=by
 unfold putL;rw[if_neg];intro z;simp only[List.any_eq_true,decide_eq_true_eq]at z;obtain⟨kv,h1,h2⟩:=z;exact h (h2 ▸ List.mem_map_of_mem h1)
noncomputable def ltP(a b:Int×Int):Bool:=decide (a.1 < b.1∨(a.1=b.1/\a.2 < b.2))
noncomputable def maxP:List (Int×Int)->Int×Int
 | []=>(0,0)
 | q::r=>r.foldl (λacc q=>if ltP acc q then q else acc) q
noncomputable def lasts(l:List (Nat×Option (Int×Int))):List (Int×Int):=l.filterMap (·.2)
noncomputable def wishToAsk(w:Int)(l:List (Nat×Option (Int×Int))):Int:=if (lasts l).length=0 then w else (maxP (lasts l)).2
noncomputable def sortN(l:List Nat):List Nat:=l.mergeSort λa b=>decide (a<=b)
noncomputable def R.note(S:R)(b:Int)(v:Nat)(l:Option (Int×Int)):R :=
 let i:=M.own S.wishes.length b
 let a:=S.askers i
 if a.ballot=some b/\getL a.asked b=none then
  let nt:=putL a.noted v l
  if 2 * nt.length > S.many then
   (S.setA i { a with noted:=nt,asked:=putL a.asked b (sortN (nt.map (·.1))) }).write (.ask b (wishToAsk (S.wishes.getD i 0) nt))
  else S.setA i { a with noted:=nt }
 else S
noncomputable def R.hear(S:R)(x:Let)(v:Nat):R:=match x with
 | .prepare b=>if M.lt? (S.voters v).promised b then (S.setV v ⟨some b,(S.voters v).voted⟩).write (.promise b v (S.voters v).voted)else S
 | .ask b w=>if M.le? (S.voters v).promised b then (S.setV v ⟨some b,some (b,w)⟩).write (.vote b v w)else S
 | .promise b u l=>S.note b u l
 | .vote _ _ _=>S
noncomputable def R.bring(S:R)(k v:Nat):R:=match S.letters[k]? with
 | some x=>S.hear x v
 | none=>S
noncomputable def new(wishes:List Int)(many:Nat):R:=⟨wishes,many,[],λ_=>⟨none,0,[],[]⟩,λ_=>⟨none,none⟩⟩
theorem own_lt{n:Nat}{b:Int}(h:0 < n):M.own n b < n:=by
 unfold M.own;have h1:=Int.emod_nonneg b (b:=(n:Int)) (by lia);have h2:=Int.emod_lt_of_pos b (b:=(n:Int)) (by lia);lia
end P
namespace L2
open PySem PySem.Spec PyProof.Rows
def zgI(h₀ h:Heap):Prop:=∀ b o,h₀.get? b=some o->h.get? b=some o
def zrT(prog:Program)(w:World)(A:Around)(op:CmpOp)(h₀:Heap)(P:Nat->Value->Prop)(bt:Nat->Nat->Bool):Prop :=
 ∀ (i j:Nat) (u v:Value) (s:Shared) (Q E:Value->Shared->Prop),zgI h₀ s.heap->P i u->P j v->Q (.bool (bt i j)) s->wpAny (model prog w) A (richCompare op u v) Q E s
section
variable {prog:Program}{w:World}{A:Around}{E:Value->Shared->Prop}{s:Shared}
theorem zpE{x y:Addr}{a b c d:Int}{t u t' u':Tok}{Q:Value->Shared->Prop}(hu:A.units < cLine)(hx:s.heap.IsTuple x #[.int a t,.int b u])(hy:s.heap.IsTuple y #[.int c t',.int d u'])
  (q:Q (.bool (P.ltP (c,d) (a,b))) s):wpAny (model prog w) A (richCompare .Gt (.ref x) (.ref y)) Q E s:=by
 obtain⟨ox,x1,x2,nx,x3⟩:=hx;obtain⟨oy,y1,y2,ny,y3⟩:=hy;have tx:s.TypeIs (.ref x) "tuple":=⟨ox,x1,x2⟩;have ty:s.TypeIs (.ref y) "tuple":=⟨oy,y1,y2⟩;refine wpAny_richCompare_same_room tx ty F.slot_tuple_gt (wpAny_call_entry F.slot_tuple_gt tx F.entry_tuple_gt ?_ (F.args_tuple_gt_2 _ _)) hu
 change wpAny _ _ (isInstance (.ref y) (.type "tuple") >>= λ_=>_) _ _ s
 refine wB (wpAny_isInstance ty isSubtype_tuple_tuple ?_);simp only[Bool.not_true,Bool.false_eq_true,if_false];refine wB (wpAny_tupleItemsOf x1 x3 (wB (wpAny_tupleItemsOf y1 y3 ?_)));simp only[List.zip_cons_cons,List.zip_nil_right,List.forIn_cons,List.forIn_nil];refine wB (wB (wB (wpAny_eqBool_int ?_)));have gi:∀ (i j:Int) (v v':Tok) (A':Around) (Q':Value->Shared->Prop),Q' (.bool (decide (i > j))) s->wpAny (model prog w) A' (richCompare .Gt (.int i v) (.int j v')) Q' E s:=λi j v v' A' Q' h =>
  richCompare_gives (op:=.Gt) (typeIs_int s _ v) (typeIs_int s _ v') F.slot_int_gt F.entry_int_gt (F.args_int_gt_2 _ _) (gives_int_gt _ _ v v') (λx=>nomatch x) h
 by_cases e:a=c
 ·subst e;simp only[BEq.rfl,Bool.not_true,Bool.false_eq_true,if_false];refine wQ (wB (wB (wpAny_eqBool_int ?_)));by_cases e:b=d
  ·subst e;simp only[BEq.rfl,Bool.not_true,Bool.false_eq_true,if_false];refine wQ (wQ ?_);have z:P.ltP (a,b) (a,b)=false:=by simp[P.ltP]
   rw[z]at q;exact wQ ⟨.bool false,rfl,(λx=>nomatch x),q⟩
  ·have e':(b==d)=false:=by simpa using e
   simp only[e',Bool.not_false,if_true];refine wB (wpAny_rule (wB (gi b d _ _ _ _ ?_)));have z:P.ltP (a,d) (a,b)=decide (b > d):=by simp[P.ltP]
   rw[z]at q;exact wB (wQ (wQ (wQ (wQ ⟨_,rfl,(λx=>nomatch x),q⟩))))
 ·have e':(a==c)=false:=by simpa using e
  simp only[e',Bool.not_false,if_true];refine wB (wpAny_rule (wB (gi a c _ _ _ _ ?_)));have z:P.ltP (c,d) (a,b)=decide (a > c):=by simp[P.ltP]; intro h; lia
  rw[z]at q;exact wB (wQ (wQ (wQ (wQ ⟨_,rfl,(λx=>nomatch x),q⟩))))
end
section
variable {prog:Program}{w:World}{A:Around}{R:Result->Shared->Prop}{I:Addr}{fp wr:List Addr}{n:Nat}{P:Nat->Value->Prop}{St:Nat->Heap->Prop}
noncomputable abbrev two(best:Value)(c:Nat):Obj:={ cls:=.type "list",dict:=none,data:=.seq #[best,best] c,slots:=#[] }
theorem zpp{bt:Nat->Nat->Bool}{h₀:Heap}{S:Addr}(W:Walks prog w A.in1 I fp wr n P St)(cmp:zrT prog w A.in1 .Gt h₀ P bt)(nS:S∉fp)(w0:∀ b∈wr,h₀.get? b=none)(s0:h₀.get? S=none) :
  ∀ (k j:Nat) (s:Shared) (best:Value) (c:Nat),n - (j+1)=k->j+1<=n->St (j+1) s.heap->zgI h₀ s.heap->P (argBest bt j) best->s.heap.get? S=some (two best c) ->
   (∀ v g tk,P (argBest bt (n - 1)) v->zgI h₀ g->R (.ok (.ret v)) { s with heap:=g,toks:=tk })->codeAny (model prog w) A (.builtin "max.loop" ⟨[.ref I,.none,.ref S],[]⟩) R s:=by
 have nw:S∉wr:=λh=>nS (W.sub _ h);have nm:(toString "max"++toString ".loop":String)="max.loop":=by decide
 have stay:∀ {h g:Heap},zgI h₀ h->(∀ b o,b∉wr->h.get? b=some o->g.get? b=some o)->zgI h₀ g:=λ{h g} kp kk b o e=>kk b o (λz=>by rw[w0 b z]at e; cases e) (kp b o e);have stay2:∀ {h:Heap} {f:Obj->Obj},zgI h₀ h->zgI h₀ (h.update S f):=λ{h f} kp b o e=>(Heap.get?_update_other _ _ (λz:S=b=>by rw[<- z,s0]at e; cases e)).trans (kp b o e);intro k;induction k with
 | zero =>
  intro j s best c hk hj hst kp pb hS hR;have e:j+1=n:=by lia
  refine codeAny_builtin F.entry_max_loop ?_;rw[Around.under_plainId F.plain_max_loop _]
  change wpAny _ A.in1 (seqItems? (.ref S) >>= λ_=>_) _ _ s
  refine wB (wpAny_seqItems hS rfl ?_)
  change wpAny _ A.in1 (tryCatch (pyNext (.ref I)) _ >>= λ_=>_) _ _ s
  refine wB (wpAny_tryCatch (W.done s _ _ (e ▸ hst) λg tk kk=>?_))
  change wpAny _ A.in1 (updateSeq S (λ_=>#[]) >>= λ_=>_) _ _ _
  exact wpAny_bind (wpAny_updateSeq (kk S _ nw hS) rfl (wpAny_bind (wpAny_letGo (wpAny_pure (hR best _ tk (by rw[<- e]; exact pb) (stay2 (stay kp kk)))))))
 | succ k ih =>
  intro j s best c hk hj hst kp pb hS hR;have lt:j+1 < n:=by lia
  refine codeAny_builtin F.entry_max_loop ?_;rw[Around.under_plainId F.plain_max_loop _]
  change wpAny _ A.in1 (seqItems? (.ref S) >>= λ_=>_) _ _ s
  refine wB (wpAny_seqItems hS rfl ?_)
  change wpAny _ A.in1 (tryCatch (pyNext (.ref I)) _ >>= λ_=>_) _ _ s
  refine wB (wpAny_tryCatch (W.item (j+1) s _ _ lt hst λv g tk pv st' kk=>?_));have hS':=kk S _ nw hS
  change wpAny _ A.in1 (tryCatch (holding [v,v] (richCompare .Gt v best >>= λ_=>_)) _ >>= λ_=>_) _ _ _
  refine wB (wpAny_tryCatch (wpAny_holding (wB (cmp (j+1) (argBest bt j) v best _ _ _ (stay kp kk) pv pb (wB (wpAny_holding (wpAny_truthy_bool ?_)))))));refine wB (wpAny_letGo (wQ ?_));cases hb:bt (j+1) (argBest bt j)with
  | true =>
   rw[if_pos rfl];refine wB (wpAny_updateSeq hS' rfl (wB (wpAny_letGo ?_)));rw[nm];exact wpAny_pure ⟨plainId_quiet F.plain_max_loop _,ih (j+1) _ v _ (by lia) lt (W.frame _ _ _ st' λb hf o e=>(Heap.get?_update_other _ _ (λz:S=b=>nS (by rw[z]; exact hf))).trans e) (stay2 (stay kp kk))
    (by simp only[argBest,hb,if_true]; exact pv) (Heap.get?_update_self _ hS' rfl) λv' g' tk' p' k'=>hR v' g' tk' p' k'⟩
  | false =>
   rw[if_neg Bool.false_ne_true];refine wB (wpAny_letGo ?_);rw[nm];exact wpAny_pure ⟨plainId_quiet F.plain_max_loop _,ih (j+1) _ best c (by lia) lt st' (stay kp kk) (by simp only[argBest,hb,Bool.false_eq_true,if_false]; exact pb) hS' λv' g' tk' p' k'=>hR v' g' tk' p' k'⟩
end
section
variable {prog:Program}{w:World}{A:Around}{E:Value->Shared->Prop}{s:Shared}
theorem zol{l:Addr}{items:Array Value}{bt:Nat->Nat->Bool}{Q:Value->Shared->Prop}(hh:A.handled=none)(hl:s.heap.IsList l items)(n0:0 < items.size)(cmp:zrT prog w A.in1 .Gt s.heap (λi v=>items[i]?=some v) bt)
  (q:∀ v g tk,items[argBest bt (items.size - 1)]?=some v->zgI s.heap g->Q v { s with heap:=g,toks:=tk }):wpAny (model prog w) A (call (.builtin "max") [.ref l]) Q E s:=by
 have nm:(toString "max"++toString ".loop":String)="max.loop":=by decide
 have ll:l < s.heap.objs.size:=let ⟨_,e,_⟩:=hl; hLz e;have W:=Walks.list (prog:=prog) (w:=w) (A:=A.in1) hh s.heap.objs.size l (nNl ll) items;refine call_function_tree F.kind_max F.plain_max F.entry_max (F.args_max1 _) ?_
 change wpAny _ A.in1 (Builtin.Builtins.bindParams "max" ["key","default"] 0 ⟨[],[]⟩ >>= λ_=>_) _ _ s
 refine wB (wpAny_of_eq (a:=[none,none]) rfl (wB (wQ (wB (wpAny_pyIter_list hl (wB (wpAny_newObj_type ?_)))))));rw[nm];have k1:zgI s.heap (s.heap.push { cls:=.type "list_iterator",data:=.fields #[.ref l,.int 0 0] }):=λb o e=>Heap.get?_push_of_some _ e;have z1:(s.heap.push { cls:=.type "list_iterator",data:=.fields #[.ref l,.int 0 0] }).objs.size=s.heap.objs.size+1:=Heap.size_push ..;have nS:(s.heap.push { cls:=.type "list_iterator",data:=.fields #[.ref l,.int 0 0] }).objs.size∉[s.heap.objs.size,l]:=by
  rw[z1]; intro h;rcases List.mem_cons.mp h with h | h
  ·exact Nat.succ_ne_self _ h
  ·exact Nat.ne_of_gt (Nat.lt_succ_of_lt ll) (List.mem_singleton.mp h)
 have w0:∀ b∈[s.heap.objs.size],s.heap.get? b=none:=λb hb=>by
  obtain rfl:=List.mem_singleton.mp hb;cases e:s.heap.get? s.heap.objs.size with
  | none=>rfl
  | some o=>exact absurd (hLz e) (Nat.lt_irrefl _)
 have s0:s.heap.get? (s.heap.push { cls:=.type "list_iterator",data:=.fields #[.ref l,.int 0 0] }).objs.size=none:=by
  cases e:s.heap.get? (s.heap.push { cls:=.type "list_iterator",data:=.fields #[.ref l,.int 0 0] }).objs.size with
  | none=>rfl
  | some o=>have:=Heap.lt_size e; rw[z1]at this; exact absurd this (Nat.not_succ_lt_self)
 have nw:(s.heap.push { cls:=.type "list_iterator",data:=.fields #[.ref l,.int 0 0] }).objs.size∉[s.heap.objs.size]:=λh=>nS (W.sub _ h);refine wQ ⟨plainId_quiet F.plain_max_loop _,codeAny_builtin F.entry_max_loop ?_⟩;rw[Around.under_plainId F.plain_max_loop _]
 change wpAny _ A.in1 (seqItems? (.ref _) >>= λ_=>_) _ _ _
 refine wB (wpAny_seqItems (hPz _ rfl) rfl ?_)
 change wpAny _ A.in1 (tryCatch (pyNext (.ref _)) _ >>= λ_=>_) _ _ _
 have st0:(λi (h:Heap)=>h.IsListIter s.heap.objs.size l i/\h.IsList l items) 0 ((s.heap.push { cls:=.type "list_iterator",data:=.fields #[.ref l,.int 0 0] }).push { cls:=.type "list",data:=.seq ([]:List Value).toArray }) :=
  ⟨⟨_,hPs _ (hPz _ rfl),rfl,rfl⟩,let ⟨o,e,r⟩:=hl; ⟨o,hPs _ (k1 l o e),r⟩⟩
 refine wB (wpAny_tryCatch (W.item 0 _ _ _ n0 st0 λv g tk pv st' kk=>?_));have hS':=kk _ _ nw (hPz _ rfl)
 change wpAny _ A.in1 (updateSeq _ (λ_=>#[v,v]) >>= λ_=>_) _ _ _
 refine wB (wpAny_updateSeq hS' rfl ?_);rw[nm];have kg:zgI s.heap g:=λb o e=>kk b o (λz=>by rw[w0 b z]at e; cases e) (Heap.get?_push_of_some _ (k1 b o e));refine wpAny_pure ⟨plainId_quiet F.plain_max_loop _,zpp W cmp nS w0 s0 _ 0 _ v _ rfl n0 (W.frame _ _ _ st' λb hf o e=>(Heap.get?_update_other _ _ (λz=>nS (by rw[z]; exact hf))).trans e) (λb o e=>(Heap.get?_update_other _ _ (λz=>by rw[z,e]at s0; cases s0)).trans (kg b o e)) pv (Heap.get?_update_self _ hS' rfl) λv' g' tk' p' k'=>q v' g' tk' p' k'⟩
end
theorem zdt{α β:Type}{F:α->β->Prop}:∀ {l:List α} {r:List β} {i:Nat} {x:α},Paired F l r->l[i]?=some x->∃ y,r[i]?=some y/\F x y
 | _,_,_,_,.nil,e=>by simp at e
 | _,_,0,_,.cons h _,e=>by simp at e; subst e; exact⟨_,rfl,h⟩
 | _,_,i+1,x,.cons _ t,e=>by
  obtain⟨y,h1,h2⟩:=zdt (i:=i) (x:=x) t (by simpa using e)
  exact⟨y,by simpa using h1,h2⟩
noncomputable def bestL{α:Type}(lt:α->α->Bool)(x:α)(r:List α):α:=r.foldl (λacc q=>if lt acc q then q else acc) x
theorem zdh{α:Type}{lt:α->α->Bool}{d x:α}{r:List α}:∀ k,k<=r.length->argBest (λi j=>lt ((x::r).getD j d) ((x::r).getD i d)) k<=k/\(x::r)[argBest (λi j=>lt ((x::r).getD j d) ((x::r).getD i d)) k]?=some (bestL lt x (r.take k))
 | 0,_=>⟨Nat.le_refl _,by simp[argBest,bestL]⟩
 | k+1,h=>by
  obtain⟨h1,h2⟩:=zdh (lt:=lt) (d:=d) (x:=x) (r:=r) k (by lia)
  have hk:k < r.length:=by lia
  have e1:r.take (k+1)=r.take k++[r[k]]:=by rw[List.take_succ_eq_append_getElem hk]
  have e2:(x::r).getD (k+1) d=r[k]:=by simp[hk]
  have e3:(x::r).getD (argBest (λi j=>lt ((x::r).getD j d) ((x::r).getD i d)) k) d=bestL lt x (r.take k):=by rw[List.getD_eq_getElem?_getD,h2]; rfl
  have e4:bestL lt x (r.take (k+1))=if lt (bestL lt x (r.take k)) r[k]then r[k]else bestL lt x (r.take k):=by unfold bestL; rw[e1,List.foldl_append]; rfl
  rw[e4]
  simp only[argBest,e2,e3]
  by_cases c:lt (bestL lt x (r.take k)) r[k]=true
  ·rw[if_pos c,if_pos c]
   exact⟨Nat.le_refl _,by simp[hk]⟩
  ·rw[if_neg c,if_neg c]
   exact⟨by lia,h2⟩
section
variable {X:Cx}
theorem zmO{k:Nat}(hr:Room k X.A)(hc:X.calm=true):zci X (.builtin "max") (λxs H Q=>∃ p ys x r,xs=[.ref p]/\SqL X.K H p ys/\Paired (λ(y:V) (q:Int×Int)=>∃ a,y=.ref a/\SqT X.K H a [.int q.1,.int q.2]) ys (x::r)/\∀ (i:Nat) (y:V),ys[i]?=some y->(x::r)[i]?=some (bestL P.ltP x r)->Q y H):=by
 intro pins s σ H xs us Q I r h;obtain⟨p,ys,x,qs,rfl,hq,ps,q⟩:=h;obtain⟨u,rfl,ru⟩:∃ u,us=[u]/\zaR (.ref p) u:=by
  cases r with
  | cons a b=>cases b; exact⟨_,rfl,a⟩
 cases ru
 obtain⟨its,rv,pl,hz⟩:=I.list hq;have hlen:its.length=(x::qs).length:=by rw[<- rv.length]; exact Paired.length ps
 have hun:X.A.in1.units < cLine:=by have:=hr.units; show X.A.units+1 < cLine; lia
 refine zol (bt:=λi j=>P.ltP ((x::qs).getD j (0,0)) ((x::qs).getD i (0,0))) (I.ok.hd hc) pl.isList (by rw[List.size_toArray,hlen]; simp) ?_ ?_
 ·intro i j u v s' Q' E' kp hi hj h';have pr:∀ (i:Nat) (u:Value),its.toArray[i]?=some u->∃ a t t',u=.ref a/\s'.heap.IsTuple a #[.int ((x::qs).getD i (0,0)).1 t,.int ((x::qs).getD i (0,0)).2 t']:=by
   intro i u hi;rw[List.getElem?_toArray]at hi;obtain⟨hi1,hi2⟩:=List.getElem?_eq_some_iff.mp hi;have hi3:i < ys.length:=by rw[rv.length]; exact hi1
   obtain⟨u',hu',ru'⟩:=rv.get (x:=ys[i]) (i:=i) (by simp[hi3]);rw[hi]at hu'; cases hu';obtain⟨q',hq',a,ea,sa⟩:=zdt ps (x:=ys[i]) (i:=i) (by simp[hi3]);rw[ea]at ru'; cases ru';obtain⟨its',rv',pt,_⟩:=I.tuple sa;cases rv' with
   | cons r1 rr=>cases rr with
    | cons r2 rr =>
     cases rr; obtain⟨t,rfl⟩:=r1; obtain⟨t',rfl⟩:=r2
     refine⟨a,t,t',rfl,?_⟩;rw[List.getD_eq_getElem?_getD,hq'];obtain⟨o,e,rest⟩:=pt;exact⟨o,kp _ _ e,rest⟩
  obtain⟨a,t,t',rfl,h1⟩:=pr i u hi;obtain⟨b,t2,t3,rfl,h2⟩:=pr j v hj;exact zpE hun h1 h2 h'
 ·intro v g tk hv kp;have hb:=zdh (lt:=P.ltP) (d:=(0,0)) (x:=x) (r:=qs) qs.length (nLr _);have esz:its.toArray.size - 1=qs.length:=by rw[List.size_toArray,hlen]; simp
  rw[esz,List.getElem?_toArray]at hv;rw[List.take_length]at hb;obtain⟨hi1,_⟩:=List.getElem?_eq_some_iff.mp hv;have hi3:argBest (λi j=>P.ltP ((x::qs).getD j (0,0)) ((x::qs).getD i (0,0))) qs.length < ys.length:=by rw[rv.length]; exact hi1
  obtain⟨u',hu',ru'⟩:=rv.get (lGe hi3);rw[hv]at hu'; cases hu';exact⟨_,H,I.kept kp,ru',q _ _ (lGe hi3) hb.2⟩
theorem zmP(hc:X.calm=true):zci X (.builtin "max") (λxs H Q=>∃ p x r,xs=[.ref p]/\SqL X.K H p ((x::r).map V.int)/\Q (.int (bestL (λa b=>decide (a < b)) x r)) H):=by
 intro pins s σ H xs us Q I r h;obtain⟨p,x,qs,rfl,hq,q⟩:=h;obtain⟨u,rfl,ru⟩:∃ u,us=[u]/\zaR (.ref p) u:=by
  cases r with
  | cons a b=>cases b; exact⟨_,rfl,a⟩
 cases ru
 obtain⟨its,rv,pl,hz⟩:=I.list hq;have hlen:its.length=(x::qs).length:=by rw[<- rv.length]; simp
 have pr:∀ (i:Nat) (u:Value),its.toArray[i]?=some u->∃ t,u=Value.int ((x::qs).getD i 0) t:=by
  intro i u hi;rw[List.getElem?_toArray]at hi;obtain⟨hi1,hi2⟩:=List.getElem?_eq_some_iff.mp hi;have hi3:i < (x::qs).length:=by rw[<- hlen]; exact hi1
  obtain⟨u',hu',ru'⟩:=rv.get (x:=V.int (x::qs)[i]) (i:=i) (by rw[List.getElem?_map,lGe hi3]; rfl);rw[hi]at hu'; cases hu';obtain⟨t,rfl⟩:=ru';exact⟨t,by rw[List.getD_eq_getElem?_getD,List.getElem?_eq_getElem hi3]; rfl⟩
 refine zol (bt:=λi j=>decide ((x::qs).getD j 0 < (x::qs).getD i 0)) (I.ok.hd hc) pl.isList (by rw[List.size_toArray,hlen]; simp) ?_ ?_
 ·intro i j u v s' Q' E' kp hi hj h';exact CmpOf.ints_gt (P:=λi v=>its.toArray[i]?=some v) (λi=>(x::qs).getD i 0) pr i j u v s' Q' E' hi hj h'
 ·intro v g tk hv kp;have hb:=zdh (lt:=λa b:Int=>decide (a < b)) (d:=0) (x:=x) (r:=qs) qs.length (nLr _);have esz:its.toArray.size - 1=qs.length:=by rw[List.size_toArray,hlen]; simp
  rw[esz]at hv;rw[List.take_length]at hb;obtain⟨t,rfl⟩:=pr _ v hv;refine⟨V.int _,H,I.kept kp,⟨t,rfl⟩,?_⟩;rw[List.getD_eq_getElem?_getD,hb.2];exact q
end
end L2
namespace L3
open PySem PySem.Spec PyProof.Rows L2
section
variable {X:Cx}{e:Expr}{es:List Expr}{pos p:Pos}{t:TA3}{k:Nat}
noncomputable def pT(q:Int×Int):T:=.tup [.int q.1,.int q.2]
noncomputable def zlQ:T->Option (Int×Int)
 | .tup [.int a,.int b]=>some (a,b)
 | _=>none
theorem zeV{K:KW}{H:Hp}:∀ {vs:List V} {qs:List (Int×Int)},Dens K H vs (qs.map pT)->Paired (λ(y:V) (q:Int×Int)=>∃ a,y=.ref a/\SqT K.k H a [.int q.1,.int q.2]) vs qs
 | _,[],.nil=>.nil
 | _,q::r,.cons d ds=>by
  refine .cons ?_ (zeV ds)
  cases d with
  | tup sq dd =>
   cases dd with
   | cons d1 dd=>cases dd with
    | cons d2 dd=>cases dd; cases d1; cases d2; exact⟨_,rfl,sq⟩
def zrd:List T->Gp->VK3->Prop:=λts G Q=>match ts with
 | [.ref q]=>(match G q with
  | some (.lst us)=>(∃ x r,us=(x::r).map pT/\Q (pT (bestL P.ltP x r)) G)∨∃ x r,us=(x::r).map T.int/\Q (.int (bestL (λa b=>decide (a < b)) x r)) G
  | _=>False)
 | _=>False
theorem zoW(hr:Room k X.A)(hm:X.mg "max"=none) (ha:QA X [e] t) (hg:Gl X "max":=by rfl) (he:starEach [e] X.env=[(false,eval e X.env)]:=by rfl) (hpl:(backTo pos (starEach [] X.env)).any (·.1)=false:=by rfl) (hc:X.calm=true:=by rfl) :
  QE X (.Call (.Name "max" p) [e] [] pos) (wCB zrd t):=zgP (zci.or (zmO hr hc) (zmP hc)) (λH G xs ts Q Q3 d r h im=>by
 unfold zrd at h
 split at h
 ·cases d with
  | cons d1 d2 =>
   cases d2
   cases d1
   split at h
   ·rename_i us eg
    obtain⟨xs,e1,ds⟩:=r _ _ eg
    rcases h with ⟨x,rr,eu,h⟩ | ⟨x,rr,eu,h⟩
    ·subst eu
     refine .inl ⟨_,xs,x,rr,rfl,SqL.of e1,zeV ds,λi y hy hb=>?_⟩
     obtain⟨t',et,dt⟩:=ds.getV hy
     rw[List.getElem?_map,hb]at et
     cases et
     exact im _ G _ H h (Kp.refl _) dt r
    ·subst eu
     have:=zel ds
     subst this
     exact .inr ⟨_,x,rr,rfl,SqL.of e1,im _ G _ H h (Kp.refl _) (.int _) r⟩
   ·exact h.elim
 ·exact h.elim) hm boot_max ha hg (by decide) (by decide) he hpl
end
end L3
namespace L2
open PySem.W PyProof.Rows
section
variable {n:Nat}{lt:Nat->Nat->Bool}
structure Ord(n:Nat)(lt:Nat->Nat->Bool):Prop where
 asym:∀ i j,lt i j=true->lt j i=false
 trans:∀ i j k,lt i j=true->lt j k=true->lt i k=true
 tot:∀ i j,i < n->j < n->i≠j->lt i j=false->lt j i=true
abbrev PermN(n:Nat)(p:Array Nat):Prop:=p.Perm (List.toArray (List.range n))
theorem PermN.size{p:Array Nat}(h:PermN n p):p.size=n:=by have:=h.size_eq; simpa using this
theorem PermN.below{p:Array Nat}(h:PermN n p)(h0:0 < n)(i:Nat):p.getD i 0 < n:=by
 by_cases hi:i < p.size
 ·have e:p.getD i 0=p[i]:=by simp[Array.getD,hi]
  rw[e];have:p[i]∈(List.toArray (List.range n)).toList:=(Array.perm_iff_toList_perm.mp h).mem_iff.mp (by simp);simpa using this
 ·have e:p.getD i 0=0:=by simp[Array.getD,hi]
  rw[e]; exact h0
theorem PermN.ne{p:Array Nat}(h:PermN n p){i j:Nat}(hi:i < n)(hj:j < n)(d:i≠j):p.getD i 0≠p.getD j 0:=by
 have hs:=h.size;have hi':i < p.size:=by lia
 have hj':j < p.size:=by lia
 have e:p.getD i 0=p[i]:=by simp[Array.getD,hi']
 have e2:p.getD j 0=p[j]:=by simp[Array.getD,hj']
 rw[e,e2];have nd:p.toList.Nodup:=(Array.perm_iff_toList_perm.mp h).nodup_iff.mpr (by simpa using List.nodup_range);intro z;have:=(List.getElem_inj nd (i:=i) (j:=j) (h₀:=by simpa using hi') (h₁:=by simpa using hj')).mp (by simpa using z);exact d this
theorem bub_get{p:Array Nat}{k l j:Nat}(hk:k < p.size)(hl:l<=k):(bubble p k (k - l)).getD j 0=if j=l then p.getD k 0 else if l < j/\j<=k then p.getD (j - 1) 0 else p.getD j 0:=by
 have e:=getElem?_bubble (xs:=p) hk (k - l) (by lia) j;have g:∀ (a:Array Nat) (k:Nat),a.getD k 0=(a[k]?).getD 0:=λa k=>by rw[Array.getD_eq_getD_getElem?]
 have e0:k - (k - l)=l:=by lia
 rw[e0]at e;rw[g,e];by_cases c1:j=l
 ·rw[if_pos c1,if_pos c1,g]
 ·rw[if_neg c1,if_neg c1];by_cases c2:l < j/\j<=k
  ·rw[if_pos c2,if_pos c2,g]
  ·rw[if_neg c2,if_neg c2,g]
end
end L2
namespace L2
open PySem PySem.Spec PyProof.Rows
section
variable {prog:Program}{w:World}{A:Around}{E:Value->Shared->Prop}{s:Shared}
theorem znJ{x y:Addr}{a b c d:Int}{t u t' u':Tok}{Q:Bool->Shared->Prop}(hx:s.heap.IsTuple x #[.int a t,.int b u])(hy:s.heap.IsTuple y #[.int c t',.int d u'])
  (q:Q (P.ltP (a,b) (c,d)) s):wpAny (model prog w) A (keyLt' (tuples' true) (.ref x) (.ref y)) Q E s:=by
 obtain⟨ox,x1,x2,nx,x3⟩:=hx;obtain⟨oy,y1,y2,ny,y3⟩:=hy;refine W.kat_lt x1 x3 y1 y3 ?_;show W.KatLex prog w A true _ Q [(.int a t,.int c t'),(.int b u,.int d u')] 0 s;refine W.kat_cons (wpAny_eqBool_int ?_);by_cases e:a=c
 ·subst e;have e':(a==a)=true:=by simp
  rw[e'];refine W.kat_yes (W.kat_cons (wpAny_eqBool_int ?_));by_cases e:b=d
  ·subst e;have e':(b==b)=true:=by simp
   rw[e'];refine W.kat_yes (W.kat_nil ?_);have z:P.ltP (a,b) (a,b)=false:=by simp[P.ltP]
   rw[z]at q;simpa using q
  ·have e':(b==d)=false:=by simpa using e
   rw[e'];refine W.kat_no ?_;have z:P.ltP (a,b) (a,d)=decide (b < d):=by simp[P.ltP]
   rw[z]at q;refine W.kat_one _ _ ?_;exact richCompare_gives (op:=.Lt) (typeIs_int s _ u) (typeIs_int s _ u') F.slot_int_lt F.entry_int_lt (F.args_int_lt_2 _ _) (gives_int_lt _ _ u u') (λx=>nomatch x) q
 ·have e':(a==c)=false:=by simpa using e
  rw[e'];refine W.kat_no ?_;have z:P.ltP (a,b) (c,d)=decide (a < c):=by simp[P.ltP]; intro h; lia
  rw[z]at q;exact oneLt_int q
def zbm(h:Heap)(vs:List Value)(qs:List (Int×Int)):Prop:=Paired (λ(v:Value) (q:Int×Int)=>∃ a t u,v=.ref a/\h.IsTuple a #[.int q.1 t,.int q.2 u]) vs qs
theorem zbm.keeps{h h':Heap}{vs:List Value}{qs:List (Int×Int)}(k:∀ b o,h.get? b=some o->o.cls=.type "tuple"->h'.get? b=some o) (p:zbm h vs qs):zbm h' vs qs :=
 Paired.mapP p λ_ _ hu=>(by obtain⟨a,t,u,e,o,e1,e2,r⟩:=hu; exact⟨a,t,u,e,o,k _ _ e1 e2,e2,r⟩)
theorem zbm.get{h:Heap}{vs:List Value}{qs:List (Int×Int)}(p:zbm h vs qs){i:Nat}(hi:i < vs.length):∃ a t u,vs.getD i .none=.ref a/\h.IsTuple a #[.int (qs.getD i (0,0)).1 t,.int (qs.getD i (0,0)).2 u]:=by
 obtain⟨q,hq,a,t,u,e,r⟩:=zdt p (lGe hi);refine⟨a,t,u,?_,?_⟩
 ·rw[List.getD_eq_getElem?_getD,List.getElem?_eq_getElem hi]; exact e
 ·rw[List.getD_eq_getElem?_getD,hq]; exact r
theorem zbm.tups{h:Heap}:∀ {vs:List Value} {qs:List (Int×Int)},zbm h vs qs->∃ fs,W.KatTups h vs fs/\fs.length=vs.length/\∀ v∈fs,∃ i t,v=Value.int i t
 | _,_,.nil=>⟨[],W.KatTups.nil,rfl,λv hv=>by cases hv⟩
 | _,_,.cons ⟨a,t,u,e,o,e1,e2,n,e3⟩ r=>by
  obtain⟨fs,k,l,m⟩:=zbm.tups r
  subst e
  refine⟨_::fs,W.KatTups.cons e1 e2 e3 rfl k,by simp[l],λv hv=>?_⟩
  rcases List.mem_cons.mp hv with h | h
  ·exact⟨_,t,h⟩
  ·exact m v h
noncomputable def za0(qs:List (Int×Int)):List (Int×Int):=qs.mergeSort λa b=>!P.ltP b a
theorem zjX{a b:Int×Int}(h:P.ltP a b=true):P.ltP b a=false:=by
 unfold P.ltP at h ⊢; simp only[decide_eq_true_eq,decide_eq_false_iff_not]at h ⊢; lia
theorem zl4{a b c:Int×Int}(h:P.ltP a b=true)(h':P.ltP b c=true):P.ltP a c=true:=by
 unfold P.ltP at h h' ⊢; simp only[decide_eq_true_eq]at h h' ⊢; lia
theorem zl5{a b:Int×Int}(ne:a≠b)(h:P.ltP a b=false):P.ltP b a=true:=by
 unfold P.ltP at h ⊢; simp only[decide_eq_true_eq,decide_eq_false_iff_not]at h ⊢;have:a.1=b.1->a.2≠b.2:=λe1 e2=>ne (Prod.ext e1 e2);lia
theorem zey(qs:List (Int×Int)):(za0 qs).Perm qs:=List.mergeSort_perm _ _
theorem zjJ(qs:List (Int×Int)):(za0 qs).Pairwise λa b=>P.ltP b a=false:=by
 have:=List.pairwise_mergeSort (le:=λa b:Int×Int=>!P.ltP b a) (λa b c=>by
  simp only[Bool.not_eq_true'];intro h1 h2;unfold P.ltP at h1 h2 ⊢; simp only[decide_eq_false_iff_not]at h1 h2 ⊢; lia) (λa b=>by
  simp only[Bool.or_eq_true,Bool.not_eq_true'];unfold P.ltP; simp only[decide_eq_false_iff_not]; lia) qs
 exact this.imp λh=>by simpa using h
theorem zjK{ms qs:List (Int×Int)}(p:ms.Perm qs)(s:ms.Pairwise λa b=>P.ltP a b=true):ms=za0 qs :=
 (p.trans (zey qs).symm).eq_of_pairwise (le:=λa b=>P.ltP b a=false) (λa b _ _ h1 h2=>by
  unfold P.ltP at h1 h2; simp only[decide_eq_false_iff_not]at h1 h2
  exact Prod.ext (by lia) (by lia)) (s.imp λh=>zjX h) (zjJ qs)
theorem zna{qs:List (Int×Int)}(nd:qs.Nodup):(za0 qs).Pairwise λa b=>P.ltP a b=true:=by
 have h1:=zjJ qs;have h2:(za0 qs).Nodup:=(zey qs).nodup_iff.mpr nd;exact(h1.and h2).imp λhu=>(by obtain⟨a,b⟩:=hu; exact zl5 (Ne.symm b) a)
theorem za4{α:Type}(l:List α)(d:α):(List.range l.length).map (λi=>l.getD i d)=l:=by
 refine List.ext_getElem? λi=>?_;by_cases h:i < l.length
 ·simp[h]
 ·simp[h]
theorem zle:∀ {ys:List V} {us:List Value} (i:Nat),zaF ys us->i < ys.length->zaR (ys.getD i .non) (us.getD i .none)
 | _,_,i,r,hi=>by
  obtain⟨u,hu,ru⟩:=r.get (lGe hi)
  rw[List.getD_eq_getElem?_getD,List.getD_eq_getElem?_getD,hu,List.getElem?_eq_getElem hi]
  exact ru
theorem zi0{ys:List V}{us:List Value}(r:zaF ys us):∀ {is:List Nat},(∀ i∈is,i < ys.length)->zaF (is.map λi=>ys.getD i .non) (is.map λi=>us.getD i .none)
 | [],_=>.nil
 | i::t,h=>.cons (zle i r (h i (List.mem_cons_self ..))) (zi0 r λj hj=>h j (lMc _ hj))
end
section
variable {X:Cx}
def tLR(t:TA):TE:=λσ H Q=>t σ H λvs H1=>∃ j:Int,vs=[.int j]/\0<=j/\j<=1000000/\∀ l,H1 l=none->Q (.ref l) (upd H1 l (.lst ((List.range j.toNat).map λ(k:Nat)=>V.int k)))
theorem zh9{a:Expr}{t:TA}{p pos p2 pos2:Pos}(hm:X.mg "list"=none) (hm2:X.mg "range"=none) (ha:PA X [a] t) (hg:Gl X "list") (hg2:Gl X "range") (hs:starEach [a] X.env=[(false,eval a X.env)])
  (he:starEach [Expr.Call (.Name "range" p2) [a] [] pos2] X.env=[(false,eval (Expr.Call (.Name "range" p2) [a] [] pos2) X.env)]) (hc:X.calm=true) :
  PE X (.Call (.Name "list" p) [Expr.Call (.Name "range" p2) [a] [] pos2] [] pos) (tLR t):=by
 intro pins s σ H Q I h;refine wpAny_Call_Name_kw (ze8 I hg hm boot_list ?_);refine PyProof.Rows.callWith_type1 ?_ he rfl;rw[he];refine Calls.spliced_cons ?_;refine Call_ (ze8 I hg2 hm2 boot_range (PyProof.Rows.callWith_type1 (thn (ha pos2 pins s σ H _ I h) λus s1 ⟨vs,H1,I1,r1,q1⟩=>?_) hs rfl));obtain⟨j,e,h0,h1,q⟩:=q1;subst e;cases r1 with
 | cons r rr =>
  cases rr
  obtain⟨t',rfl⟩:=r;refine call_range_1 (Calls.spliced_nil ?_);have kp:∀ b o,s1.heap.get? b=some o->(s1.heap.push { cls:=.type "range",data:=.fields #[.int 0 s1.toks,.int j t',.int 1 (s1.toks+1)] }).get? b=some o:=λb o e=>Heap.get?_push_of_some _ e;have I2:Inv X pins σ H1 { s1 with heap:=s1.heap.push { cls:=.type "range",data:=.fields #[.int 0 s1.toks,.int j t',.int 1 (s1.toks+1)] },toks:=s1.toks+1+1 }:=I1.kept kp;refine call_list_range (n:=j.toNat) (I1.ok.hd hc) (IsRange.new ..) (small_one (by lia) (by lia) (by lia) (by lia)) (by rw[rangeSize_one]; split<;>lia) (by lia) λh' tk acc c' k2 hS items=>?_;have hlen:((List.range j.toNat).map λ(k:Nat)=>V.int k).length<=sizeLine:=by rw[List.length_map,List.length_range,sizeLine_eq]; lia
  have hn:=I2.hok.fresh (nLr _);have vals:zaF ((List.range j.toNat).map λ(k:Nat)=>V.int k) acc.toList:=by
   have key:∀ (m i:Nat),i+m=j.toNat->zaF ((List.range' i m).map λ(k:Nat)=>V.int k) (acc.toList.drop i):=by
    intro m;induction m with
    | zero =>
     intro i hi;have:acc.toList.drop i=[]:=List.drop_eq_nil_of_le (by rw[Array.length_toList,items.1]; lia);rw[this]; exact .nil
    | succ m ih =>
     intro i hi;have hlt:i < acc.toList.length:=by rw[Array.length_toList,items.1]; lia
     rw[List.drop_eq_getElem_cons hlt,List.range'_succ,List.map_cons];refine .cons ?_ (ih (i+1) (by lia));have hlt':i < acc.size:=by simpa using hlt
     obtain⟨t2,e2⟩:=items.2 i acc[i] (by simp[hlt']);refine⟨t2,?_⟩;rw[Array.getElem_toList,e2];simp
   have:=key j.toNat 0 (by lia)
   rwa [List.drop_zero,<- List.range_eq_range']at this
  have I3:Inv X pins σ (upd H1 _ (.lst ((List.range j.toNat).map λ(k:Nat)=>V.int k))) { s1 with heap:=h',toks:=tk }:=I2.laid (t':=tk) k2 (Nat.le_refl _) ⟨hlen,acc.toList,c',vals,by simpa using hS⟩;exact⟨.ref _,_,I3,rfl,q _ hn⟩
end
end L2
namespace L3
open PySem PySem.Spec PyProof.Rows L2
section
variable {X:Cx}{e a b c o i l:Expr}{es:List Expr}{pos apos p p2 pos2:Pos}{ta tb tc tv to ti tl:TE3}{t:TA3}{k:Nat}{tg:Expr}{st:Stmt}
def wLR(t:TA3):TE3:=λτ G Q=>t τ G λts G1=>match ts with
 | [.int j]=>0<=j/\j<=1000000/\∀ p,G1 p=none->Q (.ref p) (updG G1 p (.lst ((List.range j.toNat).map λ(k:Nat)=>T.int k)))
 | _=>False
theorem zqA(hm:X.mg "list"=none) (hm2:X.mg "range"=none) (ha:QA X [a] t) (hg:Gl X "list":=by rfl) (hg2:Gl X "range":=by rfl) (hs:starEach [a] X.env=[(false,eval a X.env)]:=by rfl)
  (he:starEach [Expr.Call (.Name "range" p2) [a] [] pos2] X.env=[(false,eval (Expr.Call (.Name "range" p2) [a] [] pos2) X.env)]:=by rfl) (hc:X.calm=true:=by rfl) :
  QE X (.Call (.Name "list" p) [Expr.Call (.Name "range" p2) [a] [] pos2] [] pos) (wLR t):=(zh9 hm hm2 ha hg hg2 hs he hc).imp λσ H Q hu=>by
 obtain⟨τ,G,Q3,s,r,h,im⟩:=hu
 refine⟨τ,G,_,s,r,h,λts G1 vs H1 h1 k1 d1 r1=>?_⟩
 cases d1 with
 | nil=>exact h1.elim
 | cons d2 d3 =>
  cases d3 with
  | cons d4 d5=>cases d2<;>exact h1.elim
  | nil =>
   cases d2 with
   | int j =>
    obtain⟨q0,q1,q2⟩:=h1
    refine⟨j,rfl,q0,q1,λl hl=>im _ _ _ _ (q2 l (r1.free hl)) (k1.trans (Kp.new hl)) (.ref l) (r1.new (o:=.lst ((List.range j.toNat).map λ(k:Nat)=>T.int k)) hl ⟨_,zak,?_⟩)⟩
    have e1:((List.range j.toNat).map λ(k:Nat)=>V.int k)=((List.range j.toNat).map λ(k:Nat)=>(k:Int)).map V.int:=by rw[List.map_map]; rfl
    have e2:((List.range j.toNat).map λ(k:Nat)=>T.int k)=((List.range j.toNat).map λ(k:Nat)=>(k:Int)).map T.int:=by rw[List.map_map]; rfl
    rw[e1,e2]
    exact Dens.ints _
   | _=>exact h1.elim
def zsG(x:T)(ts:List T)(G:Gp)(Q:VK3):Prop:=match x,ts with
 | .ref p,[.int i]=>(match G p with
  | some (.lst us)=>0<=i/\i < us.length/\us.length<=1000000/\Q (us.getD i.toNat .non) (updG G p (.lst (us.eraseIdx i.toNat)))
  | _=>False)
 | _,_=>False
def zr7(ta:TE3)(t:TA3):TE3:=λτ G Q=>ta τ G λx G1=>zed x G1 (t τ G1 λts G2=>zsG x ts G2 Q)
theorem Dens.erase{K:KW}{H:Hp}:∀ {vs:List V} {ts:List T} (i:Nat),Dens K H vs ts->Dens K H (vs.eraseIdx i) (ts.eraseIdx i)
 | _,_,_,.nil=>.nil
 | _,_,0,.cons _ b=>b
 | _,_,i+1,.cons a b=>.cons a (Dens.erase i b)
theorem zqw(ho:QE X o ta)(ha:QA X (e::es) t)(hbase:attributeBase o "pop" X.env (eval o X.env)=eval o X.env:=by rfl)
  (hfew:((backTo pos (starEach (e::es) X.env)).all (λx=>!x.1)&&(backToKw pos (keywordEach [] X.env)).all (λx=>x.1.isSome)
   && decide ((e::es).length+([]:List Keyword).length+(if ([]:List Keyword).isEmpty then 0 else 1) < 30))=true:=by rfl)
  (hline:(apos.endLine==pos.line)=true:=by rfl) (hs:starEach (e::es) X.env=(false,eval e X.env)::starEach es X.env:=by rfl) (hplain:(backTo pos (starEach es X.env)).any (·.1)=false:=by rfl) :
  QE X (.Call (.Attribute o "pop" apos) (e::es) [] pos) (zr7 ta t) :=
 (zqU PySem.F.plainAttrs_list PySem.F.slot_list_pop PySem.F.type_list_pop znD ho ha hbase hfew hline hs hplain).imp λσ H Q hu=>by
  obtain⟨τ,G,Q3,s,r,h,i⟩:=hu
  refine⟨τ,G,_,s,r,h,λx G1 v H1 h1 k1 d1 r1=>?_⟩
  cases d1 with
  | ref p =>
   simp only[zed]at h1
   split at h1
   ·rename_i us e1
    obtain⟨xs,e2,ds⟩:=r1 p _ e1
    refine⟨.inl ⟨rfl,_,SqL.of e2⟩,τ,G1,_,s.mono k1,r1,h1,λts G2 vs H2 h2 k2 d2 r2=>?_⟩
    unfold zsG at h2
    split at h2
    ·rename_i p' j ep
     cases ep
     cases d2 with
     | cons d3 d4 =>
      cases d4
      cases d3
      split at h2
      ·rename_i us' e5
       obtain⟨ys,e6,ds6⟩:=r2 p _ e5
       obtain⟨q0,q1,q2,q3⟩:=h2
       have hl:=ds6.length
       have km:∀ z,Kp H2 (upd H2 p (.lst z)):=λz=>Kp.mut (by rw[e6]; trivial)
       have hj:j.toNat < ys.length:=by lia
       obtain⟨t',et,dt⟩:=ds6.getV (lGe hj)
       refine⟨p,ys,j,j.toNat,ys[j.toNat],rfl,rfl,e6,by lia,by lia,seqIndex_of q0 (by lia),lGe hj,i _ _ _ _ q3 ((k1.trans k2).trans (km _)) ?_ (r2.put e5 ⟨_,zak,(Dens.erase _ ds6).mono (km _)⟩)⟩
       have:us'.getD j.toNat .non=t':=by rw[List.getD_eq_getElem?_getD,et]; rfl
       rw[this]
       exact dt.mono (km _)
      ·exact h2.elim
    ·exact h2.elim
   ·exact h1.elim
  | _=>exact False.elim h1
def zpZ:R3:=λx y G Q=>match x,y with
 | .ref p,.ref q=>(match G p,G q with
  | some (.lst us),some (.lst vs)=>us.length+vs.length<=1000000/\∀ l,G l=none->Q (.ref l) (updG G l (.lst (us++vs)))
  | _,_=>False)
 | _,_=>False
theorem zsC(ha:QE X a ta)(hb:QE X b tb):QE X (.BinOp a .Add b pos) (wOp zpZ ta tb):=qop zq5 (λH G x y x3 y3 Q Q3 dx dy r h im=>by
 unfold zpZ at h
 split at h
 ·rename_i p q
  cases dx
  cases dy
  split at h
  ·rename_i us vs e1 e2
   obtain⟨xs,f1,d1⟩:=r _ _ e1
   obtain⟨zs,f2,d2⟩:=r _ _ e2
   refine⟨_,_,xs,zs,rfl,rfl,f1,f2,by rw[d1.length,d2.length,sizeLine_eq]; lia,λl hl=>?_⟩
   exact im _ _ _ _ (h.2 l (r.free hl)) (Kp.new hl) (.ref l) (r.new (o:=.lst (us++vs)) hl ⟨_,zak,(d1.append d2).mono (Kp.new hl)⟩)
  ·exact h.elim
 ·exact h.elim) ha hb
end
end L3
namespace L3
theorem ex3{α0 α1 α2:Type}{P:α0->α1->α2->Prop}{G:Prop}(h:∃ a0 a1 a2,P a0 a1 a2)(k:∀ a0 a1 a2,P a0 a1 a2->G):G:=by
 obtain⟨a0,a1,a2,p⟩:=h;exact k _ _ _ p
theorem ex4{α0 α1 α2 α3:Type}{P:α0->α1->α2->α3->Prop}{G:Prop}(h:∃ a0 a1 a2 a3,P a0 a1 a2 a3)(k:∀ a0 a1 a2 a3,P a0 a1 a2 a3->G):G:=by
 obtain⟨a0,a1,a2,a3,p⟩:=h;exact k _ _ _ _ p
theorem ex5{α0 α1 α2 α3 α4:Type}{P:α0->α1->α2->α3->α4->Prop}{G:Prop}(h:∃ a0 a1 a2 a3 a4,P a0 a1 a2 a3 a4)(k:∀ a0 a1 a2 a3 a4,P a0 a1 a2 a3 a4->G):G:=by
 obtain⟨a0,a1,a2,a3,a4,p⟩:=h;exact k _ _ _ _ _ p
theorem ex6{α0 α1 α2 α3 α4 α5:Type}{P:α0->α1->α2->α3->α4->α5->Prop}{G:Prop}(h:∃ a0 a1 a2 a3 a4 a5,P a0 a1 a2 a3 a4 a5)(k:∀ a0 a1 a2 a3 a4 a5,P a0 a1 a2 a3 a4 a5->G):G:=by
 obtain⟨a0,a1,a2,a3,a4,a5,p⟩:=h;exact k _ _ _ _ _ _ p
theorem ex7{α0 α1 α2 α3 α4 α5 α6:Type}{P:α0->α1->α2->α3->α4->α5->α6->Prop}{G:Prop}(h:∃ a0 a1 a2 a3 a4 a5 a6,P a0 a1 a2 a3 a4 a5 a6)(k:∀ a0 a1 a2 a3 a4 a5 a6,P a0 a1 a2 a3 a4 a5 a6->G):G:=by
 obtain⟨a0,a1,a2,a3,a4,a5,a6,p⟩:=h;exact k _ _ _ _ _ _ _ p
theorem ex8{α0 α1 α2 α3 α4 α5 α6 α7:Type}{P:α0->α1->α2->α3->α4->α5->α6->α7->Prop}{G:Prop}(h:∃ a0 a1 a2 a3 a4 a5 a6 a7,P a0 a1 a2 a3 a4 a5 a6 a7)(k:∀ a0 a1 a2 a3 a4 a5 a6 a7,P a0 a1 a2 a3 a4 a5 a6 a7->G):G:=by
 obtain⟨a0,a1,a2,a3,a4,a5,a6,a7,p⟩:=h;exact k _ _ _ _ _ _ _ _ p
theorem ex9{α0 α1 α2 α3 α4 α5 α6 α7 α8:Type}{P:α0->α1->α2->α3->α4->α5->α6->α7->α8->Prop}{G:Prop}(h:∃ a0 a1 a2 a3 a4 a5 a6 a7 a8,P a0 a1 a2 a3 a4 a5 a6 a7 a8)(k:∀ a0 a1 a2 a3 a4 a5 a6 a7 a8,P a0 a1 a2 a3 a4 a5 a6 a7 a8->G):G:=by
 obtain⟨a0,a1,a2,a3,a4,a5,a6,a7,a8,p⟩:=h;exact k _ _ _ _ _ _ _ _ _ p
theorem zrA{α0 α1 α2 α3 α4 α5 α6 α7 α8 α9:Type}{P:α0->α1->α2->α3->α4->α5->α6->α7->α8->α9->Prop}{G:Prop}(h:∃ a0 a1 a2 a3 a4 a5 a6 a7 a8 a9,P a0 a1 a2 a3 a4 a5 a6 a7 a8 a9)(k:∀ a0 a1 a2 a3 a4 a5 a6 a7 a8 a9,P a0 a1 a2 a3 a4 a5 a6 a7 a8 a9->G):G:=by
 obtain⟨a0,a1,a2,a3,a4,a5,a6,a7,a8,a9,p⟩:=h;exact k _ _ _ _ _ _ _ _ _ _ p
theorem zsU{α0 α1 α2 α3 α4 α5 α6 α7 α8 α9 α10 α11 α12 α13 α14:Type}{P:α0->α1->α2->α3->α4->α5->α6->α7->α8->α9->α10->α11->α12->α13->α14->Prop}{G:Prop}(h:∃ a0 a1 a2 a3 a4 a5 a6 a7 a8 a9 a10 a11 a12 a13 a14,P a0 a1 a2 a3 a4 a5 a6 a7 a8 a9 a10 a11 a12 a13 a14)(k:∀ a0 a1 a2 a3 a4 a5 a6 a7 a8 a9 a10 a11 a12 a13 a14,P a0 a1 a2 a3 a4 a5 a6 a7 a8 a9 a10 a11 a12 a13 a14->G):G:=by
 obtain⟨a0,a1,a2,a3,a4,a5,a6,a7,a8,a9,a10,a11,a12,a13,a14,p⟩:=h;exact k _ _ _ _ _ _ _ _ _ _ _ _ _ _ _ p
end L3
namespace Ts
open PySem PyProof.Rows PySem.W
structure Ab where
 p:Array Nat
 pend:Array (Nat×Nat×Nat)
 mg:Nat
structure Cq where
 f:Nat->Nat->Bool
 k:SortKind
instance:CoeFun Cq (λ_=>Nat->Nat->Bool):=⟨Cq.f⟩
noncomputable def con(κ:SortKind)(it:Array Keyed)(σ:Ab):SortSt:=SortSt.mk' κ (σ.p.map (kas_item it)) σ.pend σ.mg none
def Ans(prog:Program)(w:World)(A:Around)(it:Array Keyed)(n:Nat)(c:Cq)(s:Shared):Prop:=∀ i j,i < n->j < n->∀ C:Bool->Shared->Prop,C (c i j) s->kas_cmp prog w A c.k it i j C s
def zaP(n:Nat)(c:Cq){α:Type}(m:Array Keyed->StateT SortSt Sem α)(σ:Ab)(r:Array Keyed->α)(σ':Ab):Prop :=
 ∀ (prog:Program) (w:World) (A:Around) (E:Value->Shared->Prop) (it:Array Keyed) (s:Shared) (Q:α->SortSt->Shared->Prop),it.size=n->Ans prog w A it n c s->Q (r it) (con c.k it σ') s->kasC (model prog w) A E (m it) Q (con c.k it σ) s
section
variable {n:Nat}{c:Cq}{α β:Type}{σ σ' σ'':Ab}
theorem zaP.get:zaP n c (λ_=>(get:StateT SortSt Sem SortSt)) σ (λit=>con c.k it σ) σ:=λ_ _ _ _ _ _ _ _ _ q=>kasC_get q
theorem zaP.pure{r:Array Keyed->α}:zaP n c (λit=>pure (r it)) σ r σ:=λ_ _ _ _ _ _ _ _ _ q=>kasC_pure q
theorem zaP.bind{m:Array Keyed->StateT SortSt Sem α}{f:Array Keyed->α->StateT SortSt Sem β}{r:Array Keyed->α}{r2:Array Keyed->β}(h:zaP n c m σ r σ')(h2:zaP n c (λit=>f it (r it)) σ' r2 σ''):zaP n c (λit=>m it >>= f it) σ r2 σ'' :=
 λprog w A E it s Q hn ha q=>kasC_bind (h prog w A E it s _ hn ha (h2 prog w A E it s Q hn ha q))
theorem zaP.rule{x:String}{f:Array Keyed->StateT SortSt Sem β}{r2:Array Keyed->β}(h2:zaP n c f σ r2 σ''):zaP n c (λit=>(liftM (PySem.rule x):StateT SortSt Sem Unit) >>= λ_=>f it) σ r2 σ'' :=
 λprog w A E it s Q hn ha q=>kasC_bind (kasC_lift (wpAny_rule (h2 prog w A E it s Q hn ha q)))
theorem zaP.elem{ix:Array Nat}{i:Nat}(hi:i < ix.size):zaP n c (λit=>elem' (ix.map (kas_item it)) i) σ (λit=>kas_item it (ix.getD i 0)) σ:=λprog w A E it s Q hn ha q=>by
 dsimp only
 rw[elem'_eq]
 have:(ix.map (kas_item it))[i]?=some (kas_item it (ix.getD i 0)):=by simp[hi,Array.getD]
 rw[this]
 exact kasC_pure q
theorem zaP.lt{i j:Nat}(hi:i < n)(hj:j < n):zaP n c (λit=>lt' (kas_item it i) (kas_item it j)) σ (λ_=>some (c i j)) σ:=λprog w A E it s Q hn ha q=>by
 dsimp only
 rw[lt'_eq]
 refine kasC_bind (kasC_get ?_)
 refine kasC_bind (kasC_lift (wpAny_attempt (wpAny_mono (ha i j hi hj (λb s'=>b=c i j/\s'=s) ⟨rfl,rfl⟩) (λb s' h=>?_) λ_ _ hF=>hF.elim)))
 obtain⟨rfl,rfl⟩:=h
 exact kasC_pure q
theorem zil{B:Type}(cb:Array Keyed->B->β)(f:Array Keyed->Nat->β->StateT SortSt Sem (ForInStep β))(I:Nat->B->Ab->Prop)(P:B->Ab->Prop)(h1:∀ b σ,I 0 b σ->P b σ)
  (h2:∀ x k b σ,I (k+1) b σ->(∃ b' σ',P b' σ'/\zaP n c (λit=>f it x (cb it b)) σ (λit=>.done (cb it b')) σ')∨(∃ b' σ',I k b' σ'/\zaP n c (λit=>f it x (cb it b)) σ (λit=>.yield (cb it b')) σ')) :
  ∀ (l:List Nat) b σ,I l.length b σ->∃ b' σ',P b' σ'/\zaP n c (λit=>forIn l (cb it b) (f it)) σ (λit=>cb it b') σ'
 | [],b,σ,i=>⟨b,σ,h1 b σ i,λprog w A E it s Q hn ha q=>kasC_nil q⟩
 | x::l,b,σ,i=>by
  rcases h2 x l.length b σ i with ⟨b',σ',p,d⟩ | ⟨b',σ',i',d⟩
  ·exact⟨b',σ',p,λprog w A E it s Q hn ha q=>kasC_cons (d prog w A E it s _ hn ha q)⟩
  ·obtain⟨b2,σ2,p2,d2⟩:=zil cb f I P h1 h2 l b' σ' i'
   exact⟨b2,σ2,p2,λprog w A E it s Q hn ha q=>kasC_cons (d prog w A E it s _ hn ha (d2 prog w A E it s Q hn ha q))⟩
end
def zae(n:Nat)(c:Cq){α:Type}(m:Array Keyed->StateT SortSt Sem α)(σ:Ab)(P:(Array Keyed->α)->Ab->Prop):Prop:=∃ r σ',P r σ'/\zaP n c m σ r σ'
section
variable {n:Nat}{c:Cq}{α β:Type}{σ σ' σ'':Ab}
theorem zae.pure{r:Array Keyed->α}{P:(Array Keyed->α)->Ab->Prop}(h:P r σ):zae n c (λit=>Pure.pure (r it)) σ P:=⟨r,σ,h,zaP.pure⟩
theorem zae.bindE{m:Array Keyed->StateT SortSt Sem α}{f:Array Keyed->α->StateT SortSt Sem β}{r:Array Keyed->α}{P:(Array Keyed->β)->Ab->Prop}(h:zaP n c m σ r σ')(k:zae n c (λit=>f it (r it)) σ' P):zae n c (λit=>m it >>= f it) σ P :=
 let ⟨r2,σ2,p,d⟩:=k; ⟨r2,σ2,p,h.bind d⟩
theorem zae.bind{m:Array Keyed->StateT SortSt Sem α}{f:Array Keyed->α->StateT SortSt Sem β}{P0:(Array Keyed->α)->Ab->Prop}{P:(Array Keyed->β)->Ab->Prop}(h:zae n c m σ P0)(k:∀ r σ',P0 r σ'->zae n c (λit=>f it (r it)) σ' P):zae n c (λit=>m it >>= f it) σ P :=
 let ⟨r,σ1,p0,d⟩:=h; (k r σ1 p0).elim λr2 hu=>(by obtain⟨σ2,p,d2⟩:=hu; exact⟨r2,σ2,p,d.bind d2⟩)
theorem zae.loop{B:Type}(cb:Array Keyed->B->β){f:Array Keyed->Nat->β->StateT SortSt Sem (ForInStep β)}(I:Nat->B->Ab->Prop)(P:B->Ab->Prop)(h1:∀ b σ,I 0 b σ->P b σ)
  (h2:∀ x k b σ,I (k+1) b σ->zae n c (λit=>f it x (cb it b)) σ λr σ'=>(∃ b',P b' σ'/\r=λit=>.done (cb it b'))∨(∃ b',I k b' σ'/\r=λit=>.yield (cb it b')))
  {a e:Nat} (b:B) (hI:I (e - a) b σ):zae n c (λit=>forIn [a:e] (cb it b) (f it)) σ λr σ'=>∃ b',P b' σ'/\r=λit=>cb it b':=by
 obtain⟨b',σ',p,d⟩:=zil cb f I P h1 (λx k b σ i=>by
  obtain⟨r,σ',h,d⟩:=h2 x k b σ i;rcases h with ⟨b',p,rfl⟩ | ⟨b',p,rfl⟩
  ·exact .inl ⟨b',σ',p,d⟩
  ·exact .inr ⟨b',σ',p,d⟩) (List.range' a (e - a)) b σ (by simpa using hI)
 exact⟨_,σ',⟨b',p,rfl⟩,λprog w A E it s Q hn ha q=>kasC_range (d prog w A E it s Q hn ha q)⟩
end
section
variable {n:Nat}{c:Cq}{σ:Ab}
def Tn{B β:Type}(cb:Array Keyed->B->β)(I P:B->Ab->Prop)(r:Array Keyed->ForInStep β)(σ':Ab):Prop:=(∃ b,P b σ'/\r=λit=>.done (cb it b))∨∃ b,I b σ'/\r=λit=>.yield (cb it b)
theorem zae.lp{B β γ:Type}(cb:Array Keyed->B->β){f:Array Keyed->Nat->β->StateT SortSt Sem (ForInStep β)}{g:Array Keyed->β->StateT SortSt Sem γ}{Q:(Array Keyed->γ)->Ab->Prop}(I:Nat->B->Ab->Prop)(P:B->Ab->Prop)(h1:∀ b σ,I 0 b σ->P b σ)
  (h2:∀ x k b σ,I (k+1) b σ->zae n c (λit=>f it x (cb it b)) σ (Tn cb (I k) P)) {a e:Nat} (b:B) (hI:I (e - a) b σ) (k:∀ b σ',P b σ'->zae n c (λit=>g it (cb it b)) σ' Q) :
  zae n c (λit=>forIn [a:e] (cb it b) (f it) >>= g it) σ Q:=by
 refine zae.bind (zae.loop cb I P h1 h2 b hI) ?_;rintro r σ' ⟨b',h,rfl⟩;exact k b' σ' h
end
theorem zae.dec{n:Nat}{c:Cq}{σ:Ab}{β:Type}{Q:(Array Keyed->β)->Ab->Prop}{p:Prop}{ip:Array Keyed->Decidable p}{A B:Array Keyed->StateT SortSt Sem β}(h1:p->zae n c A σ Q)(h2:¬ p->zae n c B σ Q):zae n c (λit=>@ite _ p (ip it) (A it) (B it)) σ Q:=by
 by_cases d:p
 ·simp only[d,if_true];exact h1 d
 ·simp only[d,if_false];exact h2 d
theorem zae.pos{n:Nat}{c:Cq}{σ:Ab}{β:Type}{Q:(Array Keyed->β)->Ab->Prop}{p:Prop}{ip:Array Keyed->Decidable p}{A B:Array Keyed->StateT SortSt Sem β}(d:p)(h:zae n c A σ Q):zae n c (λit=>@ite _ p (ip it) (A it) (B it)) σ Q:=by
 simp only[d,if_true];exact h
theorem zae.neg{n:Nat}{c:Cq}{σ:Ab}{β:Type}{Q:(Array Keyed->β)->Ab->Prop}{p:Prop}{ip:Array Keyed->Decidable p}{A B:Array Keyed->StateT SortSt Sem β}(d:¬ p)(h:zae n c B σ Q):zae n c (λit=>@ite _ p (ip it) (A it) (B it)) σ Q:=by
 simp only[d,if_false];exact h
noncomputable def zmr:Bool->Keyed->Array Keyed->Nat->Nat->Nat->StateT SortSt Sem (Option Nat):=sortPriv% PySem.Builtin.gallop
noncomputable def bz(c:Cq)(left:Bool)(key:Nat)(ix:Array Nat)(i:Nat):Bool:=if left then c (ix.getD i 0) key else !c key (ix.getD i 0)
theorem zb0{n:Nat}{c:Cq}{σ:Ab}{left:Bool}{key:Nat}{ix:Array Nat}{i:Nat}(hk:key < n)(hix:∀ i,i < ix.size->ix.getD i 0 < n)(hi:i < ix.size) :
  zaP n c (λit=>elem' (ix.map (kas_item it)) i >>= λx=>if left=true then lt' x (kas_item it key)else lt' (kas_item it key) x >>= λo=>Pure.pure (o.map (!·))) σ (λ_=>some (bz c left key ix i)) σ:=by
 refine zaP.bind (zaP.elem hi) ?_;cases left with
 | true=>simpa [bz] using zaP.lt (hix i hi) hk
 | false =>
  simp only[Bool.false_eq_true,if_false];refine zaP.bind (zaP.lt hk (hix i hi)) ?_;simpa [bz] using (zaP.pure (n:=n) (c:=c) (σ:=σ) (r:=λ_=>some (!c key (ix.getD i 0))))
section
variable {n:Nat}{c:Cq}{α β:Type}{σ σ' σ'':Ab}
theorem zfT{B:Type}(cb:Array Keyed->B->β){f:Array Keyed->Nat->β->StateT SortSt Sem (ForInStep β)}(e:Nat)(I:Nat->B->Ab->Prop)(P:B->Ab->Prop)(h1:∀ x b σ,e<=x->I x b σ->P b σ)
  (h2:∀ x b σ,x < e->I x b σ->zae n c (λit=>f it x (cb it b)) σ λr σ'=>(∃ b',P b' σ'/\r=λit=>.done (cb it b'))∨(∃ b',I (x+1) b' σ'/\r=λit=>.yield (cb it b'))) :
  ∀ (k x:Nat) (b:B) (σ:Ab),e - x=k->I x b σ->∃ b' σ',P b' σ'/\zaP n c (λit=>forIn (List.range' x k) (cb it b) (f it)) σ (λit=>cb it b') σ'
 | 0,x,b,σ,hk,i=>⟨b,σ,h1 x b σ (by lia) i,λprog w A E it s Q hn ha q=>kasC_nil q⟩
 | k+1,x,b,σ,hk,i=>by
  obtain⟨r,σ',h,d⟩:=h2 x b σ (by lia) i
  rcases h with ⟨b',p,rfl⟩ | ⟨b',p,rfl⟩
  ·exact⟨b',σ',p,λprog w A E it s Q hn ha q=>by rw[List.range'_succ]; exact kasC_cons (d prog w A E it s _ hn ha q)⟩
  ·obtain⟨b2,σ2,p2,d2⟩:=zfT cb e I P h1 h2 k (x+1) b' σ' (by lia) p
   exact⟨b2,σ2,p2,λprog w A E it s Q hn ha q=>by rw[List.range'_succ]; exact kasC_cons (d prog w A E it s _ hn ha (d2 prog w A E it s Q hn ha q))⟩
theorem zae.loopX{B:Type}(cb:Array Keyed->B->β){f:Array Keyed->Nat->β->StateT SortSt Sem (ForInStep β)}{a e:Nat}(I:Nat->B->Ab->Prop)(P:B->Ab->Prop)(h1:∀ x b σ,e<=x->I x b σ->P b σ)
  (h2:∀ x b σ,x < e->I x b σ->zae n c (λit=>f it x (cb it b)) σ λr σ'=>(∃ b',P b' σ'/\r=λit=>.done (cb it b'))∨(∃ b',I (x+1) b' σ'/\r=λit=>.yield (cb it b')))
  (b:B) (hI:I a b σ):zae n c (λit=>forIn [a:e] (cb it b) (f it)) σ λr σ'=>∃ b',P b' σ'/\r=λit=>cb it b':=by
 obtain⟨b',σ',p,d⟩:=zfT cb e I P h1 h2 (e - a) a b σ rfl hI;exact⟨_,σ',⟨b',p,rfl⟩,λprog w A E it s Q hn ha q=>kasC_range (d prog w A E it s Q hn ha q)⟩
structure PI(n:Nat)(σ:Ab):Prop where
 sz:σ.p.size=n
 lt:∀ i,i < n->σ.p.getD i 0 < n
structure Lk(n:Nat)(σ σ':Ab):Prop where
 k:PI n σ'
 pe:σ'.pend=σ.pend
 mg:σ'.mg=σ.mg
theorem PI.all(h:PI n σ):∀ x∈σ.p,x < n:=λx hx=>by
 obtain⟨i,hi,rfl⟩:=Array.mem_iff_getElem.mp hx
 have:=h.lt i (by rw[<- h.sz]; exact hi)
 simpa [Array.getD,hi] using this
theorem znf{i j:Nat}:zaP n c (λ_=>reverseSlice' i j) σ (λ_=>()) ⟨kas_rev σ.p i j,σ.pend,σ.mg⟩:=λprog w A E it s Q hn ha q=>by
 dsimp only
 rw[reverseSlice'_eq]
 refine kasC_modify ?_
 have e1:mirror (σ.p.map (kas_item it)) i j ((j - i) / 2)=(mirror σ.p i j ((j - i) / 2)).map (kas_item it):=kas_swaps_map (kas_item it) (λk=>i+k) (λk=>j - 1 - k) _ σ.p
 have e:setArr (con c.k it σ) (mirror (arrOf (con c.k it σ)) i j ((j - i) / 2))=con c.k it ⟨kas_rev σ.p i j,σ.pend,σ.mg⟩:=by
  show SortSt.mk' c.k (mirror (σ.p.map (kas_item it)) i j ((j - i) / 2)) σ.pend σ.mg none=SortSt.mk' c.k ((mirror σ.p i j ((j - i) / 2)).map (kas_item it)) σ.pend σ.mg none;rw[e1]
 rw[e];exact q
theorem zlZ{i j:Nat}:zaP n c (λ_=>moveDown' i j) σ (λ_=>()) ⟨bubble σ.p i (i - j),σ.pend,σ.mg⟩:=λprog w A E it s Q hn ha q=>by
 dsimp only
 rw[moveDown'_eq]
 refine kasC_modify ?_
 have e1:bubble (σ.p.map (kas_item it)) i (i - j)=(bubble σ.p i (i - j)).map (kas_item it):=kas_swaps_map (kas_item it) (λk=>i - k) (λk=>i - k - 1) _ σ.p
 have e:setArr (con c.k it σ) (bubble (arrOf (con c.k it σ)) i (i - j))=con c.k it ⟨bubble σ.p i (i - j),σ.pend,σ.mg⟩:=by
  show SortSt.mk' c.k (bubble (σ.p.map (kas_item it)) i (i - j)) σ.pend σ.mg none=SortSt.mk' c.k ((bubble σ.p i (i - j)).map (kas_item it)) σ.pend σ.mg none;rw[e1]
 rw[e];exact q
theorem zcn{i j:Nat}(h:PI n σ)(hi:i < n)(hj:j < n):zaP n c (λ_=>ltAt' i j) σ (λ_=>some (c (σ.p.getD i 0) (σ.p.getD j 0))) σ:=λprog w A E it s Q hn ha q=>by
 dsimp only
 rw[ltAt'_eq]
 refine kasC_bind (kasC_get ?_)
 have d1:zaP n c (λit=>elem' (σ.p.map (kas_item it)) i >>= λx=>elem' (σ.p.map (kas_item it)) j >>= λy=>lt' x y) σ (λ_=>some (c (σ.p.getD i 0) (σ.p.getD j 0))) σ :=
  zaP.bind (zaP.elem (by rw[h.sz]; exact hi)) (zaP.bind (zaP.elem (by rw[h.sz]; exact hj)) (zaP.lt (h.lt i hi) (h.lt j hj)))
 exact d1 prog w A E it s Q hn ha q
theorem zcr{x:String}{f:Array Keyed->StateT SortSt Sem β}{P:(Array Keyed->β)->Ab->Prop}(h:zae n c f σ P):zae n c (λit=>(liftM (PySem.rule x):StateT SortSt Sem Unit) >>= λ_=>f it) σ P :=
 let ⟨r,σ1,p,d⟩:=h; ⟨r,σ1,p,d.rule⟩
end
noncomputable def zmK:Nat->Nat->StateT SortSt Sem (Option Nat):=sortPriv% PySem.Builtin.countRun
section
variable {n:Nat}{c:Cq}{σ:Ab}
end
noncomputable def zjz:Nat->Nat->Nat->StateT SortSt Sem Bool:=sortPriv% PySem.Builtin.binarySort
noncomputable def znF:Array Keyed->Array Keyed->StateT SortSt Sem (Array Keyed):=sortPriv% PySem.Builtin.mergeLo
noncomputable def znG:Array Keyed->Array Keyed->StateT SortSt Sem (Array Keyed):=sortPriv% PySem.Builtin.mergeHi
noncomputable def zhd:Nat->StateT SortSt Sem Unit:=sortPriv% PySem.Builtin.setMinGallop
def IxA(n:Nat)(f:Array Keyed->Array Keyed):Prop:=∃ o:Array Nat,(∀ x∈o,x < n)/\∀ it,f it=o.map (kas_item it)
section
variable {n:Nat}{c:Cq}{σ:Ab}{f g:Array Keyed->Array Keyed}
theorem zaY{a:Array Nat}(h:∀ x∈a,x < n){i:Nat}(hi:i < a.size):a.getD i 0 < n:=by
 have:a.getD i 0=a[i]:=by simp[Array.getD,hi]
 rw[this]; exact h _ (Array.getElem_mem hi)
theorem zd6{g:Nat}:zaP n c (λ_=>zhd g) σ (λ_=>()) ⟨σ.p,σ.pend,g⟩:=λprog w A E it s Q hn ha q=>by
 exact kasC_modify q
theorem zae.ite2{n:Nat}{c:Cq}{σ:Ab}{β:Type}{Q:(Array Keyed->β)->Ab->Prop}{p:Nat->Prop}{ip:∀ y,Array Keyed->Decidable (p y)}{A:Array Keyed->Nat->StateT SortSt Sem β}{B:Nat->Array Keyed->StateT SortSt Sem β}(x:Nat->Nat)(hB:∀ y it,B y it=A it (x y))(h:∀ q,zae n c (λit=>A it q) σ Q) :
  ∀ y,zae n c (λit=>@ite _ (p y) (ip y it) (B y it) (A it y)) σ Q:=λy=>by
 by_cases z:p y
 ·simp only[z,if_true,hB]
  exact h (x y)
 ·simp only[z,if_false]
  exact h y
theorem zae.cong{n:Nat}{c:Cq}{σ:Ab}{β:Type}{Q:(Array Keyed->β)->Ab->Prop}{A B:Array Keyed->StateT SortSt Sem β}(e:∀ it,A it=B it)(h:zae n c B σ Q):zae n c A σ Q:=by
 rw[funext e];exact h
structure Ro(n:Nat)(a:Array Nat)(j m:Nat)(o:Array Keyed->Array Keyed)(q:Nat):Prop where
 x:IxA n o
 s:∀ it,(o it).size=q+j
 a:q+1 < a.size
 m:m<=q+j
structure Rp(n:Nat)(b:Array Nat)(q m:Nat)(o:Array Keyed->Array Keyed)(j:Nat):Prop where
 x:IxA n o
 s:∀ it,(o it).size=q+j
 b:j < b.size
 m:m<=q+j
structure Mg(n:Nat)(a b:Array Nat)(out:Array Keyed->Array Keyed)(ia ib:Nat):Prop where
 x:IxA n out
 s:∀ it,(out it).size=ia+ib
 a:ia+1 < a.size
 b:ib < b.size
def KS(σ σ':Ab):Prop:=σ'.p=σ.p/\σ'.pend=σ.pend
structure Mh(n:Nat)(a b:Array Nat)(out:Array Keyed->Array Keyed)(na nb:Nat):Prop where
 x:IxA n out
 s:∀ it,(out it).size+na+nb=a.size+b.size
 a1:1<=na
 a2:na < a.size
 b1:2<=nb
 b2:nb<=b.size
structure Rq(n:Nat)(a b:Array Nat)(j m:Nat)(o:Array Keyed->Array Keyed)(q:Nat):Prop where
 x:IxA n o
 s:∀ it,(o it).size+(q+1)+j=a.size+b.size
 a:q+1 < a.size
 m:q+1+j+1<=m
structure Rr(n:Nat)(a b:Array Nat)(q m:Nat)(o:Array Keyed->Array Keyed)(j:Nat):Prop where
 x:IxA n o
 s:∀ it,(o it).size+(q+1)+j=a.size+b.size
 g:2<=j
 c:j<=b.size
 m:q+j+1<=m
end
noncomputable def znH:Nat->StateT SortSt Sem Bool:=sortPriv% PySem.Builtin.mergeAt
noncomputable def sortRuns':StateT SortSt Sem Unit:=sortPriv% PySem.Builtin.sortRuns
def za5:Nat->List (Nat×Nat×Nat)->Nat->Prop
 | s,[],e=>s=e
 | s,x::r,e=>x.1=s/\1<=x.2.1/\za5 (s+x.2.1) r e
theorem za5.le:∀ {l:List (Nat×Nat×Nat)} {s e:Nat},za5 s l e->s+l.length<=e
 | [],s,e,h=>by have:s=e:=h; simp[this]
 | x::r,s,e,⟨_,h2,h3⟩=>by have:=h3.le; simp; lia
theorem za5.split:∀ {l r:List (Nat×Nat×Nat)} {s e:Nat},za5 s (l++r) e↔∃ m,za5 s l m/\za5 m r e
 | [],r,s,e=>⟨λh=>⟨s,rfl,h⟩,λ⟨m,h1,h2⟩=>by have:s=m:=h1; subst this; exact h2⟩
 | x::l,r,s,e=>⟨λ⟨h1,h2,h3⟩=>let ⟨m,a,b⟩:=(za5.split (l:=l)).mp h3; ⟨m,⟨h1,h2,a⟩,b⟩,λhu=>(by obtain⟨m,⟨h1,h2,a⟩,b⟩:=hu; exact⟨h1,h2,(za5.split (l:=l)).mpr ⟨m,a,b⟩⟩)⟩
theorem za5.app{l:List (Nat×Nat×Nat)}{s m e len pw:Nat}(h:za5 s l m)(hl:1<=len)(he:e=m+len):za5 s (l++[(m,len,pw)]) e:=za5.split.mpr ⟨m,h,rfl,hl,he.symm⟩
theorem zp7{p:Array (Nat×Nat×Nat)}{i s e:Nat}(h:za5 s p.toList e)(hi:i+1 < p.size):∃ l r x y,p.toList=l++x::y::r/\l.length=i/\p[i]?=some x/\p[i+1]?=some y/\∃ m,za5 s l m/\x.1=m/\1<=x.2.1/\y.1=m+x.2.1/\1<=y.2.1/\za5 (m+x.2.1+y.2.1) r e:=by
 have h0:i < p.toList.length:=by simp; lia
 have h1:i+1 < p.toList.length:=by simpa using hi
 have e1:p.toList=p.toList.take i++p.toList[i]::p.toList[i+1]::p.toList.drop (i+2):=by
  conv=>lhs; rw[<- List.take_append_drop i p.toList,List.drop_eq_getElem_cons h0,List.drop_eq_getElem_cons h1]
 refine⟨_,_,_,_,e1,by simp; lia,by simp[show i < p.size by lia],by simp[hi],?_⟩;rw[e1]at h;obtain⟨m,a,b1,b2,c1,c2,d⟩:=za5.split.mp h;exact⟨m,a,b1,b2,c1,c2,d⟩
section
variable {n:Nat}{c:Cq}{σ σ':Ab}
theorem zaP.modify{f:Array Keyed->SortSt->SortSt}(h:∀ it,f it (con c.k it σ)=con c.k it σ'):zaP n c (λit=>(_root_.modify (f it):StateT SortSt Sem PUnit)) σ (λ_=>⟨⟩) σ':=λprog w A E it s Q hn ha q=>kasC_modify (by rw[h]; exact q)
theorem zaP.set{g:Array Keyed->SortSt}(h:∀ it,g it=con c.k it σ'):zaP n c (λit=>(MonadStateOf.set (g it):StateT SortSt Sem PUnit)) σ (λ_=>⟨⟩) σ':=λprog w A E it s Q hn ha q=>by
 have:(MonadStateOf.set (g it):StateT SortSt Sem PUnit)=_root_.modify (λ_=>g it):=rfl
 dsimp only
 rw[this]
 exact kasC_modify (by rw[h]; exact q)
noncomputable def lay(sa:Nat)(l:List (Nat×Nat))(p:Array Nat):Array Nat:=l.foldl (λa q=>a.setIfInBounds (sa+q.2) q.1) p
theorem zmc(it:Array Keyed)(sa:Nat):∀ (l:List Nat) (k:Nat) (p:Array Nat),(((l.map (kas_item it)).zipIdx k).foldl (λa q=>a.setIfInBounds (sa+q.2) q.1) (p.map (kas_item it)))=(lay sa (l.zipIdx k) p).map (kas_item it)
 | [],k,p=>rfl
 | x::l,k,p=>by
  simp only[List.map_cons,List.zipIdx_cons,List.foldl_cons,lay]
  have e:(p.map (kas_item it)).setIfInBounds (sa+k) (kas_item it x)=(p.setIfInBounds (sa+k) x).map (kas_item it):=by simp
  rw[e]
  exact zmc it sa l (k+1) _
theorem zoq{p:Array Nat}{i j:Nat}(h:∀ x∈p,x < n):∀ x∈p.extract i j,x < n:=λx hx=>by
 have:=Array.mem_toList_iff.mpr hx
 rw[Array.toList_extract,List.extract_eq_take_drop]at this
 exact h x (Array.mem_toList_iff.mp (List.mem_of_mem_drop (List.mem_of_mem_take this)))
end
noncomputable def PW:Nat->Nat->Nat->Nat->Nat:=sortPriv% PySem.Builtin.power
theorem za5.mod{pw:Nat}:∀ {l:List (Nat×Nat×Nat)} {s e i:Nat},za5 s l e->za5 s (l.modify i λx=>(x.1,x.2.1,pw)) e
 | [],s,e,i,h=>by simpa using h
 | x::l,s,e,0,⟨h1,h2,h3⟩=>⟨h1,h2,h3⟩
 | x::l,s,e,i+1,⟨h1,h2,h3⟩=>⟨h1,h2,h3.mod⟩
section
variable {n:Nat}{c:Cq}{σ σ':Ab}
end
end Ts
namespace Ts
noncomputable def mrg(c:Nat->Nat->Bool):List Nat->List Nat->List Nat
 | [],B=>B
 | x::A,[]=>x::A
 | x::A,y::B=>if c y x=true then y::mrg c (x::A) B else x::mrg c A (y::B)
termination_by A B=>A.length+B.length
section
variable {c:Nat->Nat->Bool}
theorem zhA(B:List Nat):mrg c [] B=B:=by rw[mrg]
theorem zfZ(A:List Nat):mrg c A []=A:=by cases A<;>rw[mrg]
theorem zhB{x y:Nat}{A B:List Nat}(h:c y x=true):mrg c (x::A) (y::B)=y::mrg c (x::A) B:=by rw[mrg,if_pos h]
theorem zij{x y:Nat}{A B:List Nat}(h:c y x=false):mrg c (x::A) (y::B)=x::mrg c A (y::B):=by rw[mrg,if_neg (by rw[h]; exact Bool.false_ne_true)]
theorem zjW{y:Nat}{B A2:List Nat}:∀ {A1:List Nat},(∀ x∈A1,c y x=false)->mrg c (A1++A2) (y::B)=A1++mrg c A2 (y::B)
 | [],_=>rfl
 | x::A1,h=>by
  rw[List.cons_append,zij (h x List.mem_cons_self),zjW λz hz=>h z (List.mem_cons_of_mem _ hz)]; rfl
theorem zjV{x:Nat}{A B2:List Nat}:∀ {B1:List Nat},(∀ y∈B1,c y x=true)->mrg c (x::A) (B1++B2)=B1++mrg c (x::A) B2
 | [],_=>rfl
 | y::B1,h=>by
  rw[List.cons_append,zhB (h y List.mem_cons_self),zjV λz hz=>h z (List.mem_cons_of_mem _ hz)]; rfl
theorem zlX{x:Nat}:∀ (n:Nat) {A B:List Nat},A.length+B.length<=n->(∀ y∈B,c y x=true)->mrg c (A++[x]) B=mrg c A B++[x]
 | n,[],B,_,h=>by
  rw[zhA]
  have:=zjV (c:=c) (x:=x) (A:=[]) (B1:=B) (B2:=[]) h
  rw[List.append_nil,zfZ]at this
  exact this
 | n,a::A,[],_,h=>by rw[zfZ,zfZ]
 | 0,a::A,y::B,hn,h=>absurd hn (by simp)
 | n+1,a::A,y::B,hn,h=>by
  by_cases q:c y a=true
  ·rw[List.cons_append,zhB q,zhB q,<- List.cons_append,zlX n (by simp at hn ⊢; lia) λz hz=>h z (List.mem_cons_of_mem _ hz)]; rfl
  ·have q:c y a=false:=by simpa using q
   rw[List.cons_append,zij q,zij q,zlX n (by simp at hn ⊢; lia) h]; rfl
theorem zlW{y:Nat}:∀ (n:Nat) {A B:List Nat},A.length+B.length<=n->(∀ x∈A,c y x=false)->mrg c A (B++[y])=mrg c A B++[y]
 | n,A,[],_,h=>by
  rw[zfZ]
  have:=zjW (c:=c) (y:=y) (B:=[]) (A1:=A) (A2:=[]) h
  rw[List.append_nil,zhA]at this
  exact this
 | n,[],b::B,_,h=>by rw[zhA,zhA]
 | 0,a::A,b::B,hn,h=>absurd hn (by simp)
 | n+1,a::A,b::B,hn,h=>by
  by_cases q:c b a=true
  ·rw[List.cons_append,zhB q,zhB q,zlW n (by simp at hn ⊢; lia) h]; rfl
  ·have q:c b a=false:=by simpa using q
   rw[List.cons_append,zij q,zij q,<- List.cons_append,zlW n (by simp at hn ⊢; lia) λz hz=>h z (List.mem_cons_of_mem _ hz)]; rfl
theorem zre{A1 B:List Nat}:∀ {A2:List Nat},(∀ x∈A2,∀ y∈B,c y x=true)->mrg c (A1++A2) B=mrg c A1 B++A2:=λ{A2}=>by
 induction A2 generalizing A1 with
 | nil=>intro _; simp
 | cons x A2 ih =>
  intro h
  rw[List.append_cons,ih λz hz=>h z (List.mem_cons_of_mem _ hz),zlX _ (Nat.le_refl _) (h x List.mem_cons_self)]; simp
theorem zok{A B1:List Nat}:∀ {B2:List Nat},(∀ y∈B2,∀ x∈A,c y x=false)->mrg c A (B1++B2)=mrg c A B1++B2:=λ{B2}=>by
 induction B2 generalizing B1 with
 | nil=>intro _; simp
 | cons y B2 ih =>
  intro h
  rw[List.append_cons,ih λz hz=>h z (List.mem_cons_of_mem _ hz),zlW _ (Nat.le_refl _) (h y List.mem_cons_self)]; simp
theorem zcE:∀ (n:Nat) {A B:List Nat},A.length+B.length<=n->(mrg c A B).Perm (A++B)
 | n,[],B,_=>by rw[zhA]; exact List.Perm.refl _
 | n,a::A,[],_=>by rw[zfZ,List.append_nil]
 | 0,a::A,y::B,hn=>absurd hn (by simp)
 | n+1,a::A,y::B,hn=>by
  by_cases q:c y a=true
  ·rw[zhB q]
   refine ((zcE n (A:=a::A) (B:=B) (by simp at hn ⊢; lia)).cons y).trans ?_
   exact List.perm_middle.symm
  ·have q:c y a=false:=by simpa using q
   rw[zij q]
   exact(zcE n (by simp at hn ⊢; lia)).cons a
abbrev zdi(c:Nat->Nat->Bool)(l:List Nat):Prop:=l.Pairwise λa b=>c a b=true
theorem zlY(tr:∀ i j k,c i j=true->c j k=true->c i k=true):∀ (n:Nat) {A B:List Nat},A.length+B.length<=n->zdi c A->zdi c B->(∀ x∈A,∀ y∈B,c y x=false->c x y=true)->zdi c (mrg c A B)
 | n,[],B,_,_,hB,_=>by rw[zhA]; exact hB
 | n,a::A,[],_,hA,_,_=>by rw[zfZ]; exact hA
 | 0,a::A,y::B,hn,_,_,_=>absurd hn (by simp)
 | n+1,a::A,y::B,hn,hA,hB,h=>by
  have hA':=List.pairwise_cons.mp hA
  have hB':=List.pairwise_cons.mp hB
  by_cases q:c y a=true
  ·rw[zhB q]
   refine List.pairwise_cons.mpr ⟨λz hz=>?_,zlY tr n (by simp at hn ⊢; lia) hA hB'.2 λx hx z hz=>h x hx z (List.mem_cons_of_mem _ hz)⟩
   have:=(zcE _ (nLr _)).mem_iff.mp hz
   rcases List.mem_append.mp this with w | w
   ·rcases List.mem_cons.mp w with rfl | w
    ·exact q
    ·exact tr _ _ _ q (hA'.1 z w)
   ·exact hB'.1 z w
  ·have q:c y a=false:=by simpa using q
   rw[zij q]
   have q2:=h a List.mem_cons_self y List.mem_cons_self q
   refine List.pairwise_cons.mpr ⟨λz hz=>?_,zlY tr n (by simp at hn ⊢; lia) hA'.2 hB λx hx z hz=>h x (List.mem_cons_of_mem _ hx) z hz⟩
   have:=(zcE _ (nLr _)).mem_iff.mp hz
   rcases List.mem_append.mp this with w | w
   ·exact hA'.1 z w
   ·rcases List.mem_cons.mp w with rfl | w
    ·exact q2
    ·exact tr _ _ _ q2 (hB'.1 z w)
end
end Ts
namespace Ts
section
variable {c:Nat->Nat->Bool}{A B W o:List Nat}{q j k:Nat}
theorem zbl{l:List Nat}{i:Nat}(h:i < l.length):l.drop i=l.getD i 0::l.drop (i+1):=by
 rw[List.drop_eq_getElem_cons h,List.getD_eq_getElem?_getD,List.getElem?_eq_getElem h]; rfl
theorem zoF{l:List Nat}{i:Nat}(h:i < l.length):l.take (i+1)=l.take i++[l.getD i 0]:=by
 rw[List.take_succ_eq_append_getElem h,List.getD_eq_getElem?_getD,List.getElem?_eq_getElem h]; rfl
theorem zcF{l:List Nat}{n x:Nat}(h:x∈l.take n):∃ i,i < n/\i < l.length/\x=l.getD i 0:=by
 obtain⟨i,hi,e⟩:=List.getElem_of_mem h;simp at hi;refine⟨i,by lia,by lia,?_⟩;rw[<- e,List.getElem_take,List.getD_eq_getElem?_getD,List.getElem?_eq_getElem (by lia)]; rfl
theorem zdT{l:List Nat}{n x:Nat}(h:x∈l.drop n):∃ i,n<=i/\i < l.length/\x=l.getD i 0:=by
 obtain⟨i,hi,e⟩:=List.getElem_of_mem h;simp at hi;refine⟨n+i,by lia,by lia,?_⟩;rw[<- e,List.getElem_drop,List.getD_eq_getElem?_getD,List.getElem?_eq_getElem (by lia)]; rfl
theorem zbR{l:List Nat}{n k x:Nat}(h:x∈(l.drop n).take k):∃ i,i < k/\n+i < l.length/\x=l.getD (n+i) 0:=by
 obtain⟨i,h1,h2,e⟩:=zcF h;simp at h2;refine⟨i,h1,by lia,?_⟩;rw[e,List.getD_eq_getElem?_getD,List.getElem?_drop,List.getD_eq_getElem?_getD]
def Lw(c:Nat->Nat->Bool)(A B W o:List Nat)(q j:Nat):Prop:=o++mrg c (A.drop q) (B.drop j)=W
theorem Lw.pb(h:Lw c A B W o q j)(hq:q < A.length)(hj:j < B.length)(e:c (B.getD j 0) (A.getD q 0)=true):Lw c A B W (o++[B.getD j 0]) q (j+1):=by
 unfold Lw at *;rw[zbl hj,zbl hq,zhB e,<- zbl hq]at h;rw[<- h]; simp
theorem Lw.pa(h:Lw c A B W o q j)(hq:q < A.length)(hj:j < B.length)(e:c (B.getD j 0) (A.getD q 0)=false):Lw c A B W (o++[A.getD q 0]) (q+1) j:=by
 unfold Lw at *;rw[zbl hj,zbl hq,zij e,<- zbl hj]at h;rw[<- h]; simp
theorem Lw.as(h:Lw c A B W o q j)(hj:j < B.length)(e:∀ i,i < k->c (B.getD j 0) (A.getD (q+i) 0)=false):Lw c A B W (o++(A.drop q).take (q+k - q)) (q+k) j:=by
 unfold Lw at *;rw[Nat.add_sub_cancel_left];rw[<- List.take_append_drop k (A.drop q),zbl hj,zjW λx hx=>by obtain⟨i,h1,h2,rfl⟩:=zbR hx; exact e i h1]at h;rw[<- h,zbl hj,List.drop_drop]; simp
theorem Lw.bs(h:Lw c A B W o q j)(hq:q < A.length)(e:∀ i,i < k->c (B.getD (j+i) 0) (A.getD q 0)=true):Lw c A B W (o++(B.drop j).take (j+k - j)) q (j+k):=by
 unfold Lw at *;rw[Nat.add_sub_cancel_left];rw[<- List.take_append_drop k (B.drop j),zbl hq,zjV λx hx=>by obtain⟨i,h1,h2,rfl⟩:=zbR hx; exact e i h1]at h;rw[<- h,zbl hq,List.drop_drop]; simp
theorem Lw.done(h:Lw c A B W o q j)(e:q=A.length∨j=B.length):o++(A.drop q).take (A.length - q)++(B.drop j).take (B.length - j)=W:=by
 unfold Lw at h;rw[List.take_of_length_le (by simp),List.take_of_length_le (by simp)];rcases e with rfl | rfl
 ·rw[List.drop_length,zhA]at h; simpa using h
 ·rw[List.drop_length,zfZ]at h; simpa using h
theorem Lw.last(h:Lw c A B W o q j)(e:q+1=A.length)(hl:∀ i,i < B.length->c (B.getD i 0) (A.getD q 0)=true):o++(B.drop j).take (B.length - j)++(A.drop q).take (A.length - q)=W:=by
 unfold Lw at h;rw[List.take_of_length_le (by simp),List.take_of_length_le (by simp)];have e2:A.drop q=[A.getD q 0]:=by rw[zbl (by lia),e,List.drop_length]
 have:=zjV (c:=c) (x:=A.getD q 0) (A:=[]) (B1:=B.drop j) (B2:=[]) λy hy=>by
  obtain⟨i,h1,h2,rfl⟩:=zdT hy; exact hl i h2
 rw[List.append_nil,zfZ]at this;rw[e2,this]at h;rw[e2]; simpa using h
def Hw(c:Nat->Nat->Bool)(A B W o:List Nat)(q j:Nat):Prop:=mrg c (A.take q) (B.take j)++o.reverse=W
theorem Hw.as(h:Hw c A B W o q j)(hk:k<=q)(e:∀ i,k<=i->i < q->∀ y,y < j->c (B.getD y 0) (A.getD i 0)=true):Hw c A B W (o++((A.drop k).take (q - k)).reverse) k j:=by
 unfold Hw at *;have e1:A.take q=A.take k++(A.drop k).take (q - k):=by
  rw[<- List.take_append_drop k (A.take q),List.take_take,Nat.min_eq_left hk,List.drop_take]
 rw[e1,zre λx hx y hy=>by obtain⟨i,h1,h2,rfl⟩:=zbR hx; obtain⟨i2,h3,h4,rfl⟩:=zcF hy; exact e (k+i) (by lia) (by lia) i2 h3]at h;rw[<- h]; simp
theorem Hw.bs(h:Hw c A B W o q j)(hk:k<=j)(e:∀ i,k<=i->i < j->∀ x,x < q->c (B.getD i 0) (A.getD x 0)=false):Hw c A B W (o++((B.drop k).take (j - k)).reverse) q k:=by
 unfold Hw at *;have e1:B.take j=B.take k++(B.drop k).take (j - k):=by
  rw[<- List.take_append_drop k (B.take j),List.take_take,Nat.min_eq_left hk,List.drop_take]
 rw[e1,zok λx hx y hy=>by obtain⟨i,h1,h2,rfl⟩:=zbR hx; obtain⟨i2,h3,h4,rfl⟩:=zcF hy; exact e (k+i) (by lia) (by lia) i2 h3]at h;rw[<- h]; simp
theorem zlS{l:List Nat}{i:Nat}(h:i < l.length):((l.drop i).take (i+1 - i)).reverse=[l.getD i 0]:=by
 rw[Nat.add_sub_cancel_left,zbl h]; rfl
theorem Hw.pa(h:Hw c A B W o (q+1) j)(hq:q < A.length)(e:∀ y,y < j->c (B.getD y 0) (A.getD q 0)=true):Hw c A B W (o++[A.getD q 0]) q j:=by
 rw[<- zlS hq];refine h.as (by lia) λi h1 h2 y hy=>?_;rw[show i=q by lia];exact e y hy
theorem Hw.pb(h:Hw c A B W o q (j+1))(hj:j < B.length)(e:∀ x,x < q->c (B.getD j 0) (A.getD x 0)=false):Hw c A B W (o++[B.getD j 0]) q j:=by
 rw[<- zlS hj];refine h.bs (by lia) λi h1 h2 x hx=>?_;rw[show i=j by lia];exact e x hx
theorem Hw.done(h:Hw c A B W o q j)(e:q=0∨j=0):(A.drop 0).take (q - 0)++(B.drop 0).take (j - 0)++o.reverse=W:=by
 unfold Hw at h;rw[List.drop_zero,List.drop_zero,Nat.sub_zero,Nat.sub_zero];rcases e with rfl | rfl
 ·rw[List.take_zero,zhA]at h; simpa using h
 ·rw[List.take_zero,zfZ]at h; simpa using h
theorem Hw.first(h:Hw c A B W o q 1)(hB:0 < B.length)(e:0 < A.length->c (B.getD 0 0) (A.getD 0 0)=true):(B.drop 0).take (1 - 0)++(A.drop 0).take (q - 0)++o.reverse=W:=by
 unfold Hw at h;rw[List.drop_zero,List.drop_zero,Nat.sub_zero,Nat.sub_zero];have e1:B.take 1=[B.getD 0 0]:=by rw[show 1=0+1 from rfl,zoF hB]; rfl
 rw[e1]at h ⊢;cases hA:A.take q with
 | nil=>rw[hA,zhA]at h; simpa using h
 | cons x R =>
  have hl:0 < A.length:=by cases A with | nil=>simp at hA | cons=>simp
  have hx:A.getD 0 0=x:=by cases A with | nil=>simp at hl | cons a A'=>cases q with | zero=>simp at hA | succ q=>simp at hA; simp[hA.1]
  rw[hA,zhB (by rw[<- hx]; exact e hl),zfZ]at h;simpa using h
end
end Ts
namespace Ts
open PySem PyProof.Rows PySem.W
structure Tot(n:Nat)(c:Cq):Prop where
 irr:∀ i,c i i=false
 tr:∀ i j k,c i j=true->c j k=true->c i k=true
 tot:∀ i j,i < n->j < n->i≠j->c i j=true∨c j i=true
theorem Tot.asym{n:Nat}{c:Cq}(h:Tot n c){i j:Nat}(e:c i j=true):c j i=false:=by
 cases q:c j i with
 | false=>rfl
 | true=>have:=h.tr i j i e q; rw[h.irr]at this; cases this
def Ups(c:Cq)(ix:Array Nat)(base m:Nat):Prop:=∀ i j,i < j->j < m->c (ix.getD (base+i) 0) (ix.getD (base+j) 0)=true
structure Hv(c:Cq)(key:Nat)(ix:Array Nat)(base m lo hi:Nat):Prop where
 a:lo<=hi
 b:hi<=m
 x:∀ i,i < lo->c (ix.getD (base+i) 0) key=true
 y:∀ i,hi<=i->i < m->c key (ix.getD (base+i) 0)=true
theorem zeU{n:Nat}{c:Cq}{σ:Ab}(T:Tot n c)(left:Bool)(key:Nat)(ix:Array Nat)(base m hint:Nat)(hk:key < n)(hix:∀ i,i < ix.size->ix.getD i 0 < n)(hb:base+m<=ix.size)(hh:hint < m)
  (up:Ups c ix base m) (ne:∀ i,i < m->ix.getD (base+i) 0≠key) :
  zae n c (λit=>zmr left (kas_item it key) (ix.map (kas_item it)) base m hint) σ λr σ'=>σ'=σ/\∃ k,(k<=m/\(∀ i,i < k->c (ix.getD (base+i) 0) key=true)/\∀ i,k<=i->i < m->c key (ix.getD (base+i) 0)=true)/\r=λ_=>some k:=by
 have bq:∀ i,i < m->bz c left key ix (base+i)=c (ix.getD (base+i) 0) key:=λi hi=>by
  unfold bz;cases left with
  | true=>rfl
  | false =>
   simp only[Bool.false_eq_true,if_false];rcases T.tot _ _ (hix (base+i) (by lia)) hk (ne i hi)with h | h
   ·rw[h,T.asym h]; rfl
   ·rw[h,T.asym h]; rfl
 have nb:∀ i,i < m->c (ix.getD (base+i) 0) key=false->c key (ix.getD (base+i) 0)=true:=λi hi h=>by
  rcases T.tot _ _ (hix (base+i) (by lia)) hk (ne i hi)with q | q
  ·rw[h]at q; cases q
  ·exact q
 have dn:∀ i j,i<=j->j < m->c (ix.getD (base+j) 0) key=true->c (ix.getD (base+i) 0) key=true:=λi j hij hj h=>by
  rcases Nat.lt_or_eq_of_le hij with q | q
  ·exact T.tr _ _ _ (up i j q hj) h
  ·rw[q]; exact h
 have un:∀ i j,i<=j->j < m->c key (ix.getD (base+i) 0)=true->c key (ix.getD (base+j) 0)=true:=λi j hij hj h=>by
  rcases Nat.lt_or_eq_of_le hij with q | q
  ·exact T.tr _ _ _ h (up i j q hj)
  ·rw[<- q]; exact h
 refine zae.bindE (zb0 (left:=left) (i:=base+hint) hk hix (by lia)) ?_;dsimp only;cases hr:bz c left key ix (base+hint)with
 | true =>
  rw[bq hint hh]at hr;simp only[if_true];refine zae.bind (zae.loop (λ_ (b:Nat×Nat)=>((none,b.1,b.2):Option (Option Nat)×Nat×Nat)) (λk b σ1=>σ1=σ/\hint+b.1 < m/\c (ix.getD (base+(hint+b.1)) 0) key=true/\b.1 < b.2/\m+1<=b.2+k)
   (λb σ1=>σ1=σ/\hint+b.1 < m/\c (ix.getD (base+(hint+b.1)) 0) key=true/\b.1 < b.2/\(m - hint<=b.2∨c key (ix.getD (base+(hint+b.2)) 0)=true)) (λb σ1 h=>⟨h.1,h.2.1,h.2.2.1,h.2.2.2.1,.inl (by have:=h.2.2.2.2; lia)⟩) (λx k b σ1 h=>?_) (0,1) ⟨rfl,by simpa using hh,by simpa using hr,by decide,by simp; lia⟩) ?_
  ·obtain⟨rfl,h1,h2,h3,h4⟩:=h;dsimp only;refine zae.dec (λc1=>?_) (λc1=>?_)
   ·exact zae.pure (.inl ⟨b,⟨rfl,h1,h2,h3,.inl c1⟩,rfl⟩)
   ·refine zae.bindE (zb0 (left:=left) (i:=base+(hint+b.2)) hk hix (by lia)) ?_;dsimp only;have hm:hint+b.2 < m:=by lia
    cases hr2:bz c left key ix (base+(hint+b.2))with
    | true =>
     rw[bq _ hm]at hr2;exact zae.pure (.inr ⟨(b.2,2 * b.2+1),⟨rfl,hm,hr2,by dsimp only; lia,by dsimp only; lia⟩,rfl⟩)
    | false =>
     rw[bq _ hm]at hr2;exact zae.pure (.inl ⟨b,⟨rfl,h1,h2,h3,.inr (nb _ hm hr2)⟩,rfl⟩)
  ·rintro r σ1 ⟨b0,⟨h1,g1,g2,g3,g4⟩,rfl⟩;rw[h1];dsimp only;refine zae.lp (λ_ (b:Nat×Nat)=>((none,b.1,b.2):Option (Option Nat)×Nat×Nat)) (λk b σ1=>σ1=σ/\Hv c key ix base m b.1 b.2/\b.2 - b.1<=k) (λb σ1=>σ1=σ/\Hv c key ix base m b.2 b.2) (λb σ1 h=>?_) (λx k b σ1 h=>?_) (_,_) ⟨rfl,⟨by simp; lia,by simp; lia,λi hi=>dn i (hint+b0.1) (by simp at hi; lia) g1 g2,λi hi hj=>g4.elim (λz=>by simp at hi; lia) λz=>by by_cases q:m - hint<=b0.2; (simp at hi; lia); exact un (hint+b0.2) i (by simp at hi; lia) hj z⟩,by simp; lia⟩ λb σ2 lp_h=>?_
   ·obtain⟨h0,hv,h3⟩:=h;have:=hv.a;have e:b.1=b.2:=by lia
    rw[e]at hv;exact⟨h0,hv⟩
   ·obtain⟨rfl,hv,h3⟩:=h;have hv1:=hv.a;have hv2:=hv.b;dsimp only;refine zae.dec (λc1=>?_) (λc1=>?_)
    ·have e:b.1=b.2:=by lia
     rw[e]at hv;exact zae.pure (.inl ⟨b,⟨rfl,hv⟩,rfl⟩)
    ·refine zae.bindE (zb0 (left:=left) (i:=base+(b.1+(b.2 - b.1) / 2)) hk hix (by lia)) ?_;dsimp only;have hm:b.1+(b.2 - b.1) / 2 < m:=by lia
     cases hr2:bz c left key ix (base+(b.1+(b.2 - b.1) / 2))with
     | true =>
      rw[bq _ hm]at hr2;exact zae.pure (.inr ⟨(b.1+(b.2 - b.1) / 2+1,b.2),⟨rfl,⟨by dsimp only; lia,hv.b,λi hi=>dn i _ (by dsimp only at hi; lia) hm hr2,hv.y⟩,by dsimp only; lia⟩,rfl⟩)
     | false =>
      rw[bq _ hm]at hr2;exact zae.pure (.inr ⟨(b.1,b.1+(b.2 - b.1) / 2),⟨rfl,⟨by dsimp only; lia,by dsimp only; lia,hv.x,λi hi hj=>un _ i (by dsimp only at hi; lia) hj (nb _ hm hr2)⟩,by dsimp only; lia⟩,rfl⟩)
   ·have hv:=lp_h.2;obtain rfl:=lp_h.1;exact zae.pure ⟨rfl,b.2,⟨hv.b,hv.x,hv.y⟩,rfl⟩
 | false =>
  rw[bq hint hh]at hr;have hr':=nb hint hh hr;simp only[Bool.false_eq_true,if_false];refine zae.bind (zae.loop (λ_ (b:Nat×Nat)=>((none,b.1,b.2):Option (Option Nat)×Nat×Nat)) (λk b σ1=>σ1=σ/\b.1<=hint/\c key (ix.getD (base+(hint - b.1)) 0)=true/\b.1 < b.2/\m+1<=b.2+k)
   (λb σ1=>σ1=σ/\b.1<=hint/\c key (ix.getD (base+(hint - b.1)) 0)=true/\b.1 < b.2/\(hint+1<=b.2∨c (ix.getD (base+(hint - b.2)) 0) key=true)) (λb σ1 h=>⟨h.1,h.2.1,h.2.2.1,h.2.2.2.1,.inl (by have:=h.2.2.2.2; lia)⟩) (λx k b σ1 h=>?_) (0,1) ⟨rfl,by simp,by simpa using hr',by decide,by simp; lia⟩) ?_
  ·obtain⟨rfl,h1,h2,h3,h4⟩:=h;dsimp only;refine zae.dec (λc1=>?_) (λc1=>?_)
   ·exact zae.pure (.inl ⟨b,⟨rfl,h1,h2,h3,.inl c1⟩,rfl⟩)
   ·refine zae.bindE (zb0 (left:=left) (i:=base+(hint - b.2)) hk hix (by lia)) ?_;dsimp only;have hm:hint - b.2 < m:=by lia
    cases hr2:bz c left key ix (base+(hint - b.2))with
    | true =>
     rw[bq _ hm]at hr2;exact zae.pure (.inl ⟨b,⟨rfl,h1,h2,h3,.inr hr2⟩,rfl⟩)
    | false =>
     rw[bq _ hm]at hr2;exact zae.pure (.inr ⟨(b.2,2 * b.2+1),⟨rfl,by dsimp only; lia,nb _ hm hr2,by dsimp only; lia,by dsimp only; lia⟩,rfl⟩)
  ·rintro r σ1 ⟨b0,⟨h1,g1,g2,g3,g4⟩,rfl⟩;rw[h1];dsimp only;refine zae.lp (λ_ (b:Nat×Nat)=>((none,b.1,b.2):Option (Option Nat)×Nat×Nat)) (λk b σ1=>σ1=σ/\Hv c key ix base m b.1 b.2/\b.2 - b.1<=k) (λb σ1=>σ1=σ/\Hv c key ix base m b.2 b.2) (λb σ1 h=>?_) (λx k b σ1 h=>?_) (_,_) ⟨rfl,⟨by simp; lia,by simp; lia,λi hi=>g4.elim (λz=>by simp at hi; lia) λz=>by by_cases q:hint+1<=b0.2; (simp at hi; lia); exact dn i (hint - b0.2) (by simp at hi; lia) (by lia) z,λi hi hj=>un (hint - b0.1) i (by simpa using hi) hj g2⟩,by simp; lia⟩ λb σ2 lp_h=>?_
   ·obtain⟨h0,hv,h3⟩:=h;have:=hv.a;have e:b.1=b.2:=by lia
    rw[e]at hv;exact⟨h0,hv⟩
   ·obtain⟨rfl,hv,h3⟩:=h;have hv1:=hv.a;have hv2:=hv.b;dsimp only;refine zae.dec (λc1=>?_) (λc1=>?_)
    ·have e:b.1=b.2:=by lia
     rw[e]at hv;exact zae.pure (.inl ⟨b,⟨rfl,hv⟩,rfl⟩)
    ·refine zae.bindE (zb0 (left:=left) (i:=base+(b.1+(b.2 - b.1) / 2)) hk hix (by lia)) ?_;dsimp only;have hm:b.1+(b.2 - b.1) / 2 < m:=by lia
     cases hr2:bz c left key ix (base+(b.1+(b.2 - b.1) / 2))with
     | true =>
      rw[bq _ hm]at hr2;exact zae.pure (.inr ⟨(b.1+(b.2 - b.1) / 2+1,b.2),⟨rfl,⟨by dsimp only; lia,hv.b,λi hi=>dn i _ (by dsimp only at hi; lia) hm hr2,hv.y⟩,by dsimp only; lia⟩,rfl⟩)
     | false =>
      rw[bq _ hm]at hr2;exact zae.pure (.inr ⟨(b.1,b.1+(b.2 - b.1) / 2),⟨rfl,⟨by dsimp only; lia,by dsimp only; lia,hv.x,λi hi hj=>un _ i (by dsimp only at hi; lia) hj (nb _ hm hr2)⟩,by dsimp only; lia⟩,rfl⟩)
   ·have hv:=lp_h.2;obtain rfl:=lp_h.1;exact zae.pure ⟨rfl,b.2,⟨hv.b,hv.x,hv.y⟩,rfl⟩
end Ts
namespace Ts
theorem rise_eq{α:Type}{R:α->α->Prop}(as:∀ a b,R a b->¬ R b a):∀ {l l':List α},l.Pairwise R->l'.Pairwise R->l.Perm l'->l=l'
 | [],l',_,_,p=>by rw[List.nil_perm.mp p]
 | a::r,[],_,_,p=>by exact absurd p.length_eq (by simp)
 | a::r,b::r',h,h',p=>by
  have ha:a∈b::r':=p.subset (List.mem_cons_self)
  have hb:b∈a::r:=p.symm.subset (List.mem_cons_self)
  have e:a=b:=by
   rcases List.mem_cons.mp ha with z | z
   ·exact z
   ·rcases List.mem_cons.mp hb with y | y
    ·exact y.symm
    ·exact absurd ((List.pairwise_cons.mp h).1 b y) (as _ _ ((List.pairwise_cons.mp h').1 a z))
  subst e;rw[rise_eq as (List.pairwise_cons.mp h).2 (List.pairwise_cons.mp h').2 (List.Perm.cons_inv p)]
end Ts
namespace Ts
open PySem PyProof.Rows PySem.W
section
variable {n:Nat}{c:Cq}{σ σ' σ'':Ab}{p:Array Nat}
theorem PI.perm(h:L2.PermN n σ.p):PI n σ:=⟨h.size,λi hi=>h.below (by lia) i⟩
theorem Tot.up(T:Tot n c)(h:L2.PermN n p){i j:Nat}(hi:i < n)(hj:j < n)(ne:i≠j)(e:c (p.getD i 0) (p.getD j 0)=false):c (p.getD j 0) (p.getD i 0)=true:=by
 rcases T.tot _ _ (h.below (by lia) i) (h.below (by lia) j) (h.ne hi hj ne)with q | q
 ·rw[e]at q; cases q
 ·exact q
def Dns(c:Cq)(ix:Array Nat)(base m:Nat):Prop:=∀ i j,i < j->j < m->c (ix.getD (base+j) 0) (ix.getD (base+i) 0)=true
theorem Ups.next{lo m:Nat}(T:Tot n c)(h:Ups c p lo m)(h1:1<=m)(s:c (p.getD (lo+m - 1) 0) (p.getD (lo+m) 0)=true):Ups c p lo (m+1):=by
 intro i j hij hj;by_cases e:j < m
 ·exact h i j hij e
 ·obtain rfl:j=m:=by lia
  by_cases e2:i=j - 1
  ·subst e2;rw[show lo+(j - 1)=lo+j - 1 by lia]; exact s
  ·have:=h i (j - 1) (by lia) (by lia);rw[show lo+(j - 1)=lo+j - 1 by lia]at this;exact T.tr _ _ _ this s
theorem Dns.next{lo m:Nat}(T:Tot n c)(h:Dns c p lo m)(h1:1<=m)(s:c (p.getD (lo+m) 0) (p.getD (lo+m - 1) 0)=true):Dns c p lo (m+1):=by
 intro i j hij hj;by_cases e:j < m
 ·exact h i j hij e
 ·obtain rfl:j=m:=by lia
  by_cases e2:i=j - 1
  ·subst e2;rw[show lo+(j - 1)=lo+j - 1 by lia]; exact s
  ·have:=h i (j - 1) (by lia) (by lia);rw[show lo+(j - 1)=lo+j - 1 by lia]at this;exact T.tr _ _ _ s this
theorem zsk{i j k:Nat}(hj:j<=p.size):(kas_rev p i j).getD k 0=if i<=k/\k < j then p.getD (i+j - 1 - k) 0 else p.getD k 0:=by
 have e:=getElem?_mirror_all (xs:=p) (i:=i) hj k;unfold kas_rev;rw[Array.getD_eq_getD_getElem?,e];split<;>rw[Array.getD_eq_getD_getElem?]
structure Lo(n lo:Nat)(σ σ':Ab):Prop where
 k:L2.PermN n σ'.p
 pe:σ'.pend=σ.pend
 lo:∀ i,i < lo->σ'.p.getD i 0=σ.p.getD i 0
theorem Lo.refl{lo:Nat}(h:L2.PermN n σ.p):Lo n lo σ σ:=⟨h,rfl,λ_ _=>rfl⟩
theorem Lo.trans{lo:Nat}(a:Lo n lo σ σ')(b:Lo n lo σ' σ''):Lo n lo σ σ'':=⟨b.k,b.pe.trans a.pe,λi hi=>(b.lo i hi).trans (a.lo i hi)⟩
theorem zmJ(T:Tot n c)(lo nrem:Nat)(h:L2.PermN n σ.p)(h1:1<=nrem)(hb:lo+nrem<=n):zae n c (λ_=>zmK lo nrem) σ λr σ'=>Lo n lo σ σ'/\∃ k,1<=k/\k<=nrem/\Ups c σ'.p lo k/\r=λ_=>some k:=by
 have pi:=PI.perm h;have hs:=h.size;refine zae.bind (zae.loop (λ_ (b:Nat)=>((none,b):Option (Option Nat)×Nat)) (λk b σ1=>σ1=σ/\1<=b/\b+k=nrem/\Ups c σ.p lo b) (λb σ1=>σ1=σ/\1<=b/\b<=nrem/\Ups c σ.p lo b/\(b < nrem->c (σ.p.getD (lo+b) 0) (σ.p.getD (lo+b - 1) 0)=true))
  (λb σ1 h=>⟨h.1,h.2.1,by have:=h.2.2.1; lia,h.2.2.2,λz=>by have:=h.2.2.1; lia⟩) (λx k b σ1 hI=>?_) 1 ⟨rfl,nLr _,by lia,λi j hij hj=>absurd hj (by lia)⟩) ?_
 ·have e1:=hI.1;have hb1:=hI.2.1;have hb2:=hI.2.2.1;have up:=hI.2.2.2;subst e1;dsimp only;refine zae.bindE (zcn pi (by lia) (by lia)) ?_;dsimp only;cases e:c (σ1.p.getD (lo+b) 0) (σ1.p.getD (lo+b - 1) 0)with
  | true=>exact zae.pure (.inl ⟨b,⟨rfl,hb1,by lia,up,λ_=>e⟩,rfl⟩)
  | false=>exact zae.pure (.inr ⟨b+1,⟨rfl,by lia,by lia,up.next T hb1 (T.up h (by lia) (by lia) (by lia) e)⟩,rfl⟩)
 ·rintro r σ1 ⟨b,⟨e1,hb1,hb2,up,hr⟩,rfl⟩;rw[e1];dsimp only;refine zae.dec (λc0=>?_) (λc0=>?_)
  ·exact zae.pure ⟨Lo.refl h,b,hb1,hb2,up,rfl⟩
  ·have hbn:b < nrem:=by have:b≠nrem:=λe=>c0 (by simp[e]); lia
   refine zae.dec (λc1=>?_) (λc1=>?_)
   ·refine zae.bindE (zcn pi (by lia) (by lia)) ?_;dsimp only;have e:=up 0 (b - 1) (by lia) (by lia);rw[Nat.add_zero,show lo+(b - 1)=lo+b - 1 by lia]at e;rw[e];exact zae.pure ⟨Lo.refl h,b,hb1,hb2,up,rfl⟩
   ·obtain rfl:b=1:=by lia
    have s:=hr hbn;refine zcr ?_;refine zae.lp (λ_ (q:Nat×Nat)=>((none,q.1,q.2):Option (Option Nat)×Nat×Nat)) (λk q τ=>τ=σ/\1<=q.1/\q.1+k=nrem/\q.2=0/\Dns c σ.p lo q.1) (λq τ=>τ=σ/\1<=q.1/\q.1<=nrem/\q.2=0/\Dns c σ.p lo q.1) (λq τ h=>⟨h.1,h.2.1,by have:=h.2.2.1; lia,h.2.2.2⟩) (λx k q τ hI=>?_) (1+1,0) ⟨rfl,by simp,by simp; lia,rfl,λi j hij hj=>?_⟩ λq τ lp_h=>?_
    ·have e2:=hI.1;have hq1:=hI.2.1;have hq2:=hI.2.2.1;have q0:=hI.2.2.2.1;have dn:=hI.2.2.2.2;subst e2;dsimp only;refine zae.bindE (zcn pi (by lia) (by lia)) ?_;dsimp only;cases e:c (τ.p.getD (lo+q.1) 0) (τ.p.getD (lo+q.1 - 1) 0)with
     | true =>
      simp only[if_true];refine zae.neg (show ¬ q.2 > 0 by lia) ?_;exact zae.pure (.inr ⟨(q.1+1,0),⟨rfl,by simp,by simp; lia,rfl,dn.next T hq1 e⟩,rfl⟩)
     | false =>
      simp only[Bool.false_eq_true,if_false];refine zae.bindE (zcn pi (by lia) (by lia)) ?_;dsimp only;have e2:=T.up h (by lia) (by lia) (by lia) e;rw[e2];exact zae.pure (.inl ⟨q,⟨rfl,hq1,by lia,q0,dn⟩,rfl⟩)
    ·dsimp only at hj;obtain rfl:i=0:=by lia
     obtain rfl:j=1:=by lia
     simpa using s
    ·have e2:=lp_h.1;have hq1:=lp_h.2.1;have hq2:=lp_h.2.2.1;have q0:=lp_h.2.2.2.1;have dn:=lp_h.2.2.2.2;rw[e2];dsimp only;refine zae.neg (show ¬ q.2 > 0 by lia) ?_;refine zae.bindE znf ?_;have h3:L2.PermN n (kas_rev σ.p lo (lo+q.1)):=(mirror_perm _ _ _ _).trans h;have pi3:PI n ⟨kas_rev σ.p lo (lo+q.1),σ.pend,σ.mg⟩:=PI.perm h3;have l3:Lo n lo σ ⟨kas_rev σ.p lo (lo+q.1),σ.pend,σ.mg⟩:=⟨h3,rfl,λi hi=>by
      show(kas_rev σ.p lo (lo+q.1)).getD i 0=_;rw[zsk (by lia),if_neg (by lia)]⟩
     have up3:Ups c (kas_rev σ.p lo (lo+q.1)) lo q.1:=λi j hij hj=>by
      rw[zsk (by lia),zsk (by lia),if_pos (by lia),if_pos (by lia)];have:=dn (q.1 - 1 - j) (q.1 - 1 - i) (by lia) (by lia);rw[show lo+(lo+q.1) - 1 - (lo+i)=lo+(q.1 - 1 - i)by lia,show lo+(lo+q.1) - 1 - (lo+j)=lo+(q.1 - 1 - j)by lia];exact this
     clear dn s hr up hbn c1 c0;refine zae.lp (λ_ (b:Nat)=>((none,b):Option (Option Nat)×Nat)) (λk b τ=>τ=⟨kas_rev σ.p lo (lo+q.1),σ.pend,σ.mg⟩/\1<=b/\b+k=nrem/\Ups c τ.p lo b) (λb τ=>τ=⟨kas_rev σ.p lo (lo+q.1),σ.pend,σ.mg⟩/\1<=b/\b<=nrem/\Ups c τ.p lo b) (λb τ h=>⟨h.1,h.2.1,by have:=h.2.2.1; lia,h.2.2.2⟩) (λx k b τ hI=>?_) q.1 ⟨rfl,by lia,by lia,up3⟩ λb τ lp_h=>?_
     ·have e1:=hI.1;have hb1:=hI.2.1;have hb2:=hI.2.2.1;have up:=hI.2.2.2;rw[e1]at up ⊢;dsimp only at up ⊢;refine zae.bindE (zcn pi3 (by lia) (by lia)) ?_;dsimp only;cases e:c ((kas_rev σ.p lo (lo+q.1)).getD (lo+b) 0) ((kas_rev σ.p lo (lo+q.1)).getD (lo+b - 1) 0)with
      | true=>exact zae.pure (.inl ⟨b,⟨rfl,hb1,by lia,up⟩,rfl⟩)
      | false=>exact zae.pure (.inr ⟨b+1,⟨rfl,by lia,by lia,up.next T hb1 (T.up h3 (by lia) (by lia) (by lia) e)⟩,rfl⟩)
     ·have e1:=lp_h.1;have hb1:=lp_h.2.1;have hb2:=lp_h.2.2.1;have up:=lp_h.2.2.2;rw[e1]at up ⊢;exact zae.pure ⟨l3,b,hb1,hb2,up,rfl⟩
theorem zpO(T:Tot n c)(lo m ok:Nat)(h:L2.PermN n σ.p)(hb:lo+m<=n)(h1:1<=ok)(hok:ok<=m)(up:Ups c σ.p lo ok):zae n c (λ_=>zjz lo m ok) σ λr σ'=>Lo n lo σ σ'/\Ups c σ'.p lo m/\r=λ_=>true:=by
 refine zae.bind (zae.loopX (λ_ (b:Unit)=>((none,()):Option Bool×Unit)) (λx b τ=>x<=m/\Lo n lo σ τ/\Ups c τ.p lo x) (λb τ=>Lo n lo σ τ/\Ups c τ.p lo m) (λx b τ hx h=>⟨h.2.1,(show x=m from Nat.le_antisymm h.1 hx) ▸ h.2.2⟩) (λx b τ hx hI=>?_) () ⟨by lia,Lo.refl h,by rw[show max ok 1=ok by lia]; exact up⟩) ?_
 ·have l1:=hI.2.1;have up1:=hI.2.2;dsimp only;have pi:=PI.perm l1.k;have hs:=l1.k.size;refine zae.lp (λ_ (b:Nat×Nat)=>((none,b.1,b.2):Option Bool×Nat×Nat)) (λk b τ2=>τ2=τ/\Hv c (τ.p.getD (lo+x) 0) τ.p lo x b.1 b.2/\b.2 - b.1<=k) (λb τ2=>τ2=τ/\Hv c (τ.p.getD (lo+x) 0) τ.p lo x b.1 b.1) (λb τ2 h=>⟨h.1,?_⟩) (λy k b τ2 hI=>?_) (0,x) ⟨rfl,⟨Nat.zero_le _,Nat.le_refl _,λi hi=>absurd hi (Nat.not_lt_zero _),λi h1 h2=>absurd h2 (by dsimp only at h1; lia)⟩,by simp⟩ λb τ2 lp_h=>?_
  ·have hv:=h.2.1;have:=hv.a;have e:b.2=b.1:=by have:=h.2.2; lia
   rw[e]at hv; exact hv
  ·have e1:=hI.1;have hv:=hI.2.1;have hk:=hI.2.2;rw[e1];have h1:=hv.a;have h2:=hv.b;dsimp only;refine zae.dec (λc1=>?_) (λc1=>?_)
   ·have e:b.2=b.1:=by lia
    rw[e]at hv;exact zae.pure (.inl ⟨b,⟨rfl,hv⟩,rfl⟩)
   ·refine zae.bindE (zcn pi (by lia) (by lia)) ?_;dsimp only;cases e:c (τ.p.getD (lo+x) 0) (τ.p.getD (lo+(b.1+b.2) / 2) 0)with
    | true =>
     refine zae.pure (.inr ⟨(b.1,(b.1+b.2) / 2),⟨rfl,⟨by dsimp only; lia,by dsimp only; lia,hv.x,λi hi hix=>?_⟩,by dsimp only; lia⟩,rfl⟩);dsimp only at hi;by_cases q:i=(b.1+b.2) / 2
     ·rw[q]; exact e
     ·exact T.tr _ _ _ e (up1 _ i (by lia) hix)
    | false =>
     have s:=T.up l1.k (by lia) (by lia) (by lia) e;refine zae.pure (.inr ⟨((b.1+b.2) / 2+1,b.2),⟨rfl,⟨by dsimp only; lia,hv.b,λi hi=>?_,hv.y⟩,by dsimp only; lia⟩,rfl⟩);dsimp only at hi;by_cases q:i=(b.1+b.2) / 2
     ·rw[q]; exact s
     ·exact T.tr _ _ _ (up1 i _ (by lia) (by lia)) s
  ·have e1:=lp_h.1;have hv:=lp_h.2;rw[e1];dsimp only;have hb1:=hv.b;refine zae.bindE zlZ ?_;have h3:L2.PermN n (bubble τ.p (lo+x) (lo+x - (lo+b.1))):=(bubble_perm _ _ _).trans l1.k;have bg:∀ j,(bubble τ.p (lo+x) (lo+x - (lo+b.1))).getD j 0=if j=lo+b.1 then τ.p.getD (lo+x) 0 else if lo+b.1 < j/\j<=lo+x then τ.p.getD (j - 1) 0 else τ.p.getD j 0:=λj=>L2.bub_get (by lia) (by lia);refine zae.pure (.inr ⟨(),⟨hx,l1.trans ⟨h3,rfl,λi hi=>?_⟩,λi j hij hj=>?_⟩,rfl⟩)
   ·show(bubble τ.p (lo+x) (lo+x - (lo+b.1))).getD i 0=_;rw[bg,if_neg (by lia),if_neg (by lia)]
   ·show c ((bubble τ.p (lo+x) (lo+x - (lo+b.1))).getD (lo+i) 0) ((bubble τ.p (lo+x) (lo+x - (lo+b.1))).getD (lo+j) 0)=true;rw[bg,bg];by_cases i1:i=b.1
    ·rw[if_pos (by lia),if_neg (by lia),if_pos (by lia),show lo+j - 1=lo+(j - 1)by lia];exact hv.y _ (by lia) (by lia)
    ·rw[if_neg (show ¬ lo+i=lo+b.1 by lia)];by_cases j1:j=b.1
     ·rw[if_pos (show lo+j=lo+b.1 by lia),if_neg (by lia)];exact hv.x i (by lia)
     ·rw[if_neg (show ¬ lo+j=lo+b.1 by lia)];by_cases i2:lo+b.1 < lo+i/\lo+i<=lo+x
      ·rw[if_pos i2,if_pos (by lia),show lo+i - 1=lo+(i - 1)by lia,show lo+j - 1=lo+(j - 1)by lia]; exact up1 _ _ (by lia) (by lia)
      ·rw[if_neg i2];by_cases j2:lo+b.1 < lo+j/\lo+j<=lo+x
       ·rw[if_pos j2,show lo+j - 1=lo+(j - 1)by lia];by_cases q:i=j - 1
        ·lia
        ·exact up1 _ _ (by lia) (by lia)
       ·rw[if_neg j2]; exact up1 _ _ hij (by lia)
 ·rintro r τ ⟨b,⟨l1,up1⟩,rfl⟩;exact zae.pure ⟨l1,up1,rfl⟩
end
section
variable {n:Nat}{c:Cq}{σ:Ab}{f g:Array Keyed->Array Keyed}{o r:List Nat}{a b:Array Nat}{q j k:Nat}
def Ls(f:Array Keyed->Array Keyed)(o:List Nat):Prop:=∀ it,(f it).toList=o.map (kas_item it)
theorem Ls.of(a:Array Nat):Ls (λit=>a.map (kas_item it)) a.toList:=λit=>by simp
theorem Ls.push(h:Ls f o)(i:Nat):Ls (λit=>(f it).push (kas_item it i)) (o++[i]):=λit=>by rw[Array.toList_push,h it]; simp
theorem Ls.app(h:Ls f o)(k:Ls g r):Ls (λit=>f it++g it) (o++r):=λit=>by rw[Array.toList_append,h it,k it]; simp
theorem Ls.ext(h:Ls f o)(i j:Nat):Ls (λit=>(f it).extract i j) ((o.drop i).take (j - i)):=λit=>by
 rw[Array.toList_extract,List.extract_eq_take_drop,h it,<- List.map_drop,<- List.map_take]
theorem Ls.rev(h:Ls f o):Ls (λit=>(f it).reverse) o.reverse:=λit=>by rw[Array.toList_reverse,h it]; simp
theorem gt(a:Array Nat)(i:Nat):a.toList.getD i 0=a.getD i 0:=by rw[Array.getD_eq_getD_getElem?,List.getD_eq_getElem?_getD,Array.getElem?_toList]
noncomputable abbrev KA:=Array Keyed->Array Keyed
noncomputable abbrev Wd(c:Cq)(a b:Array Nat):List Nat:=mrg c.f a.toList b.toList
abbrev LW(c:Cq)(a b:Array Nat)(o:List Nat)(q j:Nat):Prop:=Lw c.f a.toList b.toList (mrg c.f a.toList b.toList) o q j
abbrev HW(c:Cq)(a b:Array Nat)(o:List Nat)(q j:Nat):Prop:=Hw c.f a.toList b.toList (mrg c.f a.toList b.toList) o q j
structure MP(n:Nat)(c:Cq)(a b:Array Nat):Prop where
 ha:∀ x∈a,x < n
 hb:∀ x∈b,x < n
 a0:0 < a.size
 b0:0 < b.size
 ua:Ups c a 0 a.size
 ub:Ups c b 0 b.size
 ne:∀ i j,i < a.size->j < b.size->a.getD i 0≠b.getD j 0
 fs:c (b.getD 0 0) (a.getD 0 0)=true
 ls:∀ i,i < b.size->c (b.getD i 0) (a.getD (a.size - 1) 0)=true
theorem Ups.sub{p:Array Nat}{m s k:Nat}(h:Ups c p 0 m)(e:s+k<=m):Ups c p s k:=λi j hij hj=>by
 have:=h (s+i) (s+j) (by lia) (by lia)
 rwa [Nat.zero_add,Nat.zero_add]at this
theorem MP.ab(m:MP n c a b)(T:Tot n c){i j:Nat}(hi:i < a.size)(hj:j < b.size)(e:c (b.getD j 0) (a.getD i 0)=false):c (a.getD i 0) (b.getD j 0)=true:=by
 rcases T.tot _ _ (zaY m.ha hi) (zaY m.hb hj) (m.ne i j hi hj)with z | z
 ·exact z
 ·rw[e]at z; cases z
theorem MP.bl(m:MP n c a b)(T:Tot n c){y j i:Nat}(h:y<=j)(hj:j < b.size)(e:c (b.getD j 0) (a.getD i 0)=true):c (b.getD y 0) (a.getD i 0)=true:=by
 rcases Nat.lt_or_eq_of_le h with z | z
 ·have:=m.ub y j z hj;rw[Nat.zero_add,Nat.zero_add]at this;exact T.tr _ _ _ this e
 ·rw[z]; exact e
theorem MP.ax(m:MP n c a b)(T:Tot n c){x i j:Nat}(h:x<=i)(hi:i < a.size)(e:c (a.getD i 0) (b.getD j 0)=true):c (b.getD j 0) (a.getD x 0)=false:=by
 refine T.asym ?_;rcases Nat.lt_or_eq_of_le h with z | z
 ·have:=m.ua x i z hi;rw[Nat.zero_add,Nat.zero_add]at this;exact T.tr _ _ _ this e
 ·rw[z]; exact e
theorem zae.both'{β O:Type}{Q:(Array Keyed->β)->Ab->Prop}{p:Prop}{R R':O->Nat->Prop}{ip:O->Nat->Array Keyed->Decidable p}{A B:O->Nat->Array Keyed->StateT SortSt Sem β}(hR:∀ o q,R' o q->¬ p->R o q)
  (k:(∀ o q,R o q->zae n c (A o q) σ Q)->∀ o q,R' o q->p->zae n c (B o q) σ Q) (h:∀ o q,R o q->zae n c (A o q) σ Q):∀ o q,R' o q->zae n c (λit=>@ite _ p (ip o q it) (B o q it) (A o q it)) σ Q:=λo q r=>by
 by_cases z:p
 ·simp only[z,if_true]
  exact k h o q r z
 ·simp only[z,if_false]
  exact h o q (hR o q r z)
def LO(c:Cq)(a b:Array Nat)(o:KA)(q j:Nat):Prop:=∃ l,Ls o l/\LW c a b l q j
def HO(c:Cq)(a b:Array Nat)(o:KA)(q j:Nat):Prop:=∃ l,Ls o l/\HW c a b l q j
theorem LO.pb{o:KA}(h:LO c a b o q j)(hq:q < a.size)(hj:j < b.size)(e:c (b.getD j 0) (a.getD q 0)=true):LO c a b (λit=>(o it).push (kas_item it (b.getD j 0))) q (j+1):=by
 obtain⟨l,hl,hw⟩:=h;have:=Lw.pb hw (by simpa using hq) (by simpa using hj) (by rw[gt,gt]; exact e);rw[gt]at this; exact⟨_,hl.push _,this⟩
theorem LO.pa{o:KA}(h:LO c a b o q j)(hq:q < a.size)(hj:j < b.size)(e:c (b.getD j 0) (a.getD q 0)=false):LO c a b (λit=>(o it).push (kas_item it (a.getD q 0))) (q+1) j:=by
 obtain⟨l,hl,hw⟩:=h;have:=Lw.pa hw (by simpa using hq) (by simpa using hj) (by rw[gt,gt]; exact e);rw[gt]at this; exact⟨_,hl.push _,this⟩
theorem LO.as{o:KA}(h:LO c a b o q j)(hj:j < b.size)(e:∀ i,i < k->c (b.getD j 0) (a.getD (q+i) 0)=false):LO c a b (λit=>o it++(a.map (kas_item it)).extract q (q+k)) (q+k) j:=by
 obtain⟨l,hl,hw⟩:=h;exact⟨_,hl.app ((Ls.of a).ext q (q+k)),Lw.as hw (by simpa using hj) λi hi=>by rw[gt,gt]; exact e i hi⟩
theorem LO.bs{o:KA}(h:LO c a b o q j)(hq:q < a.size)(e:∀ i,i < k->c (b.getD (j+i) 0) (a.getD q 0)=true):LO c a b (λit=>o it++(b.map (kas_item it)).extract j (j+k)) q (j+k):=by
 obtain⟨l,hl,hw⟩:=h;exact⟨_,hl.app ((Ls.of b).ext j (j+k)),Lw.bs hw (by simpa using hq) λi hi=>by rw[gt,gt]; exact e i hi⟩
theorem LO.done{o:KA}(h:LO c a b o q j)(e:q=a.size∨j=b.size):Ls (λit=>o it++(a.map (kas_item it)).extract q a.size++(b.map (kas_item it)).extract j b.size) (Wd c a b):=by
 obtain⟨l,hl,hw⟩:=h;have:=(hl.app ((Ls.of a).ext q a.size)).app ((Ls.of b).ext j b.size);have e2:=Lw.done hw (by simpa using e);rw[Array.length_toList,Array.length_toList]at e2;rw[e2]at this; exact this
theorem LO.last{o:KA}(h:LO c a b o q j)(m:MP n c a b)(e:q+1=a.size):Ls (λit=>o it++(b.map (kas_item it)).extract j b.size++(a.map (kas_item it)).extract q a.size) (Wd c a b):=by
 obtain⟨l,hl,hw⟩:=h;have:=(hl.app ((Ls.of b).ext j b.size)).app ((Ls.of a).ext q a.size);have e2:=Lw.last hw (by simpa using e) λi hi=>by
  rw[gt,gt,show q=a.size - 1 by lia]; exact m.ls i (by simpa using hi)
 rw[Array.length_toList,Array.length_toList]at e2;rw[e2]at this; exact this
theorem HO.pa{o:KA}(h:HO c a b o (q+1) j)(hq:q < a.size)(e:∀ y,y < j->c (b.getD y 0) (a.getD q 0)=true):HO c a b (λit=>(o it).push (kas_item it (a.getD q 0))) q j:=by
 obtain⟨l,hl,hw⟩:=h;have:=Hw.pa hw (by simpa using hq) λy hy=>by rw[gt,gt]; exact e y hy
 rw[gt]at this; exact⟨_,hl.push _,this⟩
theorem HO.pb{o:KA}(h:HO c a b o q (j+1))(hj:j < b.size)(e:∀ x,x < q->c (b.getD j 0) (a.getD x 0)=false):HO c a b (λit=>(o it).push (kas_item it (b.getD j 0))) q j:=by
 obtain⟨l,hl,hw⟩:=h;have:=Hw.pb hw (by simpa using hj) λy hy=>by rw[gt,gt]; exact e y hy
 rw[gt]at this; exact⟨_,hl.push _,this⟩
theorem HO.as{o:KA}(h:HO c a b o q j)(hk:k<=q)(e:∀ i,k<=i->i < q->∀ y,y < j->c (b.getD y 0) (a.getD i 0)=true):HO c a b (λit=>o it++((a.map (kas_item it)).extract k q).reverse) k j:=by
 obtain⟨l,hl,hw⟩:=h;exact⟨_,hl.app ((Ls.of a).ext k q).rev,Hw.as hw hk λi h1 h2 y hy=>by rw[gt,gt]; exact e i h1 h2 y hy⟩
theorem HO.bs{o:KA}(h:HO c a b o q j)(hk:k<=j)(e:∀ i,k<=i->i < j->∀ x,x < q->c (b.getD i 0) (a.getD x 0)=false):HO c a b (λit=>o it++((b.map (kas_item it)).extract k j).reverse) q k:=by
 obtain⟨l,hl,hw⟩:=h;exact⟨_,hl.app ((Ls.of b).ext k j).rev,Hw.bs hw hk λi h1 h2 y hy=>by rw[gt,gt]; exact e i h1 h2 y hy⟩
theorem HO.done{o:KA}(h:HO c a b o q j)(e:q=0∨j=0):Ls (λit=>(a.map (kas_item it)).extract 0 q++(b.map (kas_item it)).extract 0 j++(o it).reverse) (Wd c a b):=by
 obtain⟨l,hl,hw⟩:=h;have:=(((Ls.of a).ext 0 q).app ((Ls.of b).ext 0 j)).app hl.rev;rw[Hw.done hw e]at this; exact this
theorem HO.first{o:KA}(h:HO c a b o q j)(m:MP n c a b)(e:j=1):Ls (λit=>(b.map (kas_item it)).extract 0 j++(a.map (kas_item it)).extract 0 q++(o it).reverse) (Wd c a b):=by
 subst e;obtain⟨l,hl,hw⟩:=h;have:=(((Ls.of b).ext 0 1).app ((Ls.of a).ext 0 q)).app hl.rev;rw[Hw.first hw (by simpa using m.b0) λ_=>by rw[gt,gt]; exact m.fs]at this; exact this
theorem zae.gal{β:Type}{g:Array Keyed->Option Nat->StateT SortSt Sem β}{Q:(Array Keyed->β)->Ab->Prop}(T:Tot n c)(left:Bool)(key:Nat)(ix:Array Nat)(base m hint:Nat)(hk:key < n)(hix:∀ i,i < ix.size->ix.getD i 0 < n)(hb:base+m<=ix.size)(hh:hint < m)
  (up:Ups c ix base m) (ne:∀ i,i < m->ix.getD (base+i) 0≠key) (h:∀ k,k<=m->(∀ i,i < k->c (ix.getD (base+i) 0) key=true)->(∀ i,k<=i->i < m->c key (ix.getD (base+i) 0)=true)->zae n c (λit=>g it (some k)) σ Q) :
  zae n c (λit=>zmr left (kas_item it key) (ix.map (kas_item it)) base m hint >>= g it) σ Q:=by
 refine zae.bind (zeU T left key ix base m hint hk hix hb hh up ne) ?_;rintro r τ ⟨e,k,⟨h1,h2,h3⟩,rfl⟩;rw[e];exact h k h1 h2 h3
structure B7 where
 r:Option KA
 o:KA
 i:Nat
 j:Nat
 u:Nat
 v:Nat
 w:Nat
noncomputable abbrev c5(it:Array Keyed)(q:B7):Option (Array Keyed)×Array Keyed×Nat×Nat×Nat:=(q.r.map (· it),q.o it,q.i,q.j,q.u)
noncomputable abbrev c6(it:Array Keyed)(q:B7):Option (Array Keyed)×Array Keyed×Nat×Nat×Nat×Nat:=(q.r.map (· it),q.o it,q.i,q.j,q.u,q.v)
noncomputable abbrev c7(it:Array Keyed)(q:B7):Option (Array Keyed)×Array Keyed×Nat×Nat×Nat×Nat×Nat:=(q.r.map (· it),q.o it,q.i,q.j,q.u,q.v,q.w)
def Fn(c:Cq)(a b:Array Nat)(σ:Ab)(q:B7)(τ:Ab):Prop:=KS σ τ/\∃ f,q.r=some f/\Ls f (Wd c a b)
structure Jo(c:Cq)(a b:Array Nat)(σ:Ab)(q:B7)(τ:Ab):Prop where
 ks:KS σ τ
 e:q.r=none
 x:LO c a b q.o q.i q.j
 ha:q.i+1 < a.size
 hb:q.j < b.size
structure Ra(c:Cq)(a b:Array Nat)(j m:Nat)(o:KA)(q:Nat):Prop where
 x:LO c a b o q j
 ha:q+1 < a.size
 m:m<=q+j
structure Ra1(c:Cq)(a b:Array Nat)(j m:Nat)(o:KA)(q:Nat):Prop extends Ra c a b j m o q where
 w:c (b.getD j 0) (a.getD q 0)=true
structure Ra2(c:Cq)(a b:Array Nat)(j m k:Nat)(o:KA)(q:Nat):Prop extends Ra c a b j m o q where
 hk:k<=a.size - q
 lo:∀ i,i < k->c (a.getD (q+i) 0) (b.getD j 0)=true
 hi:∀ i,k<=i->i < a.size - q->c (b.getD j 0) (a.getD (q+i) 0)=true
structure Rb(c:Cq)(a b:Array Nat)(q m:Nat)(o:KA)(j:Nat):Prop where
 x:LO c a b o q j
 hb:j < b.size
 m:m<=q+j
structure Rb1(c:Cq)(a b:Array Nat)(q m:Nat)(o:KA)(j:Nat):Prop extends Rb c a b q m o j where
 w:c (b.getD j 0) (a.getD q 0)=false
structure Rb2(c:Cq)(a b:Array Nat)(q m k:Nat)(o:KA)(j:Nat):Prop extends Rb c a b q m o j where
 hk:k<=b.size - j
 lo:∀ i,i < k->c (b.getD (j+i) 0) (a.getD q 0)=true
 hi:∀ i,k<=i->i < b.size - j->c (a.getD q 0) (b.getD (j+i) 0)=true
def P6(c:Cq)(a b:Array Nat)(σ:Ab)(t:Nat)(q:B7)(τ:Ab):Prop:=Fn c a b σ q τ∨(Jo c a b σ q τ/\t+1<=q.i+q.j)
theorem zrh(T:Tot n c)(a b:Array Nat)(m:MP n c a b):zae n c (λit=>znF (a.map (kas_item it)) (b.map (kas_item it))) σ λr σ'=>KS σ σ'/\Ls r (Wd c a b):=by
 have ha:=m.ha;have hb:=m.hb;have a0:=m.a0;have b0:=m.b0;have x0:LO c a b (λit=>#[kas_item it (b.getD 0 0)]) 0 1:=LO.pb (o:=λ_=>#[]) ⟨[],λ_=>rfl,rfl⟩ a0 b0 m.fs;refine zcr ?_;refine zae.bindE (zaP.elem b0) ?_
 refine' zae.cong (λit=>by rw[Array.size_map,Array.size_map]) ?_
 refine zae.dec (λc1=>?_) (λc1=>?_)
 ·exact zae.pure ⟨⟨rfl,rfl⟩,x0.done (.inr (by simpa using c1))⟩
 refine zae.dec (λc2=>?_) (λc2=>?_)
 ·exact zae.pure ⟨⟨rfl,rfl⟩,x0.last m (by simpa using c2)⟩
 simp at c1 c2;refine zae.bindE zaP.get ?_;dsimp only [con];refine zae.lp c5 (λk q τ=>Jo c a b σ q τ/\a.size+b.size+1<=q.i+q.j+k) (Fn c a b σ) (λq τ h=>by have:=h.1.ha; have:=h.1.hb; have:=h.2; lia) (λx k q τ hI=>?_) ⟨none,_,0,1,σ.mg,0,0⟩ ⟨⟨⟨rfl,rfl⟩,rfl,x0,(show 0+1 < a.size by lia),(show 1 < b.size by lia)⟩,by simp; lia⟩ λq τ h=>?_
 ·have hJ:=hI.1;have hp:=hI.2;dsimp only;refine zae.lp c6 (λk' p τ2=>Jo c a b σ p τ2/\q.i+q.j<=p.i+p.j/\p.i+p.j+k'=q.i+q.j+(a.size+b.size)) (P6 c a b σ (q.i+q.j)) (λp τ2 h=>by have:=h.1.ha; have:=h.1.hb; have:=h.2; lia) (λy k' p τ2 hI=>?_) ⟨none,q.o,q.i,q.j,0,0,0⟩ ⟨⟨hJ.ks,rfl,hJ.x,hJ.ha,hJ.hb⟩,Nat.le_refl _,by simp⟩ λp τ2 h2=>?_
  ·have hK:=hI.1;have hg:=hI.2.1;have hq:=hI.2.2;have hia:=hK.ha;have hjb:=hK.hb;dsimp only;refine zae.bindE (zaP.elem hjb) ?_;refine zae.bindE (zaP.elem (show p.i < a.size by lia)) ?_;refine zae.bindE (zaP.lt (zaY hb hjb) (zaY ha (by lia))) ?_;dsimp only;refine zae.dec (λhc=>?_) (λhc=>?_)
   ·refine zae.bindE (zaP.elem hjb) ?_;have x1:=hK.x.pb (by lia) hjb hc;refine zae.dec (λc3=>?_) (λc3=>?_)
    ·exact zae.pure (.inl ⟨⟨some _,_,_,_,_,_,0⟩,.inl ⟨hK.ks,_,rfl,x1.done (.inr (by simpa using c3))⟩,rfl⟩)
    simp at c3;refine zae.dec (λc4=>?_) (λc4=>?_)
    ·exact zae.pure (.inl ⟨⟨none,_,_,_,_,_,0⟩,.inr ⟨⟨hK.ks,rfl,x1,hia,(show p.j+1 < b.size by lia)⟩,(show q.i+q.j+1<=p.i+(p.j+1)by lia)⟩,rfl⟩)
    ·exact zae.pure (.inr ⟨⟨none,_,_,_,_,_,0⟩,⟨⟨hK.ks,rfl,x1,hia,(show p.j+1 < b.size by lia)⟩,(show q.i+q.j<=p.i+(p.j+1)by lia),(show p.i+(p.j+1)+k'=q.i+q.j+(a.size+b.size)by lia)⟩,rfl⟩)
   ·refine zae.bindE (zaP.elem (show p.i < a.size by lia)) ?_;have x1:=hK.x.pa (by lia) hjb (Bool.eq_false_iff.mpr hc);refine zae.dec (λc3=>?_) (λc3=>?_)
    ·exact zae.pure (.inl ⟨⟨some _,_,_,_,_,_,0⟩,.inl ⟨hK.ks,_,rfl,x1.last m (by simpa using c3)⟩,rfl⟩)
    simp at c3;refine zae.dec (λc4=>?_) (λc4=>?_)
    ·exact zae.pure (.inl ⟨⟨none,_,_,_,_,_,0⟩,.inr ⟨⟨hK.ks,rfl,x1,(show p.i+1+1 < a.size by lia),hjb⟩,(show q.i+q.j+1<=p.i+1+p.j by lia)⟩,rfl⟩)
    ·exact zae.pure (.inr ⟨⟨none,_,_,_,_,_,0⟩,⟨⟨hK.ks,rfl,x1,(show p.i+1+1 < a.size by lia),hjb⟩,(show q.i+q.j<=p.i+1+p.j by lia),(show p.i+1+p.j+k'=q.i+q.j+(a.size+b.size)by lia)⟩,rfl⟩)
  ·rcases h2 with ⟨ks2,f,e0,hf⟩ | ⟨hK,hp2⟩
   ·dsimp only [c6];rw[e0];exact zae.pure (.inl ⟨⟨some f,_,_,_,_,0,0⟩,⟨ks2,f,rfl,hf⟩,rfl⟩)
   ·have e0:=hK.e;dsimp only [c6];rw[e0];dsimp only [Option.map];refine zcr ?_;refine zae.lp c7 (λ_ p τ4=>Jo c a b σ p τ4/\q.i+q.j+1<=p.i+p.j) (P6 c a b σ (q.i+q.j)) (λp τ4 h=>.inr h) (λy k' p τ4 hI=>?_) ⟨none,p.o,p.i,p.j,q.u+1,p.u,p.v⟩ ⟨⟨hK.ks,rfl,hK.x,hK.ha,hK.hb⟩,hp2⟩ λp2 τ4 h4=>?_
    ·obtain⟨r4,out4,qa,qb,gg,ac4,bc4⟩:=p;have hK:=hI.1;have hp4:=hI.2;have kg:∀ g,KS σ ⟨τ4.p,τ4.pend,g⟩:=λg=>hK.ks;have hqb:=hK.hb;have r0:Ra c a b qb (q.i+q.j+1) out4 qa:=⟨hK.x,hK.ha,hp4⟩;dsimp only at hqb ⊢;clear hK hI hp4 e0 hp2 hp hJ;revert gg;refine zae.ite2 (λg=>g - 1) ?_ λgq=>?_
     ·intro g it; rfl
     ·refine zae.bindE zd6 ?_;refine zae.bindE (zaP.elem hqb) ?_;have hqa:=r0.ha;refine zae.gal T false (b.getD qb 0) a qa (a.size - qa) 0 (zaY hb hqb) (λi hi=>zaY ha hi) (by lia) (by lia) (m.ua.sub (by lia)) (λi hi=>m.ne _ _ (by lia) hqb) λk5 g1 g2 g3=>?_;dsimp only;have r1:Ra2 c a b qb (q.i+q.j+1) k5 out4 qa:=⟨r0,g1,g2,g3⟩;clear r0 hqa g1 g2 g3;revert out4 qa;refine zae.both' (R:=Ra1 c a b qb (q.i+q.j+1)) (λo s r z=>⟨r.toRa,r.hi 0 (by lia) (by have:=r.ha; lia)⟩) (λgo o s r d0=>?_) (λo s r=>?_)
      ·have x1:=r.x.as (k:=k5) hqb λi hi=>T.asym (r.lo i hi);have hk5:=r.hk;have hm4:=r.m;refine zae.dec (λd1=>?_) (λd1=>?_)
       ·exact zae.pure (.inl ⟨⟨some _,_,_,_,_,_,_⟩,.inl ⟨kg _,_,rfl,x1.last m (by simpa using d1)⟩,rfl⟩)
       simp at d1;refine zae.dec (λd6=>?_) (λd6=>?_)
       ·exact zae.pure (.inl ⟨⟨some _,_,_,_,_,_,_⟩,.inl ⟨kg _,_,rfl,x1.done (.inl (by simpa using d6))⟩,rfl⟩)
       simp at d6;exact go _ _ ⟨⟨x1,by lia,by lia⟩,r.hi k5 (nLr _) (by lia)⟩
      ·have hsa:=r.ha;have hm4:=r.m;refine zae.bindE (zaP.elem hqb) ?_;have x1:=r.x.pb (by lia) hqb r.w;refine zae.dec (λd2=>?_) (λd2=>?_)
       ·exact zae.pure (.inl ⟨⟨some _,_,_,_,_,_,_⟩,.inl ⟨kg _,_,rfl,x1.done (.inr (by simpa using d2))⟩,rfl⟩)
       simp at d2;refine zae.bindE (zaP.elem (show s < a.size by lia)) ?_;refine zae.gal T true (a.getD s 0) b (qb+1) (b.size - (qb+1)) 0 (zaY ha (by lia)) (λi hi=>zaY hb hi) (by lia) (by lia) (m.ub.sub (by lia)) (λi hi=>(m.ne _ _ (by lia) (by lia)).symm) λk6 g1 g2 g3=>?_;dsimp only;obtain⟨o2,ho⟩:∃ o2:KA,∀ it,(o it).push (kas_item it (b.getD qb 0))=o2 it:=⟨_,λ_=>rfl⟩;simp only[ho];have r1:Rb2 c a b s (q.i+q.j+1) k6 o2 (qb+1):=⟨⟨by rw[<- funext ho]; exact x1,by lia,by lia⟩,g1,g2,g3⟩;clear ho d2 x1 g1 g2 g3 r hm4;generalize qb+1=jb at r1 ⊢;clear hqb;revert o2 jb;refine zae.both' (R:=Rb1 c a b s (q.i+q.j+1)) (λo j r z=>⟨r.toRb,T.asym (r.hi 0 (by lia) (by have:=r.hb; lia))⟩) (λgo o jb r d3=>?_) (λo jb r=>?_)
       ·have x1:=r.x.bs (k:=k6) (by lia) r.lo;have hk6:=r.hk;have hm4:=r.m;refine zae.dec (λd4=>?_) (λd4=>?_)
        ·exact zae.pure (.inl ⟨⟨some _,_,_,_,_,_,_⟩,.inl ⟨kg _,_,rfl,x1.done (.inr (by simpa using d4))⟩,rfl⟩)
        simp at d4;exact go _ _ ⟨⟨x1,by lia,by lia⟩,T.asym (r.hi k6 (nLr _) (by lia))⟩
       ·have hjb:=r.hb;have hm4:=r.m;refine zae.bindE (zaP.elem (show s < a.size by lia)) ?_;have x1:=r.x.pa (by lia) hjb r.w;refine zae.dec (λd5=>?_) (λd5=>?_)
        ·exact zae.pure (.inl ⟨⟨some _,_,_,_,_,_,_⟩,.inl ⟨kg _,_,rfl,x1.last m (by simpa using d5)⟩,rfl⟩)
        simp at d5;refine zae.dec (λd7=>?_) (λd7=>?_)
        ·exact zae.pure (.inl ⟨⟨none,_,_,_,_,_,_⟩,.inr ⟨⟨kg _,rfl,x1,(show s+1+1 < a.size by lia),hjb⟩,(show q.i+q.j+1<=s+1+jb by lia)⟩,rfl⟩)
        ·exact zae.pure (.inr ⟨⟨none,_,_,_,_,_,_⟩,⟨⟨kg _,rfl,x1,(show s+1+1 < a.size by lia),hjb⟩,(show q.i+q.j+1<=s+1+jb by lia)⟩,rfl⟩)
    ·rcases h4 with ⟨ks2,f,e0,hf⟩ | ⟨hK,hp2⟩
     ·dsimp only [c7];rw[e0];exact zae.pure (.inl ⟨⟨some f,_,_,_,_,0,0⟩,⟨ks2,f,rfl,hf⟩,rfl⟩)
     ·have e0:=hK.e;dsimp only [c7];rw[e0];dsimp only [Option.map];refine zae.bindE zd6 ?_;exact zae.pure (.inr ⟨⟨none,_,_,_,_,0,0⟩,⟨⟨hK.ks,rfl,hK.x,hK.ha,hK.hb⟩,by dsimp only; lia⟩,rfl⟩)
 ·obtain⟨ks,f,e0,hf⟩:=h;dsimp only [c5];rw[e0];exact zae.pure ⟨ks,hf⟩
end
section
variable {n:Nat}{c:Cq}{σ:Ab}{a b:Array Nat}
noncomputable abbrev d5(it:Array Keyed)(q:B7):Option (Array Keyed)×Nat×Nat×Array Keyed×Nat:=(q.r.map (· it),q.i,q.j,q.o it,q.u)
noncomputable abbrev d6(it:Array Keyed)(q:B7):Option (Array Keyed)×Nat×Nat×Array Keyed×Nat×Nat:=(q.r.map (· it),q.i,q.j,q.o it,q.u,q.v)
noncomputable abbrev d7(it:Array Keyed)(q:B7):Option (Array Keyed)×Nat×Nat×Array Keyed×Nat×Nat×Nat:=(q.r.map (· it),q.i,q.j,q.o it,q.u,q.v,q.w)
structure Ji(c:Cq)(a b:Array Nat)(σ:Ab)(q:B7)(τ:Ab):Prop where
 ks:KS σ τ
 e:q.r=none
 x:HO c a b q.o q.i q.j
 a1:1<=q.i
 a2:q.i < a.size
 b1:2<=q.j
 b2:q.j<=b.size
structure Rc(c:Cq)(a b:Array Nat)(j m:Nat)(o:KA)(q:Nat):Prop where
 x:HO c a b o (q+1) j
 ha:q+1 < a.size
 m:q+1+j+1<=m
structure Rc1(c:Cq)(a b:Array Nat)(j m:Nat)(o:KA)(q:Nat):Prop extends Rc c a b (j+1) m o q where
 w:∀ i,i < q+1->c (a.getD i 0) (b.getD j 0)=true
structure Rc2(c:Cq)(a b:Array Nat)(j m k d:Nat)(o:KA)(q:Nat):Prop extends Rc c a b (j+1) m o q where
 hk:k<=q+1
 hd:q+1 - k=d
 lo:∀ i,i < k->c (a.getD i 0) (b.getD j 0)=true
 hi:∀ i,k<=i->i < q+1->c (b.getD j 0) (a.getD i 0)=true
structure Rd(c:Cq)(a b:Array Nat)(q m:Nat)(o:KA)(j:Nat):Prop where
 x:HO c a b o (q+1) j
 g:2<=j
 hb:j<=b.size
 m:q+j+1<=m
structure Rd1(c:Cq)(a b:Array Nat)(q m:Nat)(o:KA)(j:Nat):Prop extends Rd c a b q m o j where
 w:∀ i,i < j->c (b.getD i 0) (a.getD q 0)=true
structure Rd2(c:Cq)(a b:Array Nat)(q m k d:Nat)(o:KA)(j:Nat):Prop extends Rd c a b q m o j where
 hk:k<=j
 hd:j - k=d
 lo:∀ i,i < k->c (b.getD i 0) (a.getD q 0)=true
 hi:∀ i,k<=i->i < j->c (a.getD q 0) (b.getD i 0)=true
def H6(c:Cq)(a b:Array Nat)(σ:Ab)(t:Nat)(q:B7)(τ:Ab):Prop:=Fn c a b σ q τ∨(Ji c a b σ q τ/\q.i+q.j+1<=t)
theorem zrv(T:Tot n c)(a b:Array Nat)(m:MP n c a b):zae n c (λit=>znG (a.map (kas_item it)) (b.map (kas_item it))) σ λr σ'=>KS σ σ'/\Ls r (Wd c a b):=by
 have ha:=m.ha;have hb:=m.hb;have a0:=m.a0;have b0:=m.b0;have x0:HO c a b (λit=>#[kas_item it (a.getD (a.size - 1) 0)]) (a.size - 1) b.size:=by
  refine HO.pa (o:=λ_=>#[]) ⟨[],λ_=>rfl,?_⟩ (by lia) m.ls;show mrg _ (a.toList.take (a.size - 1+1)) (b.toList.take b.size)++[]=_;rw[List.append_nil,List.take_of_length_le (by simp; lia),List.take_of_length_le (by simp)]
 refine zcr ?_;dsimp only
 refine' zae.cong (λit=>by rw[Array.size_map,Array.size_map]) ?_
 refine zae.bindE (zaP.elem (show a.size - 1 < a.size by lia)) ?_;refine zae.dec (λc1=>?_) (λc1=>?_)
 ·exact zae.pure ⟨⟨rfl,rfl⟩,x0.done (.inl (by simpa using c1))⟩
 refine zae.dec (λc2=>?_) (λc2=>?_)
 ·exact zae.pure ⟨⟨rfl,rfl⟩,x0.first m (by simpa using c2)⟩
 simp at c1 c2;refine zae.bindE zaP.get ?_;dsimp only [con];refine zae.lp d5 (λk q τ=>Ji c a b σ q τ/\q.i+q.j<=k+2) (Fn c a b σ) (λq τ h=>by have:=h.1.a1; have:=h.1.b1; have:=h.2; lia) (λx k q τ hI=>?_) ⟨none,_,a.size - 1,b.size,σ.mg,0,0⟩ ⟨⟨⟨rfl,rfl⟩,rfl,x0,(show 1<=a.size - 1 by lia),(show a.size - 1 < a.size by lia),(show 2<=b.size by lia),Nat.le_refl _⟩,by simp; lia⟩ λq τ h=>?_
 ·have hJ:=hI.1;have hp:=hI.2;have g2:=hJ.a2;have g4:=hJ.b2;dsimp only;refine zae.lp d6 (λk' p τ2=>Ji c a b σ p τ2/\p.i+p.j<=q.i+q.j/\p.i+p.j+(a.size+b.size)=q.i+q.j+k') (H6 c a b σ (q.i+q.j)) (λp τ2 h=>by have:=h.1.a1; have:=h.1.b1; have:=h.2; lia) (λy k' p τ2 hI=>?_) ⟨none,q.o,q.i,q.j,0,0,0⟩ ⟨⟨hJ.ks,rfl,hJ.x,hJ.a1,hJ.a2,hJ.b1,hJ.b2⟩,Nat.le_refl _,by simp⟩ λp τ2 h2=>?_
  ·obtain⟨r2,out2,ja,jb,ac,bc,w2⟩:=p;have hK:=hI.1;have hg:ja+jb<=q.i+q.j:=hI.2.1;have hq:ja+jb+(a.size+b.size)=q.i+q.j+(k'+1):=hI.2.2;have h1:1<=ja:=hK.a1;have h2:ja < a.size:=hK.a2;have h3:2<=jb:=hK.b1;have h4:jb<=b.size:=hK.b2;have kk:=hK.ks;have hx:HO c a b out2 ja jb:=hK.x;clear hK hI hJ hp g2 g4;obtain⟨jc,rfl⟩:∃ jc,ja=jc+1:=⟨ja - 1,by lia⟩;obtain⟨jd,rfl⟩:∃ jd,jb=jd+1:=⟨jb - 1,by lia⟩;dsimp only;simp only[Nat.add_sub_cancel];refine zae.bindE (zaP.elem (show jd < b.size by lia)) ?_;refine zae.bindE (zaP.elem (show jc < a.size by lia)) ?_;refine zae.bindE (zaP.lt (zaY hb (by lia)) (zaY ha (by lia))) ?_;dsimp only;refine zae.dec (λhc=>?_) (λhc=>?_)
   ·refine zae.bindE (zaP.elem (show jc < a.size by lia)) ?_;have x1:=hx.pa (by lia) λy hy=>m.bl T (show y<=jd by lia) (by lia) hc;refine zae.dec (λc3=>?_) (λc3=>?_)
    ·exact zae.pure (.inl ⟨⟨some _,_,_,_,_,_,0⟩,.inl ⟨kk,_,rfl,x1.done (.inl (by simpa using c3))⟩,rfl⟩)
    simp at c3;refine zae.dec (λc4=>?_) (λc4=>?_)
    ·exact zae.pure (.inl ⟨⟨none,_,_,_,_,_,0⟩,.inr ⟨⟨kk,rfl,x1,(show 1<=jc by lia),(show jc < a.size by lia),h3,h4⟩,(show jc+(jd+1)+1<=q.i+q.j by lia)⟩,rfl⟩)
    ·exact zae.pure (.inr ⟨⟨none,_,_,_,_,_,0⟩,⟨⟨kk,rfl,x1,(show 1<=jc by lia),(show jc < a.size by lia),h3,h4⟩,(show jc+(jd+1)<=q.i+q.j by lia),(show jc+(jd+1)+(a.size+b.size)=q.i+q.j+k' by lia)⟩,rfl⟩)
   ·refine zae.bindE (zaP.elem (show jd < b.size by lia)) ?_;have x1:=hx.pb (by lia) λx hx=>m.ax T (show x<=jc by lia) (by lia) (m.ab T (by lia) (by lia) (Bool.eq_false_iff.mpr hc));refine zae.dec (λc3=>?_) (λc3=>?_)
    ·exact zae.pure (.inl ⟨⟨some _,_,_,_,_,_,0⟩,.inl ⟨kk,_,rfl,x1.first m (by simpa using c3)⟩,rfl⟩)
    simp at c3;refine zae.dec (λc4=>?_) (λc4=>?_)
    ·exact zae.pure (.inl ⟨⟨none,_,_,_,_,_,0⟩,.inr ⟨⟨kk,rfl,x1,h1,h2,(show 2<=jd by lia),(show jd<=b.size by lia)⟩,(show jc+1+jd+1<=q.i+q.j by lia)⟩,rfl⟩)
    ·exact zae.pure (.inr ⟨⟨none,_,_,_,_,_,0⟩,⟨⟨kk,rfl,x1,h1,h2,(show 2<=jd by lia),(show jd<=b.size by lia)⟩,(show jc+1+jd<=q.i+q.j by lia),(show jc+1+jd+(a.size+b.size)=q.i+q.j+k' by lia)⟩,rfl⟩)
  ·rcases h2 with ⟨ks2,f,e0,hf⟩ | ⟨hK,hp2⟩
   ·dsimp only [d6];rw[e0];exact zae.pure (.inl ⟨⟨some f,_,_,_,_,0,0⟩,⟨ks2,f,rfl,hf⟩,rfl⟩)
   ·have e0:=hK.e;dsimp only [d6];rw[e0];dsimp only [Option.map];refine zcr ?_;refine zae.lp d7 (λ_ p τ4=>Ji c a b σ p τ4/\p.i+p.j+1<=q.i+q.j) (H6 c a b σ (q.i+q.j)) (λp τ4 h=>.inr h) (λy k' p τ4 hI=>?_) ⟨none,p.o,p.i,p.j,q.u+1,p.u,p.v⟩ ⟨⟨hK.ks,rfl,hK.x,hK.a1,hK.a2,hK.b1,hK.b2⟩,hp2⟩ λp2 τ4 h4=>?_
    ·obtain⟨r4,out4,qa,qb,gg,ac4,bc4⟩:=p;have hK:=hI.1;have hp4:qa+qb+1<=q.i+q.j:=hI.2;have h1:1<=qa:=hK.a1;have h2:qa < a.size:=hK.a2;have h3:2<=qb:=hK.b1;have h4:qb<=b.size:=hK.b2;have hx:HO c a b out4 qa qb:=hK.x;have kg:∀ g,KS σ ⟨τ4.p,τ4.pend,g⟩:=λg=>hK.ks;clear hK hI hJ hp g2 g4 hp2 e0;obtain⟨qd,rfl⟩:∃ qd,qa=qd+1:=⟨qa - 1,by lia⟩;obtain⟨qc,rfl⟩:∃ qc,qb=qc+1:=⟨qb - 1,by lia⟩;have r0:Rc c a b (qc+1) (q.i+q.j) out4 qd:=⟨hx,h2,hp4⟩;clear h1 h2 hp4 hx;dsimp only;simp only[Nat.add_sub_cancel];revert gg;refine zae.ite2 (λg=>g - 1) ?_ λgq=>?_
     ·intro g it; rfl
     ·refine zae.bindE zd6 ?_;refine zae.bindE (zaP.elem (show qc < b.size by lia)) ?_;have hqa:=r0.ha;refine zae.gal T false (b.getD qc 0) a 0 (qd+1) qd (zaY hb (by lia)) (λi hi=>zaY ha hi) (by lia) (by lia) (m.ua.sub (by lia)) (λi hi=>m.ne _ _ (by lia) (by lia)) λk5 g1 g2 g3=>?_;simp only[Nat.zero_add]at g2 g3;dsimp only;obtain⟨m5,hm⟩:∃ m5,qd+1 - k5=m5:=⟨_,rfl⟩;simp only[hm];have r1:Rc2 c a b qc (q.i+q.j) k5 m5 out4 qd:=⟨r0,g1,hm,g2,g3⟩;clear r0 hqa g1 g2 g3 hm;revert out4 qd;refine zae.both' (R:=Rc1 c a b qc (q.i+q.j)) (λo s r z=>⟨r.toRc,λi hi=>r.lo i (by have:=r.hk; have:=r.hd; lia)⟩) (λgo o s r d0=>?_) (λo s r=>?_)
      ·have x1:=r.x.as r.hk λi h1 h2 y hy=>m.bl T (show y<=qc by lia) (by lia) (r.hi i h1 h2);have hk5:=r.hk;have hm4:=r.m;have hsa:=r.ha;have hlo:=r.lo;have hd:=r.hd;refine zae.dec (λd1=>?_) (λd1=>?_)
       ·exact zae.pure (.inl ⟨⟨some _,_,_,_,_,_,_⟩,.inl ⟨kg _,_,rfl,x1.done (.inl (by simpa using d1))⟩,rfl⟩)
       simp at d1;clear r;obtain⟨j5,rfl⟩:∃ j5,k5=j5+1:=⟨k5 - 1,by lia⟩;exact go _ j5 ⟨⟨x1,by lia,by lia⟩,hlo⟩
      ·have hsa:=r.ha;have hm4:=r.m;refine zae.bindE (zaP.elem (show qc < b.size by lia)) ?_;have x1:=r.x.pb (by lia) λx hx=>T.asym (r.w x hx);refine zae.dec (λd2=>?_) (λd2=>?_)
       ·exact zae.pure (.inl ⟨⟨some _,_,_,_,_,_,_⟩,.inl ⟨kg _,_,rfl,x1.first m (by simpa using d2)⟩,rfl⟩)
       simp at d2;refine zae.bindE (zaP.elem (show s < a.size by lia)) ?_;refine zae.gal T true (a.getD s 0) b 0 qc (qc - 1) (zaY ha (by lia)) (λi hi=>zaY hb hi) (by lia) (by lia) (m.ub.sub (by lia)) (λi hi=>(m.ne _ _ (by lia) (by lia)).symm) λk6 g1 g2 g3=>?_;simp only[Nat.zero_add]at g2 g3;dsimp only;obtain⟨o2,ho⟩:∃ o2:KA,∀ it,(o it).push (kas_item it (b.getD qc 0))=o2 it:=⟨_,λ_=>rfl⟩;obtain⟨m6,hm⟩:∃ m6,qc - k6=m6:=⟨_,rfl⟩;simp only[ho,hm];have r1:Rd2 c a b s (q.i+q.j) k6 m6 o2 qc:=⟨⟨by rw[<- funext ho]; exact x1,by lia,by lia,by lia⟩,g1,hm,g2,g3⟩;clear ho d2 x1 g1 g2 g3 r hm4 h3 h4 hm;obtain⟨jc,rfl⟩:∃ jc,jc=qc:=⟨_,rfl⟩;revert o2 jc;refine zae.both' (R:=Rd1 c a b s (q.i+q.j)) (λo j r z=>⟨r.toRd,λi hi=>r.lo i (by have:=r.hk; have:=r.hd; lia)⟩) (λgo o jb r d3=>?_) (λo jb r=>?_)
       ·have x1:=r.x.bs r.hk λi h1 h2 x hx=>m.ax T (show x<=s by lia) (by lia) (r.hi i h1 h2);have hk6:=r.hk;have hm4:=r.m;have hjb:=r.hb;refine zae.dec (λd4=>?_) (λd4=>?_)
        ·exact zae.pure (.inl ⟨⟨some _,_,_,_,_,_,_⟩,.inl ⟨kg _,_,rfl,x1.first m (by simpa using d4)⟩,rfl⟩)
        simp at d4;refine zae.dec (λd8=>?_) (λd8=>?_)
        ·exact zae.pure (.inl ⟨⟨some _,_,_,_,_,_,_⟩,.inl ⟨kg _,_,rfl,x1.done (.inr (by simpa using d8))⟩,rfl⟩)
        simp at d8;exact go _ _ ⟨⟨x1,by lia,by lia,by lia⟩,r.lo⟩
       ·have hjb:=r.g;have hjc:=r.hb;have hm4:=r.m;refine zae.bindE (zaP.elem (show s < a.size by lia)) ?_;have x1:=r.x.pa (by lia) r.w;refine zae.dec (λd5=>?_) (λd5=>?_)
        ·exact zae.pure (.inl ⟨⟨some _,_,_,_,_,_,_⟩,.inl ⟨kg _,_,rfl,x1.done (.inl (by simpa using d5))⟩,rfl⟩)
        simp at d5;refine zae.dec (λd7=>?_) (λd7=>?_)
        ·exact zae.pure (.inl ⟨⟨none,_,_,_,_,_,_⟩,.inr ⟨⟨kg _,rfl,x1,(show 1<=s by lia),(show s < a.size by lia),hjb,hjc⟩,(show s+jb+1<=q.i+q.j by lia)⟩,rfl⟩)
        ·exact zae.pure (.inr ⟨⟨none,_,_,_,_,_,_⟩,⟨⟨kg _,rfl,x1,(show 1<=s by lia),(show s < a.size by lia),hjb,hjc⟩,(show s+jb+1<=q.i+q.j by lia)⟩,rfl⟩)
    ·rcases h4 with ⟨ks2,f,e0,hf⟩ | ⟨hK,hp2⟩
     ·dsimp only [d7];rw[e0];exact zae.pure (.inl ⟨⟨some f,_,_,_,_,0,0⟩,⟨ks2,f,rfl,hf⟩,rfl⟩)
     ·have e0:=hK.e;dsimp only [d7];rw[e0];dsimp only [Option.map];refine zae.bindE zd6 ?_;exact zae.pure (.inr ⟨⟨none,_,_,_,_,0,0⟩,⟨⟨hK.ks,rfl,hK.x,hK.a1,hK.a2,hK.b1,hK.b2⟩,by dsimp only; lia⟩,rfl⟩)
 ·obtain⟨ks,f,e0,hf⟩:=h;dsimp only [d5];rw[e0];exact zae.pure ⟨ks,hf⟩
end
end Ts
namespace Ts
theorem zrJ{P:List Nat}{s m k:Nat}(h:k<=m):(P.drop s).take m=(P.drop s).take k++(P.drop (s+k)).take (m - k):=by
 rw[<- List.drop_drop,<- List.take_add,Nat.add_sub_cancel' h]
theorem zjC(P:List Nat)(s m:Nat):P=P.take s++((P.drop s).take m++P.drop (s+m)):=by
 rw[<- List.drop_drop,List.take_append_drop,List.take_append_drop]
structure Mgd(c:Nat->Nat->Bool)(P P':List Nat)(sa na nb:Nat):Prop where
 le:sa+na+nb<=P.length
 e:P'=P.take sa++(mrg c ((P.drop sa).take na) ((P.drop (sa+na)).take nb)++P.drop (sa+na+nb))
section
variable {c:Nat->Nat->Bool}{P P':List Nat}{sa na nb:Nat}
theorem Mgd.len(h:Mgd c P P' sa na nb):(mrg c ((P.drop sa).take na) ((P.drop (sa+na)).take nb)).length=na+nb:=by
 rw[(zcE _ (Nat.le_refl _)).length_eq];have:=h.le;simp; lia
theorem Mgd.perm(h:Mgd c P P' sa na nb):P'.Perm P:=by
 rw[h.e]
 conv=>rhs; rw[zjC P sa (na+nb)]
 refine List.Perm.append_left _ ?_;rw[<- Nat.add_assoc];refine List.Perm.append_right _ ?_;rw[zrJ (P:=P) (s:=sa) (m:=na+nb) (k:=na) (by lia),Nat.add_sub_cancel_left];exact zcE _ (nLr _)
theorem Mgd.low(h:Mgd c P P' sa na nb){s m:Nat}(hs:s+m<=sa):(P'.drop s).take m=(P.drop s).take m:=by
 have le:=h.le;have e1:∀ Q:List Nat,(Q.drop s).take m=((Q.take sa).drop s).take m:=λQ=>by
  rw[List.drop_take,List.take_take,Nat.min_eq_left (by lia)]
 have e2:P'.take sa=P.take sa:=by
  rw[h.e]; exact List.take_left' (by simp; lia)
 rw[e1 P',e1 P,e2]
theorem Mgd.high(h:Mgd c P P' sa na nb){s:Nat}(hs:sa+na+nb<=s):P'.drop s=P.drop s:=by
 have le:=h.le;have e1:∀ Q:List Nat,Q.drop s=(Q.drop (sa+na+nb)).drop (s - (sa+na+nb)):=λQ=>by
  rw[List.drop_drop]; congr 1; lia
 rw[e1 P',e1 P,h.e]
 congr 1
 rw[<- List.append_assoc];refine List.drop_left' ?_;rw[List.length_append,h.len]; simp; lia
theorem Mgd.mid(h:Mgd c P P' sa na nb):(P'.drop sa).take (na+nb)=mrg c ((P.drop sa).take na) ((P.drop (sa+na)).take nb):=by
 have le:=h.le;rw[h.e,List.drop_left' (by simp; lia)];exact List.take_left' h.len
theorem zpq{A B:List Nat}{k1 k2:Nat}(hB:0 < B.length)(h1:∀ i,i < k1->i < A.length->c (B.getD 0 0) (A.getD i 0)=false)(h2:∀ y,k2<=y->y < B.length->∀ x,k1<=x->x < A.length->c (B.getD y 0) (A.getD x 0)=false) :
  mrg c A B=A.take k1++(mrg c (A.drop k1) (B.take k2)++B.drop k2):=by
 conv=>lhs; rw[<- List.take_append_drop k1 A]
 have e:B=B.getD 0 0::B.drop 1:=by
  have:=zbl (l:=B) (i:=0) hB
  rwa [List.drop_zero]at this
 have e1:mrg c (A.take k1++A.drop k1) B=A.take k1++mrg c (A.drop k1) B:=by
  rw[e];refine zjW λx hx=>?_;obtain⟨i,a1,a2,rfl⟩:=zcF hx;exact h1 i a1 a2
 rw[e1]
 congr 1
 conv=>lhs; rw[<- List.take_append_drop k2 B]
 refine zok λy hy x hx=>?_;obtain⟨i,a1,a2,rfl⟩:=zdT hy;obtain⟨i',b1,b2,rfl⟩:=zdT hx;exact h2 i a1 a2 i' b1 b2
theorem zhZ(h:sa+na<=P.length):((P.drop sa).take na).length=na:=by simp; lia
theorem zgO{i:Nat}(h:i < na):((P.drop sa).take na).getD i 0=P.getD (sa+i) 0:=by
 rw[List.getD_eq_getElem?_getD,List.getElem?_take_of_lt h,List.getElem?_drop,List.getD_eq_getElem?_getD]
theorem Mgd.of(hl:sa+na+nb<=P.length){k1 k2:Nat}(hk1:k1<=na)(hk2:k2<=nb)(hnb:0 < nb)(h1:∀ i,i < k1->c (P.getD (sa+na) 0) (P.getD (sa+i) 0)=false)(h2:∀ y,k2<=y->y < nb->∀ x,k1<=x->x < na->c (P.getD (sa+na+y) 0) (P.getD (sa+x) 0)=false)
  (e:P'=P.take (sa+k1)++(mrg c ((P.drop (sa+k1)).take (na - k1)) ((P.drop (sa+na)).take k2)++P.drop (sa+na+k2))):Mgd c P P' sa na nb:=by
 refine⟨hl,?_⟩;rw[e,zpq (A:=(P.drop sa).take na) (k1:=k1) (k2:=k2) (by rw[zhZ (by lia)]; exact hnb) (λi a1 a2=>by rw[zgO hnb,zgO (by lia)]; exact h1 i a1) (λy a1 a2 x b1 b2=>by
  rw[zhZ (by lia)]at a2 b2;rw[zgO a2,zgO b2]; exact h2 y a1 a2 x b1 b2)]
 rw[List.take_add,List.take_take,Nat.min_eq_left hk1,List.drop_take,List.drop_drop,List.take_take,Nat.min_eq_left hk2,List.drop_take,List.drop_drop];have:P.drop (sa+na+k2)=(P.drop (sa+na+k2)).take (nb - k2)++P.drop (sa+na+nb):=by
  conv=>lhs; rw[<- List.take_append_drop (nb - k2) (P.drop (sa+na+k2)),List.drop_drop]
  congr 2; lia
 conv=>lhs; rw[this]
 simp only[List.append_assoc]
theorem Mgd.none(hl:sa+na+nb<=P.length)(hnb:0 < nb){k1:Nat}(hk1:k1<=na)(h1:∀ i,i < k1->c (P.getD (sa+na) 0) (P.getD (sa+i) 0)=false)(h2:∀ y,y < nb->∀ x,k1<=x->x < na->c (P.getD (sa+na+y) 0) (P.getD (sa+x) 0)=false):Mgd c P P sa na nb:=by
 refine Mgd.of hl (k1:=k1) (k2:=0) hk1 (Nat.zero_le _) hnb h1 (λy _=>h2 y) ?_;rw[List.take_zero,zfZ,Nat.add_zero]
 conv=>lhs; rw[zjC P (sa+k1) (na - k1)]
 congr 3; lia
end
theorem zqk{L:List Nat}{i x:Nat}(h:i < L.length):(L.set i x).take (i+1)=L.take i++[x]/\∀ j,i < j->(L.set i x).drop j=L.drop j:=by
 refine⟨?_,λj hj=>List.drop_set_of_lt hj⟩;rw[List.take_succ_eq_append_getElem (by simpa using h)];simp[List.take_set_of_le]
theorem zkE{c:Nat->Nat->Bool}{P:List Nat}{s m:Nat}(h:s+m<=P.length):zdi c ((P.drop s).take m)↔∀ i j,i < j->j < m->c (P.getD (s+i) 0) (P.getD (s+j) 0)=true:=by
 unfold zdi;rw[List.pairwise_iff_getElem];have hl:((P.drop s).take m).length=m:=zhZ h;have g:∀ i (hi:i < ((P.drop s).take m).length),((P.drop s).take m)[i]=P.getD (s+i) 0:=λi hi=>by
  rw[<- zgO (na:=m) (by lia),List.getD_eq_getElem?_getD,List.getElem?_eq_getElem hi]; rfl
 constructor
 ·intro z i j hij hj;have:=z i j (by lia) (by lia) hij;rw[g,g]at this; exact this
 ·intro z i j hi hj hij;rw[g,g]; exact z i j hij (by lia)
end Ts
namespace Ts
open PySem PyProof.Rows PySem.W
section
variable {n:Nat}{c:Cq}{σ σ':Ab}
theorem zj4(s:Nat):∀ (l:List Nat) (k:Nat) (p:Array Nat),s+k+l.length<=p.size->(lay s (l.zipIdx k) p).toList=p.toList.take (s+k)++(l++p.toList.drop (s+k+l.length))
 | [],k,p,h=>by simp[lay]
 | x::l,k,p,h=>by
  have hs:s+k < p.toList.length:=by simp at h ⊢; lia
  have e:lay s ((x::l).zipIdx k) p=lay s (l.zipIdx (k+1)) (p.setIfInBounds (s+k) x):=rfl
  obtain⟨t1,t2⟩:=zqk (x:=x) hs
  rw[e,zj4 s l (k+1) _ (by simp at h ⊢; lia),Array.toList_setIfInBounds,<- Nat.add_assoc,t1,t2 _ (by lia)]
  rw[List.length_cons,show s+k+1+l.length=s+k+(l.length+1)by lia]
  simp
abbrev UpR(c:Cq)(P:List Nat)(l:List (Nat×Nat×Nat)):Prop:=∀ x∈l,zdi c.f ((P.drop x.1).take x.2.1)
theorem ups_of{p:Array Nat}{s m:Nat}(h:s+m<=p.size):zdi c.f ((p.toList.drop s).take m)↔Ups c p s m:=by
 rw[zkE (by simpa using h)];constructor
 ·intro z i j hij hj; have:=z i j hij hj; rw[gt,gt]at this; exact this
 ·intro z i j hij hj; rw[gt,gt]; exact z i j hij hj
theorem zcf{p:Array Nat}{s e i:Nat}(h:s+i < e):(p.extract s e).getD i 0=p.getD (s+i) 0:=by
 rw[<- gt,Array.toList_extract,List.extract_eq_take_drop,zgO (by lia),gt]
theorem za5.low:∀ {l:List (Nat×Nat×Nat)} {s e:Nat},za5 s l e->∀ x∈l,s<=x.1/\x.1+x.2.1<=e
 | [],_,_,_,x,hx=>by cases hx
 | y::r,s,e,⟨h1,h2,h3⟩,x,hx=>by
  rcases List.mem_cons.mp hx with rfl | hx
  ·have:=h3.le; exact⟨by lia,by lia⟩
  ·have:=za5.low h3 x hx; exact⟨by lia,this.2⟩
structure MgA(n:Nat)(c:Cq)(lo:Nat)(σ σ':Ab):Prop where
 k:L2.PermN n σ'.p
 ch:za5 0 σ'.pend.toList lo
 up:UpR c σ'.p.toList σ'.pend.toList
 sz:σ'.pend.size+1=σ.pend.size
 hi:σ'.p.toList.drop lo=σ.p.toList.drop lo
theorem zrf(T:Tot n c){lo sa na nb pa pb:Nat}{l r:List (Nat×Nat×Nat)}{p':Array Nat}{pend':Array (Nat×Nat×Nat)}{mg':Nat}(h:L2.PermN n σ.p)(hlo:lo<=n)(el:σ.pend.toList=l++(sa,na,pa)::(sa+na,nb,pb)::r)(hu:UpR c σ.p.toList σ.pend.toList)
  (c1:za5 0 l sa) (c2:za5 (sa+na+nb) r lo) (ch:za5 0 pend'.toList lo) (csz:pend'.size+1=σ.pend.size) (ep:pend'.toList=l++(sa,na+nb,pa)::r) (g:Mgd c.f σ.p.toList p'.toList sa na nb):MgA n c lo σ ⟨p',pend',mg'⟩:=by
 have sz:=h.size;have le:=c2.le;have hP:σ.p.toList.length=n:=by simpa using sz
 refine⟨?_,ch,λx hx=>?_,csz,?_⟩
 ·exact(Array.perm_iff_toList_perm.mpr g.perm).trans h
 ·rw[ep]at hx;rcases List.mem_append.mp hx with hx | hx
  ·have:=c1.low x hx;show zdi c.f ((p'.toList.drop x.1).take x.2.1);rw[g.low this.2];exact hu x (by rw[el]; exact List.mem_append_left _ hx)
  ·rcases List.mem_cons.mp hx with rfl | hx
   ·show zdi c.f ((p'.toList.drop sa).take (na+nb));rw[g.mid];have uA:=hu (sa,na,pa) (by rw[el]; simp);have uB:=hu (sa+na,nb,pb) (by rw[el]; simp);refine zlY T.tr _ (nLr _) uA uB λx hx y hy e=>?_;obtain⟨i,a1,a2,rfl⟩:=zbR hx;obtain⟨j,b1,b2,rfl⟩:=zbR hy;rw[gt,gt]at e ⊢;exact T.up h (by lia) (by lia) (by lia) e
   ·have:=c2.low x hx;show zdi c.f ((p'.toList.drop x.1).take x.2.1);rw[g.high this.1];exact hu x (by rw[el]; exact List.mem_append_right _ (List.mem_cons_of_mem _ (List.mem_cons_of_mem _ hx)))
 ·exact g.high (by lia)
theorem zdS(T:Tot n c)(i lo:Nat)(h:L2.PermN n σ.p)(hc:za5 0 σ.pend.toList lo)(hlo:lo<=n)(hu:UpR c σ.p.toList σ.pend.toList)(hi:i+1 < σ.pend.size):zae n c (λ_=>znH i) σ λr σ'=>MgA n c lo σ σ'/\r=λ_=>true:=by
 obtain⟨l,r,⟨sa,na,pa⟩,⟨sb,nb,pb⟩,el,ell,e1,e2,m,c1,x1,x2,y1,y2,c2⟩:=zp7 hc hi;dsimp only at x1 x2 y1 y2 c2;subst x1;subst y1;have hle:=c2.le;have sz:=h.size;have pi:=PI.perm h;refine zae.bindE zaP.get ?_;dsimp only [con];simp only[e1,e2];have ep:((σ.pend.setIfInBounds i (sa,na+nb,pa)).eraseIdxIfInBounds (i+1)).toList=l++(sa,na+nb,pa)::r:=by
  have e3:(σ.pend.setIfInBounds i (sa,na+nb,pa)).eraseIdxIfInBounds (i+1)=(σ.pend.setIfInBounds i (sa,na+nb,pa)).eraseIdx (i+1) (by simpa using hi):=by
   unfold Array.eraseIdxIfInBounds; rw[dif_pos]
  rw[e3,Array.toList_eraseIdx,Array.toList_setIfInBounds,el,<- ell];rw[List.set_append_right _ _ (Nat.le_refl _),Nat.sub_self,List.set_cons_zero,List.eraseIdx_append_of_length_le (by lia),show l.length+1 - l.length=1 by lia];rfl
 have ch:za5 0 ((σ.pend.setIfInBounds i (sa,na+nb,pa)).eraseIdxIfInBounds (i+1)).toList lo:=by
  rw[ep];exact za5.split.mpr ⟨sa,c1,rfl,(show 1<=na+nb by lia),by rw[<- Nat.add_assoc]; exact c2⟩
 have csz:((σ.pend.setIfInBounds i (sa,na+nb,pa)).eraseIdxIfInBounds (i+1)).size+1=σ.pend.size:=by
  rw[<- Array.length_toList,ep,<- Array.length_toList,el]; simp; lia
 have ex:∀ (it:Array Keyed) (i j:Nat),(σ.p.map (kas_item it)).extract i j=(σ.p.extract i j).map (kas_item it):=λit i j=>by simp
 refine zae.bindE (zaP.set (σ':=⟨σ.p,(σ.pend.setIfInBounds i (sa,na+nb,pa)).eraseIdxIfInBounds (i+1),σ.mg⟩) (λit=>rfl)) ?_;generalize (σ.pend.setIfInBounds i (sa,na+nb,pa)).eraseIdxIfInBounds (i+1)=pend' at ch csz ep;have hP:σ.p.toList.length=n:=by simpa using sz
 have uA:Ups c σ.p sa na:=(ups_of (by lia)).mp (hu (sa,na,pa) (by rw[el]; simp));have uB:Ups c σ.p (sa+na) nb:=(ups_of (by lia)).mp (hu (sa+na,nb,pb) (by rw[el]; simp));have fin:=λ(p':Array Nat) (mg':Nat) (g:Mgd c.f σ.p.toList p'.toList sa na nb)=>zrf (mg':=mg') T h hlo el hu c1 c2 ch csz ep g;refine zae.bindE (zaP.elem (show sa+na < σ.p.size by lia)) ?_;refine zae.bind (zeU T false (σ.p.getD (sa+na) 0) σ.p sa na 0 (pi.lt _ (by lia)) (λj hj=>pi.lt j (by lia)) (by lia) (by lia) uA (λi hi=>h.ne (by lia) (by lia) (by lia))) ?_;rintro r0 τ1 ⟨e5,k1,⟨hk1,lo1,hi1⟩,rfl⟩;rw[e5];dsimp only;have h1:∀ i,i < k1->c.f (σ.p.toList.getD (sa+na) 0) (σ.p.toList.getD (sa+i) 0)=false:=λi hi=>by rw[gt,gt]; exact T.asym (lo1 i hi)
 by_cases d1:(na - k1==0)=true
 ·refine zae.pos d1 ?_;simp at d1;exact zae.pure ⟨fin σ.p _ (Mgd.none (by lia) (by lia) hk1 h1 λy hy x a1 a2=>by lia),rfl⟩
 ·refine zae.neg d1 ?_;simp at d1;refine zae.bindE (zaP.elem (show sa+k1+(na - k1) - 1 < σ.p.size by lia)) ?_;refine zae.bind (zeU T true (σ.p.getD (sa+k1+(na - k1) - 1) 0) σ.p (sa+na) nb (nb - 1) (pi.lt _ (by lia)) (λj hj=>pi.lt j (by lia)) (by lia) (by lia) uB (λi hi=>h.ne (by lia) (by lia) (by lia))) ?_;rintro r0 τ1 ⟨e6,k2,⟨hk2,lo2,hi2⟩,rfl⟩;rw[e6];dsimp only;rw[show sa+k1+(na - k1) - 1=sa+(na - 1)by lia]at lo2 hi2;have h2:∀ y,k2<=y->y < nb->∀ x,k1<=x->x < na->c.f (σ.p.toList.getD (sa+na+y) 0) (σ.p.toList.getD (sa+x) 0)=false:=λy a1 a2 x b1 b2=>by
   rw[gt,gt];refine T.asym ?_;have:=hi2 y a1 a2;by_cases z:x=na - 1
   ·rw[z]; exact this
   ·exact T.tr _ _ _ (uA x (na - 1) (by lia) (by lia)) this
  by_cases d2:(k2==0)=true
  ·refine zae.pos d2 ?_;simp at d2;exact zae.pure ⟨fin σ.p _ (Mgd.none (by lia) (by lia) hk1 h1 λy hy=>h2 y (by lia) hy),rfl⟩
  ·refine zae.neg d2 ?_;simp at d2;simp only[ex];have all:=pi.all;have mp:MP n c (σ.p.extract (sa+k1) (sa+na)) (σ.p.extract (sa+na) (sa+na+k2)):=by
    have sza:(σ.p.extract (sa+k1) (sa+na)).size=na - k1:=by simp; lia
    have szb:(σ.p.extract (sa+na) (sa+na+k2)).size=k2:=by simp; lia
    refine⟨zoq all,zoq all,by lia,by lia,λi j hij hj=>?_,λi j hij hj=>?_,λi j hi hj=>?_,?_,λi hi=>?_⟩
    ·rw[sza]at hj;rw[Nat.zero_add,Nat.zero_add,zcf (by lia),zcf (by lia),Nat.add_assoc,Nat.add_assoc];exact uA _ _ (by lia) (by lia)
    ·rw[szb]at hj;rw[Nat.zero_add,Nat.zero_add,zcf (by lia),zcf (by lia)];exact uB _ _ hij (by lia)
    ·rw[sza]at hi; rw[szb]at hj;rw[zcf (by lia),zcf (by lia)];exact h.ne (by lia) (by lia) (by lia)
    ·rw[zcf (by lia),zcf (by lia),Nat.add_zero,Nat.add_zero];exact hi1 k1 (nLr _) (by lia)
    ·rw[szb]at hi;rw[sza,zcf (by lia),zcf (by lia),show sa+k1+(na - k1 - 1)=sa+(na - 1)by lia];exact lo2 i hi
   have ea:(σ.p.extract (sa+k1) (sa+na)).toList=(σ.p.toList.drop (sa+k1)).take (na - k1):=by
    rw[Array.toList_extract,List.extract_eq_take_drop]; congr 1; lia
   have eb:(σ.p.extract (sa+na) (sa+na+k2)).toList=(σ.p.toList.drop (sa+na)).take k2:=by
    rw[Array.toList_extract,List.extract_eq_take_drop]; congr 1; lia
   have tail:∀ (r:Array Keyed->Array Keyed) (σ3:Ab),σ3.p=σ.p->σ3.pend=pend'->Ls r (mrg c.f (σ.p.extract (sa+k1) (sa+na)).toList (σ.p.extract (sa+na) (sa+na+k2)).toList) ->
     (∀ it,((r it).toList.zipIdx 0).foldl (λa q=>a.setIfInBounds (sa+k1+q.2) q.1) (σ3.p.map (kas_item it))=(lay (sa+k1) ((mrg c.f (σ.p.extract (sa+k1) (sa+na)).toList (σ.p.extract (sa+na) (sa+na+k2)).toList).zipIdx 0) σ3.p).map (kas_item it)) /\
     MgA n c lo σ ⟨lay (sa+k1) ((mrg c.f (σ.p.extract (sa+k1) (sa+na)).toList (σ.p.extract (sa+na) (sa+na+k2)).toList).zipIdx 0) σ3.p,σ3.pend,σ3.mg⟩:=λr σ3 kp kq hs=>by
    refine⟨λit=>by rw[hs it]; exact zmc it (sa+k1) _ 0 σ3.p,?_⟩;rw[kp,kq];refine fin _ _ (Mgd.of (by lia) hk1 hk2 (by lia) h1 h2 ?_);have hlen:(mrg c.f (σ.p.extract (sa+k1) (sa+na)).toList (σ.p.extract (sa+na) (sa+na+k2)).toList).length=na - k1+k2:=by
     rw[(zcE _ (Nat.le_refl _)).length_eq,ea,eb,List.length_append,zhZ (by lia),zhZ (by lia)]
    rw[zj4 _ _ 0 _ (by lia),hlen,ea,eb,Nat.add_zero,show sa+k1+(na - k1+k2)=sa+na+k2 by lia]
   by_cases d3:na - k1<=k2
   ·refine zae.pos d3 ?_;refine zae.bind (zrh T _ _ mp) ?_;rintro r σ3 ⟨⟨kp,kq⟩,hs⟩;obtain⟨t1,t2⟩:=tail r σ3 kp kq hs;refine zae.bindE (zaP.modify (σ':=⟨lay (sa+k1) ((mrg c.f (σ.p.extract (sa+k1) (sa+na)).toList (σ.p.extract (sa+na) (sa+na+k2)).toList).zipIdx 0) σ3.p,σ3.pend,σ3.mg⟩) (λit=>congrArg (λz=>SortSt.mk' c.k z σ3.pend σ3.mg none) (t1 it))) ?_;refine zae.bindE zaP.get ?_;exact zae.pure ⟨t2,rfl⟩
   ·refine zae.neg d3 ?_;refine zae.bind (zrv T _ _ mp) ?_;rintro r σ3 ⟨⟨kp,kq⟩,hs⟩;obtain⟨t1,t2⟩:=tail r σ3 kp kq hs;refine zae.bindE (zaP.modify (σ':=⟨lay (sa+k1) ((mrg c.f (σ.p.extract (sa+k1) (sa+na)).toList (σ.p.extract (sa+na) (sa+na+k2)).toList).zipIdx 0) σ3.p,σ3.pend,σ3.mg⟩) (λit=>congrArg (λz=>SortSt.mk' c.k z σ3.pend σ3.mg none) (t1 it))) ?_;refine zae.bindE zaP.get ?_;exact zae.pure ⟨t2,rfl⟩
end
section
variable {n:Nat}{c:Cq}{σ σ':Ab}
structure Rn(n:Nat)(c:Cq)(lo:Nat)(σ:Ab):Prop where
 k:L2.PermN n σ.p
 ch:za5 0 σ.pend.toList lo
 up:UpR c σ.p.toList σ.pend.toList
theorem zoE{p p':Array Nat}{lo:Nat}(hs:p'.size=p.size)(h:∀ i,i < lo->p'.getD i 0=p.getD i 0):p'.toList.take lo=p.toList.take lo:=by
 refine List.ext_getElem? λi=>?_;by_cases hi:i < lo
 ·rw[List.getElem?_take_of_lt hi,List.getElem?_take_of_lt hi];have:=h i hi;by_cases hp:i < p.size
  ·have hp':i < p'.size:=by lia
   rw[<- gt,<- gt,List.getD_eq_getElem?_getD,List.getD_eq_getElem?_getD,List.getElem?_eq_getElem (by simpa using hp'),List.getElem?_eq_getElem (by simpa using hp)]at this;rw[List.getElem?_eq_getElem (by simpa using hp'),List.getElem?_eq_getElem (by simpa using hp)];simpa using this
  ·rw[List.getElem?_eq_none (by simp; lia),List.getElem?_eq_none (by simp; lia)]
 ·rw[List.getElem?_eq_none (by simp; lia),List.getElem?_eq_none (by simp; lia)]
theorem Rn.move{lo:Nat}(r:Rn n c lo σ)(l:Lo n lo σ σ'):Rn n c lo σ':=by
 refine⟨l.k,by rw[l.pe]; exact r.ch,λx hx=>?_⟩;rw[l.pe]at hx;have:=r.ch.low x hx;have e:=zoE (l.k.size.trans r.k.size.symm) l.lo;have e1:∀ Q:List Nat,(Q.drop x.1).take x.2.1=((Q.take lo).drop x.1).take x.2.1:=λQ=>by
  rw[List.drop_take,List.take_take,Nat.min_eq_left (by lia)]
 rw[e1,e,<- e1];exact r.up x hx
theorem Rn.merge{lo:Nat}(m:MgA n c lo σ σ'):Rn n c lo σ':=⟨m.k,m.ch,m.up⟩
theorem Rn.push{lo len:Nat}{p:Array Nat}{pend:Array (Nat×Nat×Nat)}{mg:Nat}(r:Rn n c lo ⟨p,pend,mg⟩)(h1:1<=len)(h2:lo+len<=n)(u:Ups c p lo len):Rn n c (lo+len) ⟨p,pend.push (lo,len,0),mg⟩:=by
 refine⟨r.k,by rw[Array.toList_push]; exact za5.app r.ch h1 rfl,λx hx=>?_⟩;rw[Array.toList_push]at hx;rcases List.mem_append.mp hx with hx | hx
 ·exact r.up x hx
 ·rw[List.mem_singleton.mp hx];exact(ups_of (by have:=r.k.size; dsimp only at this; lia)).mpr u
theorem Rn.mod{lo i pw:Nat}{p:Array Nat}{pend:Array (Nat×Nat×Nat)}{mg:Nat}(r:Rn n c lo ⟨p,pend,mg⟩):Rn n c lo ⟨p,pend.modify i (λx=>(x.1,x.2.1,pw)),mg⟩:=by
 refine⟨r.k,by rw[Array.toList_modify]; exact r.ch.mod,λx hx=>?_⟩;rw[Array.toList_modify]at hx;obtain⟨k,hk,e⟩:=List.getElem_of_mem hx;rw[List.length_modify]at hk;rw[List.getElem_modify]at e;have h:=r.up _ (List.getElem_mem hk);split at e
 ·rw[<- e]; exact h
 ·rw[<- e]; exact h
theorem Ups.at{p p':Array Nat}{lo len:Nat}(h:p'.toList.drop lo=p.toList.drop lo)(hl:lo+len<=p.size)(hs:p'.size=p.size)(u:Ups c p lo len):Ups c p' lo len:=by
 rw[<- ups_of (by lia)]at u ⊢;rw[h]; exact u
theorem Rn.end{σ:Ab}(r:Rn n c n σ)(hn:1<=n)(h:σ.pend.size<=1):L2.PermN n σ.p/\Ups c σ.p 0 n:=by
 refine⟨r.k,?_⟩;have ch:=r.ch;have up:=r.up;have hl:σ.pend.toList.length<=1:=by simpa using h
 cases e:σ.pend.toList with
 | nil=>rw[e]at ch; have:(0:Nat)=n:=ch; lia
 | cons x l =>
  rw[e]at hl ch up;have:l=[]:=List.eq_nil_of_length_eq_zero (by simp at hl; simpa using hl);subst this;obtain⟨h1,h2,h3⟩:=ch;have h3:0+x.2.1=n:=h3;have u:=up x (List.mem_singleton.mpr rfl);rw[h1,show x.2.1=n by lia]at u;exact(ups_of (by have:=r.k.size; lia)).mp u
theorem zae.again{β:Type}{Q:(Array Keyed->β)->Ab->Prop}{p:Nat->Prop}{R:Nat->Ab->Prop}{ip:∀ q,Array Keyed->Decidable (p q)}{A B:Nat->Array Keyed->StateT SortSt Sem β}
  (k:(∀ q σ,R q σ->zae n c (A q) σ Q)->∀ q σ,R q σ->p q->zae n c (B q) σ Q) (h:∀ q σ,R q σ->zae n c (A q) σ Q):∀ q σ,R q σ->zae n c (λit=>@ite _ (p q) (ip q it) (B q it) (A q it)) σ Q:=λq σ r=>by
 by_cases z:p q
 ·simp only[z,if_true]
  exact k h q σ r z
 ·simp only[z,if_false]
  exact h q σ r
theorem runs_ord(T:Tot n c)(h:L2.PermN n σ.p)(hp:σ.pend=#[])(hn:1<=n):zae n c (λ_=>sortRuns') σ λr σ'=>L2.PermN n σ'.p/\Ups c σ'.p 0 n:=by
 refine zae.bindE zaP.get ?_;dsimp only [con];simp only[Array.size_map,h.size];refine zae.lp (λ_ (b:Nat)=>((none,b):Option Unit×Nat)) (λk lo τ=>Rn n c lo τ/\lo<=n/\n<=lo+k) (λlo τ=>Rn n c n τ) (λb τ h=>(show b=n from Nat.le_antisymm h.2.1 h.2.2) ▸ h.1) (λx k lo τ hI=>?_) 0 ⟨⟨h,by rw[hp]; rfl,λx hx=>by rw[hp]at hx; cases hx⟩,Nat.zero_le _,by simp⟩ λlo τ r1=>?_
 ·have r1:=hI.1;have hlo:=hI.2.1;have hnk:=hI.2.2;dsimp only;by_cases d1:lo >= n
  ·simp only[d1,if_true];obtain rfl:lo=n:=by lia
   exact zae.pure (.inl ⟨lo,r1,rfl⟩)
  ·simp only[d1,if_false];refine zae.bind (zmJ T lo (n - lo) r1.k (by lia) (by lia)) ?_;rintro r τ2 ⟨l2,k1,hk1,hk2,up2,rfl⟩;have r2:Rn n c lo τ2/\1<=k1/\lo+k1<=n/\Ups c τ2.p lo k1:=⟨r1.move l2,hk1,by lia,up2⟩;clear l2 hk1 hk2 up2 r1;dsimp only;revert r2;revert τ2;revert k1;refine zae.again (R:=λq τ=>Rn n c lo τ/\1<=q/\lo+q<=n/\Ups c τ.p lo q) (λgo q τ hR hmr=>?_) (λlen τ3 hR=>?_)
   ·obtain⟨r2,hq1,hq2,up2⟩:=hR;refine zcr ?_;refine zae.bind (zpO T lo (min (n - lo) _) q r2.k (by lia) hq1 (by lia) up2) ?_;rintro r τ3 ⟨l3,up3,rfl⟩;simp only[Bool.not_true,Bool.false_eq_true,if_false];exact go _ _ ⟨r2.move l3,by lia,by lia,up3⟩
   ·obtain⟨r3,hlen,hlen2,up3⟩:=hR;refine zae.bindE zaP.get ?_;dsimp only [con];cases hbk:τ3.pend.back? with
    | none =>
     dsimp only;refine zae.bindE (zaP.modify (σ':=⟨τ3.p,τ3.pend.push (lo,len,0),τ3.mg⟩) (λit=>rfl)) ?_;exact zae.pure (.inr ⟨lo+len,⟨r3.push hlen hlen2 up3,hlen2,by lia⟩,rfl⟩)
    | some x =>
     obtain⟨s1,n1,p1⟩:=x;dsimp only;refine zae.lp (λ_ (b:Unit)=>((none,()):Option Unit×Unit)) (λ_ b τ4=>Rn n c lo τ4/\Ups c τ4.p lo len) (λb τ4=>Rn n c lo τ4/\Ups c τ4.p lo len) (λb τ4 h=>h) (λy k' b τ4 hI=>?_) () ⟨r3,up3⟩ λb τ4 lp_h=>?_
     ·have r4:=hI.1;have up4:=hI.2;refine zae.bindE zaP.get ?_;dsimp only [con];by_cases hs:τ4.pend.size > 1
      ·simp only[hs,if_true];have hix:τ4.pend.size - 2 < τ4.pend.size:=by lia
       rw[Array.getElem?_eq_getElem hix];generalize τ4.pend[τ4.pend.size - 2]=y2;obtain⟨u1,u2,u3⟩:=y2;dsimp only;split
       ·exact zae.pure (.inl ⟨(),⟨r4,up4⟩,rfl⟩)
       ·refine zae.bind (zdS T (τ4.pend.size - 2) lo r4.k r4.ch (by lia) r4.up (by lia)) ?_;rintro r τ5 ⟨m5,rfl⟩;exact zae.pure (.inr ⟨(),⟨Rn.merge m5,up4.at m5.hi (by have:=r4.k.size; lia) (m5.k.size.trans r4.k.size.symm)⟩,rfl⟩)
      ·simp only[hs,if_false];exact zae.pure (.inl ⟨(),⟨r4,up4⟩,rfl⟩)
     ·have r4:=lp_h.1;have up4:=lp_h.2;dsimp only;refine zae.bindE (zaP.modify (σ':=⟨τ4.p,τ4.pend.modify (τ4.pend.size - 1) (λx=>(x.1,x.2.1,PW n (2 * s1+n1) (2 * s1+n1+n1+len) n)),τ4.mg⟩) (λit=>rfl)) ?_;refine zae.bindE (zaP.modify (σ':=⟨τ4.p,(τ4.pend.modify (τ4.pend.size - 1) (λx=>(x.1,x.2.1,PW n (2 * s1+n1) (2 * s1+n1+n1+len) n))).push (lo,len,0),τ4.mg⟩) (λit=>rfl)) ?_;exact zae.pure (.inr ⟨lo+len,⟨(Rn.mod r4).push hlen hlen2 up4,hlen2,by lia⟩,rfl⟩)
 ·dsimp only;refine zae.lp (λ_ (b:Unit)=>((none,()):Option Unit×Unit)) (λk b τ4=>Rn n c n τ4/\τ4.pend.size<=k+1) (λb τ4=>L2.PermN n τ4.p/\Ups c τ4.p 0 n) (λb τ4 h=>h.1.end hn (by have:=h.2; lia)) (λy k' b τ4 hI=>?_) () ⟨r1,by have:=r1.ch.le; simp at this ⊢; lia⟩ λb τ4 h4=>?_
  ·have r4:=hI.1;have hk4:=hI.2;refine zae.bindE zaP.get ?_;dsimp only [con];by_cases hs:τ4.pend.size<=1
   ·simp only[hs,if_true];exact zae.pure (.inl ⟨(),r4.end hn hs,rfl⟩)
   ·simp only[hs,if_false];by_cases h0:τ4.pend.size - 2 > 0
    ·simp only[h0,if_true];refine zae.bind (zdS T (if Option.any (λx=>decide (x < τ4.pend[τ4.pend.size - 2+1]?.elim 0 λx=>x.snd.fst)) (Option.map (λx=>x.snd.fst) τ4.pend[τ4.pend.size - 2 - 1]?)=true then τ4.pend.size - 2 - 1 else τ4.pend.size - 2) n r4.k r4.ch (nLr _) r4.up (by split<;>lia)) ?_;rintro r τ5 ⟨m5,rfl⟩;exact zae.pure (.inr ⟨(),⟨Rn.merge m5,by have:=m5.sz; lia⟩,rfl⟩)
    ·simp only[h0,if_false,Option.any_none,Bool.false_eq_true];refine zae.bind (zdS T (τ4.pend.size - 2) n r4.k r4.ch (nLr _) r4.up (by lia)) ?_;rintro r τ5 ⟨m5,rfl⟩;exact zae.pure (.inr ⟨(),⟨Rn.merge m5,by have:=m5.sz; lia⟩,rfl⟩)
  ·exact zae.pure h4
end
noncomputable def σ0(n:Nat):Ab:=⟨(List.range n).toArray,#[],7⟩
end Ts
namespace L2
open PySem PySem.Spec PyProof.Rows
noncomputable def ltI:List Int->List Int->Bool
 | [],[]=>false
 | [],_::_=>true
 | _::_,[]=>false
 | a::l,b::r=>if a=b then ltI l r else decide (a < b)
noncomputable def ltK(x y:Str×List Int):Bool:=if x.1=y.1 then ltI x.2 y.2 else decide (x.1.cps.toList < y.1.cps.toList)
def zgH(h:Heap)(v:Value)(k:Str×List Int):Prop:=∃ a t us,v=.ref a/\IsTup h a (Value.str k.1 t::us).toArray/\IntsAre us k.2
section
variable {prog:Program}{w:World}{A:Around}{E:Value->Shared->Prop}{s:Shared}
theorem zgH.keeps{h h':Heap}{v:Value}{k:Str×List Int}(kp:∀ b o,h.get? b=some o->o.cls=.type "tuple"->h'.get? b=some o) (p:zgH h v k):zgH h' v k :=
 let ⟨a,t,us,e,⟨o,e1,e2,n,e3⟩,i⟩:=p; ⟨a,t,us,e,⟨o,kp _ _ e1 e2,e2,n,e3⟩,i⟩
theorem zj1{Q:Bool->Shared->Prop}:∀ {xs ys:List Value} {as bs:List Int} (i:Nat) (n m:Nat),IntsAre xs as->IntsAre ys bs->0 < i->n=i+xs.length->m=i+ys.length->Q (ltI as bs) s ->
  W.KatLex prog w A true (decide (n < m)) Q (xs.zip ys) i s
 | [],[],_,_,i,n,m,.nil,.nil,hi,hn,hm,q=>by
  refine W.kat_nil ?_
  have e:decide (n < m)=ltI [] []:=by simp[ltI]; lia
  rw[e]; exact q
 | [],_::_,_,_,i,n,m,.nil,.cons b u r,hi,hn,hm,q=>by
  refine W.kat_nil ?_
  have e:decide (n < m)=true:=by simp at hn hm ⊢; lia
  rw[e]; exact q
 | _::_,[],_,_,i,n,m,.cons a u r,.nil,hi,hn,hm,q=>by
  refine W.kat_nil ?_
  have e:decide (n < m)=false:=by simp at hn hm ⊢; lia
  rw[e]; exact q
 | _::_,_::_,_,_,i,n,m,.cons a u r,.cons b u' r',hi,hn,hm,q=>by
  refine W.kat_cons (wpAny_eqBool_int ?_)
  by_cases e:a=b
  ·subst e
   have e':(a==a)=true:=by simp
   rw[e']
   refine W.kat_yes (zj1 (i+1) n m r r' (by lia) (by simp at hn; lia) (by simp at hm; lia) ?_)
   simpa [ltI] using q
  ·have e':(a==b)=false:=by simpa using e
   rw[e']
   refine W.kat_no ?_
   have z:(true&&i==0)=false:=by simp; lia
   rw[z]
   refine W.kat_one _ _ ?_
   simp only[ltI,e,if_false]at q
   exact richCompare_gives (op:=.Lt) (typeIs_int s _ u) (typeIs_int s _ u') F.slot_int_lt F.entry_int_lt (F.args_int_lt_2 _ _) (gives_int_lt _ _ u u') (λx=>nomatch x) q
theorem zrg{x y:Value}{a b:Str×List Int}{Q:Bool->Shared->Prop}(hx:zgH s.heap x a)(hy:zgH s.heap y b)(q:Q (ltK a b) s):wpAny (model prog w) A (keyLt' (tuples' true) x y) Q E s:=by
 obtain⟨ax,t,us,rfl,⟨ox,x1,x2,nx,x3⟩,ix⟩:=hx;obtain⟨ay,t',us',rfl,⟨oy,y1,y2,ny,y3⟩,iy⟩:=hy;refine W.kat_lt x1 x3 y1 y3 ?_;show W.KatLex prog w A true _ Q ((Value.str a.1 t,Value.str b.1 t')::us.zip us') 0 s;refine W.kat_cons (wpAny_eqBool_str ?_);by_cases e:a.1=b.1
 ·have e':decide (a.1=b.1)=true:=by simpa using e
  rw[e'];refine W.kat_yes (zj1 1 _ _ ix iy (by lia) (by simp; lia) (by simp; lia) ?_);simpa [ltK,e] using q
 ·have e':decide (a.1=b.1)=false:=by simpa using e
  rw[e'];refine W.kat_no ?_;simp only[ltK,e,if_false]at q;exact oneLt_str q
end
noncomputable abbrev zmf(x:Str)(p:Pos):Arguments:={ posonlyargs:=[],args:=[{ arg:=x,annotation:=none,pos:=p }],vararg:=none,kwonlyargs:=[],kw_defaults:=[],kwarg:=none,defaults:=[] }
noncomputable abbrev znP(x:Str)(n:Int)(p1 p2 p3 p4:Pos):Expr:=.Subscript (.Name x p1) (.Slice none (some (.Constant (.int n) 0 p2)) none p3) p4
noncomputable abbrev zme(x:Str):Scope:={ kind:=.function,names:=[(x,.local)],isGenerator:=false,isCoroutine:=false,more:=[] }
section
variable {prog:Program}{w:World}{A:Around}{E:Value->Shared->Prop}{s:Shared}
theorem zne{its:List Value}{n:Nat}:((its.drop (HT.sIx its.length 0 none)).take (HT.sIx its.length its.length (some (n:Int)) - HT.sIx its.length 0 none))=its.take n:=by
 rw[HT.sIx_none,HT.sIx_nat,List.drop_zero,Nat.sub_zero];by_cases h:n<=its.length
 ·rw[Nat.min_eq_left h]
 ·rw[Nat.min_eq_right (by lia),List.take_of_length_le (Nat.le_refl _),List.take_of_length_le (by lia)]
theorem zn3{a sl:Addr}{its:List Value}{n:Nat}{t:Tok}{v:Expr}{lo hi:Option Expr}{p:Pos}{Q:Value->Shared->Prop}(ht:IsTup s.heap a its.toArray)(hs:s.heap.IsSliceOf sl .none (.int n t) .none)(hz:its.length<=sizeLine)
  (h:∀ h' tk k,(∀ b o,s.heap.get? b=some o->h'.get? b=some o)->IsTup h' k (its.take n).toArray->Q (.ref k) { s with heap:=h',toks:=tk }) :
  wpAny (model prog w) A (subscriptTail v (.Slice lo hi none p) (.ref a) (.ref sl)) Q E s:=by
 refine tail_any (ops:=[.ref sl,.ref a]) ht.typeIs PyProof.Rows.slot_tuple_getitem.lookup ?_ (by with_unfolding_all rfl);have e:=zne (its:=its) (n:=n);by_cases hw:HT.sIx its.toArray.size 0 none=0/\HT.sIx its.toArray.size its.toArray.size (some (n:Int))=its.toArray.size
 ·refine HT.getItem_tuple_all ht hs .none (.int _ _) hw (h s.heap s.toks a (λ_ _ e=>e) ?_);rw[List.size_toArray]at hw;rw[hw.1,hw.2]at e;rw[<- e];simpa using ht
 ·refine HT.getItem_tuple_cut ht hs .none (.int _ _) hw ?_ (by simpa using hz);refine h _ s.toks _ (λb o e=>hPs _ e) ?_;rw[List.size_toArray];show IsTup (s.heap.push { cls:=.type "tuple",data:=.seq ((its.drop (HT.sIx its.length 0 none)).take (HT.sIx its.length its.length (some (n:Int)) - HT.sIx its.length 0 none)).toArray }) _ _;rw[e];exact IsTup.new _ _
theorem znO{f c a:Addr}{nm qual x:Str}{n:Nat}{p p1 p2 p3 p4:Pos}{pm ctv:Value}{its:List Value}{Q:Value->Shared->Prop}(hroom:A.depth < recursionLimit)(hlim:s.heap.NoLimit)
  (ho:s.heap.get? f=some (PySem.W.kla_obj nm qual (zmf x p) (znP x n p1 p2 p3 p4) (zme x) [] pm c ctv)) (hcd:s.heap.CodeRec (.ref c) qual) (ht:IsTup s.heap a its.toArray) (hz:its.length<=sizeLine)
  (hd:(x==("__debug__":Str))=false) (hb:∀ v pm cd ctv:Value,bindArgs (PySem.W.kla_fn nm qual (zmf x p) (znP x n p1 p2 p3 p4) (zme x) [] pm cd ctv) ⟨[v],[]⟩=pure [(x,v)])
  (h:∀ h' tk k,(∀ b o,s.heap.get? b=some o->h'.get? b=some o)->IsTup h' k (its.take n).toArray->Q (.ref k) { s with heap:=h',toks:=tk }) :
  wpAny (model prog w) A (call (.ref f) [.ref a]) Q E s:=by
 refine wpAny_call (PySem.W.kla_callFunE hroom ho rfl rfl rfl rfl hcd ?_);rw[hb];refine wpAny_pure (wpAny_newFunctionEnv (λy hy=>by simp at hy; subst hy; simp) (λy hy=>by simp at hy; subst hy; simp) (λh₁ hns hsb=>⟨hlim.fresh _ hsb,?_⟩) rfl);have hk₁:∀ b o,s.heap.get? b=some o->h₁.get? b=some o:=λb o e=>hsb.extBut b o (nNl (hLz e)) (hPs _ e);refine PySem.W.kla_codeExpr ?_;refine Subscript_ (wpAny_Name (wpAny_loadName_local rfl (by simp[newEnv,Env.kindOf]) hns (show List.lookup x [(x,Value.ref a)].reverse=some (Value.ref a)by simp) ?_) hd);refine wpAny_Slice ?_;rw[evalPart_none];refine wQ ?_;rw[evalPart_some];refine wpAny_Constant_int ?_;refine wQ ?_;refine zn3 (its:=its) (n:=n) (let ⟨o,e,r⟩:=ht; ⟨o,hPs _ (hk₁ _ _ e),r⟩) (Heap.IsSliceOf.new ..) hz λh' tk k kp tp=>?_;exact h h' tk k (λb o e=>kp b o (hPs _ (hk₁ b o e))) tp
end
end L2
namespace Ts
open PySem PyProof.Rows PySem.W
open Classical in
noncomputable def rowIx(n:Nat)(c:Cq):List Nat:=if h:1 < n/\∃ σ' r,(L2.PermN n σ'.p/\Ups c σ'.p 0 n)/\zaP n c (λ_=>sortRuns') (σ0 n) r σ' then (Classical.choose h.2).p.toList else List.range n
section
variable {n:Nat}{c:Cq}
theorem row_small(h:n < 2):rowIx n c=List.range n:=by unfold rowIx; rw[dif_neg (λz=>by have:=z.1; lia)]
theorem row_big(h:1 < n)(T:Tot n c):∃ r σ',σ'.p.toList=rowIx n c/\PI n σ'/\zaP n c (λ_=>sortRuns') (σ0 n) r σ':=by
 have ex:1 < n/\∃ σ' r,(L2.PermN n σ'.p/\Ups c σ'.p 0 n)/\zaP n c (λ_=>sortRuns') (σ0 n) r σ':=⟨h,by
  obtain⟨r,σ',p,d⟩:=runs_ord (σ:=σ0 n) T (Array.Perm.refl _) rfl (by lia);exact⟨σ',r,p,d⟩⟩
 obtain⟨r,p,d⟩:=Classical.choose_spec ex.2;refine⟨r,_,?_,PI.perm p.1,d⟩;unfold rowIx; rw[dif_pos ex]
theorem row_perm(n:Nat)(c:Cq):(rowIx n c).Perm (List.range n):=by
 unfold rowIx;split
 ·rename_i ex;obtain⟨r,p,d⟩:=Classical.choose_spec ex.2;simpa using Array.perm_iff_toList_perm.mp p.1
 ·exact List.Perm.refl _
theorem row_len(n:Nat)(c:Cq):(rowIx n c).length=n:=by rw[(row_perm n c).length_eq,List.length_range]
theorem row_lt{i:Nat}(h:i∈rowIx n c):i < n:=by simpa using (row_perm n c).mem_iff.mp h
theorem row_up(T:Tot n c):zdi c.f (rowIx n c):=by
 by_cases h:1 < n
 ·have ex:1 < n/\∃ σ' r,(L2.PermN n σ'.p/\Ups c σ'.p 0 n)/\zaP n c (λ_=>sortRuns') (σ0 n) r σ':=⟨h,by
   obtain⟨r,σ',p,d⟩:=runs_ord (σ:=σ0 n) T (Array.Perm.refl _) rfl (by lia);exact⟨σ',r,p,d⟩⟩
  unfold rowIx; rw[dif_pos ex];obtain⟨r,p,d⟩:=Classical.choose_spec ex.2;have hs:=p.1.size;have:=(ups_of (s:=0) (m:=n) (by lia)).mpr p.2;rw[List.drop_zero,List.take_of_length_le (by simp; lia)]at this;exact this
 ·rw[row_small (by lia)];have:n=0∨n=1:=by lia
  rcases this with rfl | rfl
  ·exact List.Pairwise.nil
  ·exact List.pairwise_singleton _ _
end
end Ts
namespace L2
open PySem PySem.Spec PyProof.Rows
theorem zl8:∀ l:List Int,ltI l l=false
 | []=>rfl
 | a::l=>by simp[ltI,zl8 l]
theorem zon:∀ {a b c:List Int},ltI a b=true->ltI b c=true->ltI a c=true
 | [],[],_,h,_=>by cases h
 | [],_::_,[],_,h=>by cases h
 | [],_::_,_::_,_,_=>rfl
 | _::_,[],_,h,_=>by cases h
 | _::_,_::_,[],_,h=>by cases h
 | x::a,y::b,z::c,h,h'=>by
  unfold ltI at h h' ⊢
  by_cases e1:x=y
  ·subst e1
   rw[if_pos rfl]at h
   by_cases e2:x=z
   ·rw[if_pos e2]at h' ⊢; exact zon h h'
   ·rw[if_neg e2]at h' ⊢; exact h'
  ·rw[if_neg e1]at h
   have h:=of_decide_eq_true h
   by_cases e2:y=z
   ·subst e2
    rw[if_neg e1]; exact decide_eq_true h
   ·rw[if_neg e2]at h'
    have h':=of_decide_eq_true h'
    rw[if_neg (by lia)]; exact decide_eq_true (by lia)
theorem zl7:∀ {a b:List Int},a≠b->ltI a b=true∨ltI b a=true
 | [],[],h=>absurd rfl h
 | [],_::_,_=>.inl rfl
 | _::_,[],_=>.inr rfl
 | x::a,y::b,h=>by
  unfold ltI
  by_cases e:x=y
  ·subst e
   rw[if_pos rfl,if_pos rfl]
   exact zl7 λz=>h (by rw[z])
  ·rw[if_neg e,if_neg (Ne.symm e)]
   rcases Int.lt_or_gt_of_ne e with z | z
   ·exact .inl (decide_eq_true z)
   ·exact .inr (decide_eq_true z)
theorem zl6(k:Str×List Int):ltK k k=false:=by unfold ltK; rw[if_pos rfl]; exact zl8 _
theorem zom{a b c:Str×List Int}(h:ltK a b=true)(h':ltK b c=true):ltK a c=true:=by
 unfold ltK at h h' ⊢;by_cases e1:a.1=b.1
 ·rw[if_pos e1]at h;by_cases e2:b.1=c.1
  ·rw[if_pos e2]at h'; rw[if_pos (e1.trans e2)]; exact zon h h'
  ·rw[if_neg e2]at h'; rw[if_neg (by rw[e1]; exact e2),e1]; exact h'
 ·rw[if_neg e1]at h;have h:=of_decide_eq_true h;by_cases e2:b.1=c.1
  ·rw[if_neg (by rw[<- e2]; exact e1),<- e2]; exact decide_eq_true h
  ·rw[if_neg e2]at h';have h':=of_decide_eq_true h';have hh:=List.lt_trans h h';rw[if_neg (λz=>by rw[z]at hh; exact List.lt_irrefl _ hh)]; exact decide_eq_true hh
theorem zpr{a b:Str×List Int}(ne:a≠b):ltK a b=true∨ltK b a=true:=by
 unfold ltK;by_cases e:a.1=b.1
 ·rw[if_pos e,if_pos e.symm];exact zl7 λz=>ne (Prod.ext e z)
 ·rw[if_neg e,if_neg (Ne.symm e)];by_cases h:a.1.cps.toList < b.1.cps.toList
  ·exact .inl (decide_eq_true h)
  ·refine .inr (decide_eq_true (Std.lt_of_le_of_ne (List.not_lt.mp h) λz=>e ?_));have:a.1.cps=b.1.cps:=Array.toList_inj.mp z.symm;cases ha:a.1; cases hb:b.1
   rw[ha,hb]at this; simp at this; rw[this]
noncomputable def k0:Str×List Int:=("",[])
noncomputable def cq(ks:List (Str×List Int)):Ts.Cq:=⟨λi j=>ltK (ks.getD i k0) (ks.getD j k0),tuples' true⟩
theorem zjE{ks:List (Str×List Int)}(nd:ks.Nodup):Ts.Tot ks.length (cq ks):=by
 refine⟨λi=>zl6 _,λi j k=>zom,λi j hi hj ne=>zpr λz=>ne ?_⟩;rw[List.getD_eq_getElem?_getD,List.getD_eq_getElem?_getD,List.getElem?_eq_getElem hi,List.getElem?_eq_getElem hj]at z;exact(List.getElem_inj nd).mp z
abbrev zca(h:Heap)(us:List Value)(ks:List (Str×List Int)):Prop:=Paired (zgH h) us ks
theorem zca.keeps{h h':Heap}{us:List Value}{ks:List (Str×List Int)}(kp:∀ b o,h.get? b=some o->o.cls=.type "tuple"->h'.get? b=some o) (p:zca h us ks):zca h' us ks :=
 Paired.mapP p λ_ _ q=>q.keeps kp
theorem zca.snoc{h:Heap}:∀ {us:List Value} {ks:List (Str×List Int)} {u:Value} {k:Str×List Int},zca h us ks->zgH h u k->zca h (us++[u]) (ks++[k])
 | _,_,_,_,.nil,q=>.cons q .nil
 | _,_,_,_,.cons a r,q=>.cons a (zca.snoc r q)
theorem zca.get{h:Heap}{us:List Value}{ks:List (Str×List Int)}(p:zca h us ks){i:Nat}(hi:i < us.length):zgH h (us.getD i .none) (ks.getD i k0):=by
 obtain⟨q,hq,r⟩:=zdt p (lGe hi);rw[List.getD_eq_getElem?_getD,List.getElem?_eq_getElem hi,List.getD_eq_getElem?_getD,hq];exact r
theorem zca.tups{h:Heap}:∀ {us:List Value} {ks:List (Str×List Int)},zca h us ks->∃ fs,W.KatTups h us fs/\fs.length=us.length/\∀ v∈fs,∃ x t,v=Value.str x t
 | _,_,.nil=>⟨[],W.KatTups.nil,rfl,λv hv=>by cases hv⟩
 | _,_,.cons ⟨a,t,us,e,⟨o,e1,e2,n,e3⟩,i⟩ r=>by
  obtain⟨fs,k,l,m⟩:=zca.tups r
  subst e
  refine⟨_::fs,W.KatTups.cons e1 e2 e3 rfl k,by simp[l],λv hv=>?_⟩
  rcases List.mem_cons.mp hv with h | h
  ·exact⟨_,t,h⟩
  ·exact m v h
theorem zfS(it:Array Keyed):((List.range it.size).toArray.map (W.kas_item it))=it:=by
 refine Array.ext (by simp) λi h1 h2=>?_;simp[W.kas_item,Array.getD,h2]
section
variable {prog:Program}{w:World}{A:Around}{E:Value->Shared->Prop}{s:Shared}
theorem znQ{us vs:List Value}{ks:List (Str×List Int)}{Q:Unit×SortSt->Shared->Prop}(T:Ts.Tot vs.length (cq ks))(hk:zca s.heap us ks)(hl:us.length=vs.length)(h2:2<=vs.length)
  (q:∀ st,(arrOf st).map (·.2)=((Ts.rowIx vs.length (cq ks)).map λi=>vs.getD i Value.none).toArray->(arrOf st).size=vs.length->failedOf st=none->Q ((),st) s) :
  wpAny (model prog w) A ((sortRuns').run (SortSt.mk' (tuples' true) (us.toArray.zip vs.toArray) #[] 7 none)) Q E s:=by
 obtain⟨r,σ',ep,pi,d⟩:=Ts.row_big (n:=vs.length) (c:=cq ks) (by lia) T;have hz:(us.toArray.zip vs.toArray).size=vs.length:=by simp; lia
 have e0:SortSt.mk' (tuples' true) (us.toArray.zip vs.toArray) #[] 7 none=Ts.con (cq ks).k (us.toArray.zip vs.toArray) (Ts.σ0 vs.length):=by
  show _=SortSt.mk' (tuples' true) ((List.range vs.length).toArray.map (W.kas_item (us.toArray.zip vs.toArray))) #[] 7 none;rw[<- hz,zfS]
 rw[e0];have:=d prog w A E (us.toArray.zip vs.toArray) s (λ_ st s'=>Q ((),st) s') hz ?_ ?_
 ·exact this
 ·intro i j hi hj C hC;unfold W.kas_cmp;rw[W.kat_item hl,W.kat_item hl];exact zrg (hk.get (by lia)) (hk.get (by lia)) hC
 ·refine q _ ?_ ?_ rfl
  ·rw[<- ep];exact W.kat_snds hl rfl
  ·show(σ'.p.map _).size=_;rw[Array.size_map,pi.sz]
abbrev zhM(a:Addr)(h h':Heap):Prop:=∀ b o,b≠a->h.get? b=some o->h'.get? b=some o
theorem znR{a f:Addr}{vs:List Value}{ks:List (Str×List Int)}{n:Nat}{PP:PySem.Fin->Shared->Prop}(T:Ts.Tot vs.length (cq ks))(ho:s.heap.get? a=some (seqObj "list" vs.toArray n)) (hlen:ks.length=vs.length) (hz:vs.length<=sizeLine)
  (turn:∀ (i:Nat) (v:Value) (k:Str×List Int),vs[i]?=some v->ks[i]?=some k->∀ (h:Heap) (tk:Nat),zhM a s.heap h->∀ Q E:Value->Shared->Prop,
   (∀ h' tk' u,(∀ b o,h.get? b=some o->h'.get? b=some o)->zgH h' u k->Q u { s with heap:=h',toks:=tk' })->wpAny (model prog w) A (call (.ref f) [v]) Q E { s with heap:=h,toks:=tk })
  (h:∀ h' tk c,zhM a s.heap h'->h'.get? a=some (seqObj "list" ((Ts.rowIx vs.length (cq ks)).map λi=>vs.getD i Value.none).toArray c)->PP (.done (.ret .none)) { s with heap:=h',toks:=tk }) :
  wpAny (model prog w) A (ksk_tree a (.ref f) false) PP E s:=by
 have ha:a < s.heap.objs.size:=hLz ho;have s1:=Heap.SameBut.update s.heap a (Obj.mapSeq λ_=>(#[]:Array Value));obtain⟨e1,ho1⟩:∃ e1,(s.heap.update a (Obj.mapSeq λ_=>(#[]:Array Value))).get? a=some (seqObj "list" #[] e1):=⟨_,get?_update_seq ho λ_=>#[]⟩;have hkS:((s.heap.update a (Obj.mapSeq λ_=>(#[]:Array Value))).push (seqObj "tuple" vs.toArray 0)).objs.size=s.heap.objs.size+1:=by rw[size_push',Heap.size_update]
 unfold ksk_tree;refine wB (listItems_at ho rfl ?_);refine wpAny_bind (listUpdate_at ho rfl ?_ (by simpa using hz) (Nat.zero_le _));refine wB (seqEpoch_at ho1 rfl ?_);refine wpAny_bind (wpAny_newTuple ?_ (by simpa using hz));refine wB (wpAny_newList ?_ (Nat.zero_le _));refine wpAny_holding ?_;rw[hkS];have keep0:zhM a s.heap (((s.heap.update a (Obj.mapSeq λ_=>(#[]:Array Value))).push (seqObj "tuple" vs.toArray 0)).push (seqObj "list" #[] 0)):=λb o hb e =>
  hPs _ (hPs _ ((s1.2 b hb).trans e))
 have a0:(((s.heap.update a (Obj.mapSeq λ_=>(#[]:Array Value))).push (seqObj "tuple" vs.toArray 0)).push (seqObj "list" #[] 0)).get? a=some (seqObj "list" #[] e1):=Heap.get?_push_of_some _ (Heap.get?_push_of_some _ ho1);have k0':(((s.heap.update a (Obj.mapSeq λ_=>(#[]:Array Value))).push (seqObj "tuple" vs.toArray 0)).push (seqObj "list" #[] 0)).get? (s.heap.objs.size+1)=some (seqObj "list" #[] 0):=by
  rw[<- hkS]; exact Heap.get?_push_size _ rfl
 have hka:s.heap.objs.size+1≠a:=Nat.ne_of_gt (Nat.lt_succ_of_lt ha);generalize ((s.heap.update a (Obj.mapSeq λ_=>(#[]:Array Value))).push (seqObj "tuple" vs.toArray 0)).push (seqObj "list" #[] 0)=g0 at keep0 a0 k0' ⊢;have nk:∀ b o,s.heap.get? b=some o->b≠s.heap.objs.size+1:=λb o e=>nNl (Nat.lt_succ_of_lt (hLz e));generalize s.heap.objs.size+1=kS at k0' hka nk ⊢;unfold ksk_rest;refine wB (wpAny_rule ?_)
 first
  | rw[List.forIn_toArray]
  | (rw[<- Array.forIn_toList]; simp only[List.toList_toArray])
  | rw[<- Array.forIn_toList]
 refine wpAny_bind (ksk_fold (λi s'=>∃ h' tk kA e,s'={ s with heap:=h',toks:=tk }/\zhM a s.heap h'/\h'.get? a=some (seqObj "list" #[] e1)/\h'.get? kS=some (seqObj "list" kA e)/\zca h' kA.toList (ks.take i)) vs 0 _
  ⟨g0,s.toks,#[],0,rfl,keep0,a0,k0',by simpa using Paired.nil⟩ ?step ?done)
 case step =>
  rintro j x s' hx ⟨h',tk,kA,e,rfl,kp,ha',hk',hks⟩;simp only[Nat.zero_add]at hks ⊢;have hj:j < vs.length:=(List.getElem?_eq_some_iff.mp hx).1;obtain⟨k,hkj⟩:∃ k,ks[j]?=some k:=⟨_,lGe (by lia)⟩;have hza:kA.size=j:=by
   have h1:=Paired.length hks;rw[Array.length_toList,List.length_take]at h1;lia
  refine wB (wpAny_attempt (turn j x k hx hkj h' tk kp _ _ λg tk2 u kg ku=>?_));dsimp only;have nk2:=kg _ _ hk';have s2:=Heap.SameBut.update g kS (Obj.mapSeq (·.push u));obtain⟨c2,hc2⟩:∃ c2,(g.update kS (Obj.mapSeq (·.push u))).get? kS=some (seqObj "list" (kA.push u) c2):=⟨_,get?_update_seq nk2 (·.push u)⟩;have ek:ks.take (j+1)=ks.take j++[k]:=by rw[List.take_add_one,hkj]; simp
  have ea:(kA.push u).toList=kA.toList++[u]:=by simp
  have tp:∀ b o,g.get? b=some o->o.cls=.type "tuple"->(g.update kS (Obj.mapSeq (·.push u))).get? b=some o:=λb o e1 e2=>(s2.2 b (λz=>by rw[z,nk2]at e1; cases e1; simp at e2)).trans e1;refine wpAny_bind (listUpdate_at nk2 rfl ?_ (by lia) (by rw[Array.size_push]; lia));refine wQ ⟨rfl,_,_,kA.push u,c2,rfl,λb o hb e=>(s2.2 b (nk b o e)).trans (kg _ _ (kp b o hb e)),(s2.2 a hka.symm).trans (kg _ _ ha'),hc2,?_⟩;rw[ea,ek];exact((hks.keeps λb o e _=>kg b o e).keeps tp).snoc (ku.keeps tp)
 case done =>
  rintro s' ⟨h',tk,kA,e,rfl,kp,ha',hk',hks⟩;rw[List.take_of_length_le (by lia)]at hks;have hza:kA.toList.length=vs.length:=(Paired.length hks).trans hlen;refine wB (listItems_at hk' rfl ?_);have tail:∀ st:SortSt,(arrOf st).map (·.2)=((Ts.rowIx vs.length (cq ks)).map λi=>vs.getD i Value.none).toArray->failedOf st=none->wpAny (model prog w) A (ksk_tail a false e1 (.ref kS) st) PP E { s with heap:=h',toks:=tk }:=by
   intro st e3 e4;unfold ksk_tail;dsimp only;have s2:=Heap.SameBut.update h' kS (Obj.mapSeq λ_=>(#[]:Array Value));have a2:(h'.update kS (Obj.mapSeq λ_=>(#[]:Array Value))).get? a=some (seqObj "list" #[] e1):=(s2.2 a hka.symm).trans ha';refine wpAny_bind (listUpdate_at hk' rfl ?_ (by rw[<- Array.length_toList]; lia) (Nat.zero_le _));refine wB (wpAny_letGo ?_);refine wB (seqEpoch_at a2 rfl ?_);rw[e3,e4];simp only[bne_self_eq_false,Bool.false_eq_true,if_false];refine wpAny_bind (listUpdate_at a2 rfl ?_ (Nat.zero_le _) (by simp[Ts.row_len]; lia));have s3:=Heap.SameBut.update (h'.update kS (Obj.mapSeq λ_=>(#[]:Array Value))) a (Obj.mapSeq λ_=>((Ts.rowIx vs.length (cq ks)).map λi=>vs.getD i Value.none).toArray);obtain⟨c3,hc3⟩:∃ c3,((h'.update kS (Obj.mapSeq λ_=>(#[]:Array Value))).update a (Obj.mapSeq λ_=>((Ts.rowIx vs.length (cq ks)).map λi=>vs.getD i Value.none).toArray)).get? a=some (seqObj "list" ((Ts.rowIx vs.length (cq ks)).map λi=>vs.getD i Value.none).toArray c3) :=
    ⟨_,get?_update_seq a2 λ_=>((Ts.rowIx vs.length (cq ks)).map λi=>vs.getD i Value.none).toArray⟩
   exact wQ (h _ _ c3 (λb o hb e=>(s3.2 b hb).trans ((s2.2 b (nk b o e)).trans (kp b o hb e))) hc3)
  unfold ksk_end;simp only[Bool.false_eq_true,if_false];have ekA:kA=kA.toList.toArray:=by simp
  by_cases h2:vs.toArray.size < 2
  ·rw[if_pos h2,if_pos h2];refine wB (wQ ?_);rw[StateT.run_pure];refine wB (wQ ?_);dsimp only;refine tail _ ?_ rfl;rw[Ts.row_small (by simpa using h2),za4];show(kA.zip vs.toArray).map (·.2)=vs.toArray;refine Array.toList_inj.mp ?_;rw[Array.toList_map,Array.toList_zip,List.toList_toArray];exact List.map_snd_zip (by rw[hza]; simp)
  ·rw[if_neg h2,if_neg h2];rw[List.size_toArray]at h2;obtain⟨fs,kt,kl,ki⟩:=hks.tups;rw[ekA];have ask:wpAny (model prog w) A (keyKind' kA.toList.toArray) (λκ s'=>κ=tuples' true/\s'={ s with heap:=h',toks:=tk }) E { s with heap:=h',toks:=tk } :=
    PySem.W.kat_kind (T:=.type "str") kt (by lia) (λv hv=>by obtain⟨i,t,rfl⟩:=ki v hv; exact PySem.W.Looks.of_pure rfl) (by rfl) ⟨by rfl,rfl⟩
   refine wB (wpAny_mono ask (λκ s0 hk=>?_) λ_ _ x=>x);obtain⟨rfl,rfl⟩:=hk;refine wB (znQ (s:={ s with heap:=h',toks:=tk }) T hks hza (by lia) λst a1 a2 a3=>tail st a1 a3)
end
section
variable {prog:Program}{w:World}{A:Around}{E:Value->Shared->Prop}{s:Shared}
noncomputable abbrev cP(qs:List (Int×Int)):Ts.Cq:=⟨λi j=>P.ltP (qs.getD i (0,0)) (qs.getD j (0,0)),tuples' true⟩
theorem zli{qs:List (Int×Int)}(nd:qs.Nodup):Ts.Tot qs.length (cP qs):=by
 refine⟨λi=>?_,λi j k=>zl4,λi j hi hj ne=>?_⟩
 ·cases h:P.ltP (qs.getD i (0,0)) (qs.getD i (0,0))with
  | false=>exact h
  | true=>have:=zjX h; rw[h]at this; cases this
 ·cases h:P.ltP (qs.getD i (0,0)) (qs.getD j (0,0))with
  | true=>exact .inl h
  | false =>
   refine .inr (zl5 (λz=>ne ?_) h);rw[List.getD_eq_getElem?_getD,List.getD_eq_getElem?_getD,List.getElem?_eq_getElem hi,List.getElem?_eq_getElem hj]at z;exact(List.getElem_inj nd).mp z
theorem zls{qs:List (Int×Int)}{p:Array Nat}(hp:PermN qs.length p)(hs:Ts.Ups (cP qs) p 0 qs.length):p.toList.map (λi=>qs.getD i (0,0))=za0 qs:=by
 have h1:p.toList.Perm (List.range qs.length):=by have:=Array.perm_iff_toList_perm.mp hp; simpa using this
 refine zjK ?_ ?_
 ·have:=h1.map λi=>qs.getD i (0,0)
  rwa [za4]at this
 ·have hz:=hp.size;have:=(Ts.ups_of (s:=0) (m:=qs.length) (by lia)).mpr hs;rw[List.drop_zero,List.take_of_length_le (by simp; lia)]at this;rw[List.pairwise_map];exact this
theorem zlP{vs:List Value}{qs:List (Int×Int)}{Q:Unit×SortSt->Shared->Prop}(hq:zbm s.heap vs qs)(nd:qs.Nodup)(hl:vs.length=qs.length)(h2:2<=vs.length)
  (q:∀ st p,PermN qs.length p->p.toList.map (λi=>qs.getD i (0,0))=za0 qs->arrOf st=p.map (W.kas_item (vs.toArray.zip vs.toArray))->failedOf st=none->Q ((),st) s) :
  wpAny (model prog w) A ((sortRuns').run (SortSt.mk' (tuples' true) (vs.toArray.zip vs.toArray) #[] 7 none)) Q E s:=by
 obtain⟨r,σ',⟨pm,up⟩,d⟩:=Ts.runs_ord (σ:=Ts.σ0 qs.length) (zli nd) (Array.Perm.refl _) rfl (by lia);have hz:(vs.toArray.zip vs.toArray).size=qs.length:=by simp; lia
 have e0:SortSt.mk' (tuples' true) (vs.toArray.zip vs.toArray) #[] 7 none=Ts.con (cP qs).k (vs.toArray.zip vs.toArray) (Ts.σ0 qs.length):=by
  show _=SortSt.mk' (tuples' true) ((List.range qs.length).toArray.map (W.kas_item (vs.toArray.zip vs.toArray))) #[] 7 none;rw[<- hz,zfS]
 rw[e0];have:=d prog w A E (vs.toArray.zip vs.toArray) s (λ_ st s'=>Q ((),st) s') hz ?_ ?_
 ·exact this
 ·intro i j hi hj C hC;obtain⟨x,t,u,ex,tx⟩:=hq.get (i:=i) (by lia);obtain⟨y,t',u',ey,ty⟩:=hq.get (i:=j) (by lia);unfold W.kas_cmp;rw[W.kat_item rfl,W.kat_item rfl,ex,ey];exact znJ tx ty hC
 ·exact q _ σ'.p pm (zls pm up) rfl rfl
theorem zjh{a:Addr}{vs:List Value}{qs:List (Int×Int)}{n:Nat}{PP:Fin->Shared->Prop}(ho:s.heap.get? a=some (seqObj "list" vs.toArray n)) (hq:zbm s.heap vs qs) (nd:qs.Nodup) (h64:vs.length < 64)
  (h:∀ (is:List Nat),is.Perm (List.range vs.length)->is.map (λi=>qs.getD i (0,0))=za0 qs->PP (.done (.ret .none)) { s with heap:=sortedHeap s.heap a vs (is.map λi=>vs.getD i Value.none).toArray }) :
  wpAny (model prog w) A (Builtin.«list.sort» ⟨[.ref a],[]⟩) PP E s:=by
 have hlen:vs.length=qs.length:=Paired.length hq;rw[list_sort_plain];have ha:a < s.heap.objs.size:=hLz ho;refine wB (listItems_at ho rfl ?_);refine wB (listUpdate_at ho rfl ?_);obtain⟨e1,ho1⟩:∃ e1,(s.heap.update a (Obj.mapSeq λ_=>#[])).get? a=some (seqObj "list" #[] e1):=⟨_,get?_update_seq ho (λ_=>#[])⟩;refine wB (seqEpoch_at ho1 rfl ?_);refine wB (wpAny_newTuple ?_);refine wB (wpAny_newList ?_);refine wpAny_holding ?_;have ho6:(((s.heap.update a (Obj.mapSeq λ_=>#[])).push (seqObj "tuple" vs.toArray 0)).push (seqObj "list" #[] 0)).get? a=some (seqObj "list" #[] e1):=by
  rw[Heap.get?_push_ne _ _ _ (by rw[size_push',Heap.size_update]; exact Nat.ne_of_lt (Nat.lt_succ_of_lt ha)),Heap.get?_push_ne _ _ _ (by rw[Heap.size_update]; exact Nat.ne_of_lt ha)];exact ho1
 have hq6:zbm (((s.heap.update a (Obj.mapSeq λ_=>#[])).push (seqObj "tuple" vs.toArray 0)).push (seqObj "list" #[] 0)) vs qs:=hq.keeps λb o e1 e2=>by
  have hb:b≠a:=λz=>by rw[z,ho]at e1; cases e1; simp at e2
  exact hPs _ (hPs _ ((Heap.get?_update_other _ _ (Ne.symm hb)).trans e1))
 show wpAny (model prog w) A _ PP E { s with heap:=((s.heap.update a (Obj.mapSeq λ_=>#[])).push (seqObj "tuple" vs.toArray 0)).push (seqObj "list" #[] 0) };dsimp only;have hsz:vs.toArray.size=vs.length:=by simp
 by_cases h2:vs.toArray.size < 2
 ·rw[if_pos h2,if_pos h2];refine wB (wQ ?_);rw[StateT.run_pure];refine wB (wQ ?_);dsimp only;refine wB (seqEpoch_at ho6 rfl ?_);refine wpAny_bind (listUpdate_at ho6 rfl ?_ (hsz2:=by rw[Array.size_map]; show(vs.toArray.zip vs.toArray).size<=_; rw[Array.size_zip,sizeLine_eq]; lia));simp only[bne_self_eq_false,Bool.false_eq_true,if_false];have eo:(arrOf (SortSt.mk' general' (vs.toArray.zip vs.toArray) #[] 7 none)).map (·.2)=((List.range vs.length).map λi=>vs.getD i Value.none).toArray:=by
   rw[za4];show(vs.toArray.zip vs.toArray).map (·.2)=vs.toArray;have key:∀ l:List Value,(l.zip l).map (λx=>x.2)=l:=λl=>by
    induction l with
    | nil=>rfl
    | cons x r ih=>simp[ih]
   simp[key]
  rw[eo];refine wQ (h (List.range vs.length) (List.Perm.refl _) ?_);rw[hlen,za4];have hl:qs.length < 2:=by lia
  cases qs with
  | nil=>simp[za0]
  | cons q r =>
   cases r with
   | nil=>simp[za0]
   | cons _ _=>simp at hl; lia
 ·rw[if_neg h2,if_neg h2];obtain⟨fs,kt,kl,ki⟩:=hq6.tups;have ask:wpAny (model prog w) A (keyKind' vs.toArray) (λκ s'=>κ=tuples' true/\s'={ s with heap:=((s.heap.update a (Obj.mapSeq λ_=>#[])).push (seqObj "tuple" vs.toArray 0)).push (seqObj "list" #[] 0) }) E { s with heap:=((s.heap.update a (Obj.mapSeq λ_=>#[])).push (seqObj "tuple" vs.toArray 0)).push (seqObj "list" #[] 0) } :=
   W.kat_kind (T:=.type "int") kt (by lia) (λv hv=>by obtain⟨i,t,rfl⟩:=ki v hv; exact W.Looks.of_pure rfl) (by rfl) ⟨by rfl,rfl⟩
  refine wB (wpAny_mono ask (λκ s0 hk=>?_) λ_ _ x=>x);obtain⟨rfl,rfl⟩:=hk;refine wpAny_bind (zlP (s:={ s with heap:=((s.heap.update a (Obj.mapSeq λ_=>#[])).push (seqObj "tuple" vs.toArray 0)).push (seqObj "list" #[] 0) }) hq6 nd hlen (by lia) λst' p hp hs har hf=>?_);dsimp only;have hout:=W.kat_snds (vs:=vs) rfl har;rw[hout];have hp':p.toList.Perm (List.range vs.length):=by have:=Array.perm_iff_toList_perm.mp hp; rw[hlen]; simpa using this
  refine wB (seqEpoch_at ho6 rfl ?_);refine wpAny_bind (listUpdate_at ho6 rfl ?_ (hsz2:=by rw[List.size_toArray,List.length_map,hp'.length_eq,List.length_range,sizeLine_eq]; lia));rw[hf];simp only[bne_self_eq_false,Bool.false_eq_true,if_false];exact wQ (h p.toList hp' hs)
theorem zky{a:Value}{vs:List Value}{qs:List (Int×Int)}{Q:Value->Shared->Prop}(hI:zbm s.heap vs qs)(nd:qs.Nodup)(h64:vs.length < 64)
  (hc:∀ (A':Around) (E':Value->Shared->Prop) (Q':List Value->Shared->Prop),A'.handled=A.handled->(∀ h' tk,(∀ b o,s.heap.get? b=some o->h'.get? b=some o)->Q' vs { s with heap:=h',toks:=tk })->wpAny (model prog w) A' (collect a) Q' E' s)
  (h:∀ (h1 h':Heap) (tk:Nat) (p:Addr) (e:Nat) (is:List Nat),(∀ b o,s.heap.get? b=some o->h1.get? b=some o)->(∀ b o,h1.get? b=some o->h'.get? b=some o)->h1.objs.size<=p->is.Perm (List.range vs.length)->is.map (λi=>qs.getD i (0,0))=za0 qs ->
   h'.get? p=some (seqObj "list" (is.map λi=>vs.getD i Value.none).toArray e)->Q (.ref p) { s with heap:=h',toks:=tk }) :
  wpAny (model prog w) A (call (.builtin "sorted") [a]) Q E s:=by
 refine Calls.call_function_entry kind_sorted plain_sorted entry_sorted (args_sorted1 _) ?_;unfold Builtin.«sorted»;refine wpAny_bind (m:=checkCount "sorted" 1 1 _) (wpAny_pure ?_);refine wB (hc _ _ _ rfl λh1 tk k1=>?_);refine wpAny_bind (wpAny_newList ?_ (by rw[sizeLine_eq]; lia));have hoL:(h1.push (seqObj "list" vs.toArray 0)).get? h1.objs.size=some (seqObj "list" vs.toArray 0):=Heap.get?_push_size _ rfl;refine wpAny_bind (wpAny_holding (wpAny_call_entry (s:={ s with heap:=h1.push (seqObj "list" vs.toArray 0),toks:=tk }) slot_list_sort ⟨_,hoL,rfl⟩ entry_list_sort (zjh hoL (hI.keeps λb o e _=>Heap.get?_push_of_some _ (k1 b o e)) nd h64 λis a1 a2=>⟨_,rfl,?_⟩) (args_list_sort _)));refine wQ ⟨_,rfl,?_⟩;obtain⟨e,he⟩:=sortedHeap_at (out:=(is.map λi=>vs.getD i Value.none).toArray) hoL;refine h h1 _ tk _ e is k1 (λb o q1=>?_) (nLr _) a1 a2 he;have lt:=hLz q1;rw[sortedHeap_old (Nat.ne_of_lt lt) (by rw[Heap.size_push]; exact Nat.lt_succ_of_lt lt)];exact hPs _ q1
end
section
variable {X:Cx}
theorem ziE(hc:X.calm=true):zci X (.builtin "sorted") (λxs H Q=>∃ p ys qs,xs=[.ref p]/\SqL X.K H p ys/\Paired (λ(y:V) (q:Int×Int)=>∃ a,y=.ref a/\SqT X.K H a [.int q.1,.int q.2]) ys qs/\qs.Nodup/\qs.length < 64 /\
  ∀ (is:List Nat) (l:Addr),is.Perm (List.range ys.length)->is.map (λi=>qs.getD i (0,0))=za0 qs->H l=none->Q (.ref l) (upd H l (.lst (is.map λi=>ys.getD i .non)))):=by
 intro pins s σ H xs us Q I r h;obtain⟨p,ys,qs,rfl,hq,ps,nd,h64,q⟩:=h;obtain⟨u,rfl,ru⟩:=zg6 r;cases ru
 obtain⟨its,rv,pl,hz⟩:=I.list hq;have hl1:ys.length=its.length:=rv.length;have hl2:ys.length=qs.length:=Paired.length ps;have pa:zbm s.heap its qs:=by
  clear q pl hq r hz hl1 hl2 nd h64;induction ps generalizing its with
  | nil=>cases rv; exact .nil
  | cons hd tl ih =>
   cases rv with
   | cons r1 rr =>
    obtain⟨a,ea,sa⟩:=hd;subst ea;cases r1
    obtain⟨its',rv',pt,_⟩:=I.tuple sa;cases rv' with
    | cons r1 rr'=>cases rr' with
     | cons r2 rr'=>cases rr'; obtain⟨t,rfl⟩:=r1; obtain⟨t',rfl⟩:=r2; exact .cons ⟨a,t,t',rfl,pt⟩ (ih _ rr)
 refine zky pa nd (by lia) (λA' E' Q' _ q'=>collect_list pl.isList (q' _ s.toks λb o z=>?_) (by rw[sizeLine_eq]; lia)) λh1 h' tk l e is k1 k2 hp pm so e1=>?_
 ·have lt:=hLz z;rw[Heap.get?_update_ne _ _ _ _ (Nat.ne_of_lt lt)];exact hPs _ z
 ·have I1:Inv X pins σ H { s with heap:=h1,toks:=tk }:=I.kept k1;have hn:=I1.hok.fresh hp;rw[<- hl1]at pm;have hb:∀ i∈is,i < ys.length:=λi hi=>List.mem_range.mp (pm.mem_iff.mp hi);have I2:Inv X pins σ (upd H l (.lst (is.map λi=>ys.getD i .non))) { s with heap:=h',toks:=tk }:=I1.laid (t':=tk) k2 hp ⟨by rw[List.length_map,pm.length_eq,List.length_range,sizeLine_eq]; lia,_,e,zi0 rv hb,e1⟩;exact⟨.ref l,_,I2,rfl,q is l pm so hn⟩
end
end L2
namespace L3
open PySem PySem.Spec PyProof.Rows L2
section
variable {X:Cx}{e a b c o i l:Expr}{es:List Expr}{pos apos p p2 pos2:Pos}{ta tb tc tv to ti tl:TE3}{t:TA3}{k:Nat}{tg:Expr}{st:Stmt}
theorem zmD{K:KW}{H:Hp}{ys:List V}{qs:List (Int×Int)}(d:Dens K H ys (qs.map pT)):∀ {is:List Nat},(∀ i∈is,i < ys.length)->Dens K H (is.map λi=>ys.getD i .non) ((is.map λi=>qs.getD i (0,0)).map pT)
 | [],_=>.nil
 | j::r,h=>by
  refine .cons ?_ (zmD d λj hj=>h j (lMc _ hj))
  have hj:=h j (List.mem_cons_self ..)
  obtain⟨t',e1,d1⟩:=d.getV (lGe hj)
  rw[List.getElem?_map,Option.map_eq_some_iff]at e1
  obtain⟨q,e2,rfl⟩:=e1
  show Den K H (ys.getD j .non) (pT (qs.getD j (0,0)))
  rw[List.getD_eq_getElem?_getD,List.getD_eq_getElem?_getD,e2,List.getElem?_eq_getElem hj]
  exact d1
def zm9:List T->Gp->VK3->Prop:=λts G Q=>match ts with
 | [.ref q]=>(match G q with
  | some (.lst us)=>∃ qs:List (Int×Int),us=qs.map pT/\qs.Nodup/\qs.length < 64/\∀ p,G p=none->Q (.ref p) (updG G p (.lst ((za0 qs).map pT)))
  | _=>False)
 | _=>False
theorem zni(hm:X.mg "sorted"=none) (ha:QA X (e::es) t) (hg:Gl X "sorted":=by rfl) (he:starEach (e::es) X.env=(false,eval e X.env)::starEach es X.env:=by rfl) (hpl:(backTo pos (starEach es X.env)).any (·.1)=false:=by rfl) (hc:X.calm=true:=by rfl) :
  QE X (.Call (.Name "sorted" p) (e::es) [] pos) (wCB zm9 t):=zgP (ziE hc) (λH G xs ts Q Q3 d r h im=>by
 unfold zm9 at h
 split at h
 ·cases d with
  | cons d1 d2 =>
   cases d2
   cases d1
   split at h
   ·rename_i us eg
    obtain⟨ys,e1,ds⟩:=r _ _ eg
    obtain⟨qs,eu,nd,h64,h⟩:=h
    subst eu
    refine⟨_,ys,qs,rfl,SqL.of e1,zeV ds,nd,h64,λis l pm so hn=>?_⟩
    have hb:∀ i∈is,i < ys.length:=λi hi=>List.mem_range.mp (pm.mem_iff.mp hi)
    refine im _ _ _ _ (h l (r.free hn)) (Kp.new hn) (.ref l) (r.new (o:=.lst ((za0 qs).map pT)) hn ⟨_,zak,?_⟩)
    rw[<- so]
    exact(zmD ds hb).mono (Kp.new hn)
   ·exact h.elim
 ·exact h.elim) hm boot_sorted ha hg (by decide) (by decide) he hpl
end
end L3
namespace L2
open PySem PySem.Spec PyProof.Rows
section
variable {prog:Program}{w:World}{A:Around}{E:Value->Shared->Prop}{s:Shared}
theorem zjy{l:Addr}{vs:List Value}{Q:List Value->Shared->Prop}(hl:IsTup s.heap l vs.toArray)(hz:vs.length<=sizeLine)
  (h:∀ h',(∀ b o,s.heap.get? b=some o->h'.get? b=some o)->Q vs { s with heap:=h' }):wpAny (model prog w) A (collect (.ref l)) Q E s:=by
 obtain⟨o,eo,ec,n,ed⟩:=hl;unfold collect;refine wB (wpAny_runValue (codeAny_builtin entry_proto_collect' ?_));show wpAny _ _ (do again (.builtin "list.__iadd__" ⟨[<- newList [],.ref l],[]⟩)) _ _ s;refine wB (wpAny_newList (wQ ⟨Code.quiet_builtin _ (by decide +kernel),codeAny_builtin entry_list_iadd' ?_⟩));show wpAny _ _ (Builtin.List.listExtendWith (.ref s.heap.objs.size) (.ref l) (.ref s.heap.objs.size)) _ _ { s with heap:=s.heap.push (seqObj "list" #[] 0) };unfold Builtin.List.listExtendWith;have eo':(s.heap.push (seqObj "list" #[] 0)).get? l=some o:=Heap.get?_push_of_some _ eo;refine wpAny_bind (wpAny_typeOf (T:="tuple") ⟨o,eo',ec⟩ ?_);rw[if_pos (by rw[show(Value.type "tuple"==Value.type "tuple")=true from rfl]; simp)];refine wB (listItems_at eo' ed ?_);refine wB (listItems_at (xs:=#[]) (n:=0) (hPz _ rfl) rfl ?_);rw[if_neg (by simp)];refine wpAny_bind (listUpdate_at (xs:=#[]) (n:=0) (Heap.get?_push_size _ rfl) rfl ?_ (Nat.zero_le _) (by simp; lia));refine wQ ?_;show wpAny (model prog w) A (load s.heap.objs.size >>= λo=>_) Q E _;refine wB (wpAny_load (get?_update_seq (hPz _ rfl) _) ?_);show wpAny _ _ (pure ((#[]:Array Value)++vs.toArray).toList) Q E _;rw[show((#[]:Array Value)++vs.toArray).toList=vs by simp];refine wQ (h _ λb p e=>?_);have lt:=hLz e;rw[Heap.get?_update_ne _ _ _ _ (Nat.ne_of_lt lt)];exact hPs _ e
theorem zkx{t f:Addr}{vs:List Value}{ks:List (Str×List Int)}{Q:Value->Shared->Prop}(T:Ts.Tot vs.length (cq ks))(hc:∀ (A':Around) (E':Value->Shared->Prop) (Q':List Value->Shared->Prop),(∀ h',(∀ b o,s.heap.get? b=some o->h'.get? b=some o)->Q' vs { s with heap:=h' })->wpAny (model prog w) A' (collect (.ref t)) Q' E' s)(hlen:ks.length=vs.length)(hz:vs.length<=sizeLine)
  (turn:∀ (i:Nat) (v:Value) (k:Str×List Int),vs[i]?=some v->ks[i]?=some k->∀ (h:Heap) (tk:Nat),(∀ b o,s.heap.get? b=some o->h.get? b=some o)->∀ Q E:Value->Shared->Prop,
   (∀ h' tk' u,(∀ b o,h.get? b=some o->h'.get? b=some o)->zgH h' u k->Q u { s with heap:=h',toks:=tk' })->wpAny (model prog w) A.in1.in1 (call (.ref f) [v]) Q E { s with heap:=h,toks:=tk })
  (h:∀ (h1 h':Heap) (tk:Nat) (p:Addr) (e:Nat),(∀ b o,s.heap.get? b=some o->h1.get? b=some o)->(∀ b o,h1.get? b=some o->h'.get? b=some o)->h1.objs.size<=p ->
   h'.get? p=some (seqObj "list" ((Ts.rowIx vs.length (cq ks)).map λi=>vs.getD i Value.none).toArray e)->Q (.ref p) { s with heap:=h',toks:=tk }) :
  wpAny (model prog w) A (call (.builtin "sorted") [.ref t] [(Str.ofString "key",.ref f)]) Q E s:=by
 refine call_function_entry_kw kind_sorted plain_sorted entry_sorted (ksk_s1 _ _) ?_;unfold Builtin.«sorted»;refine wpAny_bind (m:=checkCount "sorted" 1 1 _) (wpAny_pure ?_);refine wB (hc _ _ _ λh1 k1=>?_);refine wB (wpAny_newList ?_ hz);have hoL:(h1.push (seqObj "list" vs.toArray 0)).get? h1.objs.size=some (seqObj "list" vs.toArray 0):=Heap.get?_push_size _ rfl;refine wpAny_bind (wpAny_holding (wpAny_call_entry_kw (s:={ s with heap:=h1.push (seqObj "list" vs.toArray 0) }) slot_list_sort ⟨_,hoL,rfl⟩ entry_list_sort ?body (ksk_l1 _ _)))
 case body =>
  show wpAny (model prog w) A.in1.in1 (Builtin.«list.sort» ⟨[.ref h1.objs.size],[(Str.ofString "key",.ref f)]⟩) _ _ _;rw[ksk_t1];refine znR T hoL hlen hz (λi v k hv hk g tk kp Q' E' q=>turn i v k hv hk g tk (λb o e=>kp b o (nNl (hLz (k1 b o e))) (hPs _ (k1 b o e))) Q' E' q) λh' tk c kp e=>⟨_,rfl,?_⟩;exact wQ ⟨_,rfl,h h1 h' tk _ c k1 (λb o e=>kp b o (nNl (hLz e)) (hPs _ e)) (nLr _) e⟩
end
end L2
namespace L3
open PySem PySem.Spec PyProof.Rows L2
section
variable {X:Cx}{c:Expr}{body:List Stmt}{tc:TT3}{tb:TS3}{pos:Pos}
end
section
variable {X:Cx}{pos:Pos}{k v:Expr}{keys:List (Option Expr)}{values:List Expr}{trs:List (TE3×TE3)}{tk tv:TE3}
end
structure Mkr(X:Cx)(c P:Addr):Prop where
 code:X.env.code=.ref c
 hd:W.CodeHd X.base c P
 bm:X.base.BuiltinsAt X.mg P
noncomputable def zpV(pos:Pos)(c:Addr):Array Value:=#[rawInt pos.line,rawInt pos.col,.ref c]
def zgj(P:Addr)(q:Str)(pos:Pos)(H H':Hp):Prop :=
 H'=H∨∃ c oc vs t,H c=none/\H P=some (.tbl #[])/\oc.data=.fields vs/\vs[1]?=some (.str q t)/\H'=upd (upd H c (.frz oc (.own c))) P (.tbl (zpV pos c))
theorem zgj.kp{P:Addr}{q:Str}{pos:Pos}{H H':Hp}(h:zgj P q pos H H'):Kp H H':=by
 rcases h with rfl | ⟨c,oc,vs,t,hc,hP,e1,e2,rfl⟩
 ·exact Kp.refl _
 ·refine (Kp.new (o:=.frz oc (.own c)) hc).trans ⟨λb xs e=>?_,λb o u e m=>?_⟩
  ·rw[zal]; exact e;rintro rfl;rw[zal (zao hP hc),hP]at e; cases e
  ·rw[zal]; exact e;rintro rfl;rw[zal (zao hP hc),hP]at e; cases e
theorem zgj.hr{K:KW}{P:Addr}{q:Str}{pos:Pos}{H H':Hp}{G:Gp}(h:zgj P q pos H H')(r:HR K H G)(g:G P=some (.tab q pos)):HR K H' G:=by
 have kp:=h.kp;rcases h with rfl | ⟨c,oc,vs,t,hc,hP,e1,e2,rfl⟩
 ·exact r
 ·intro a o e;by_cases z:a=P
  ·subst z;rw[g]at e; cases e;refine⟨_,zak,.inr ⟨c,oc,vs,t,rfl,?_,e1,e2⟩⟩;rw[zal (zao hP hc).symm,zak]
  ·refine (r a o e).at kp ?_;rw[zal z,zal];rintro rfl;have:=r.free hc;rw[e]at this; cases this
section
variable {X:Cx}{pins:List (Addr×Obj)}{σ:L2.St}{H:Hp}{s:Shared}
theorem znN{c P:Addr}{qual x:Str}{n:Nat}{pa p1 p2 p3 p4 pos:Pos}{ps:Array Value}{E:Value->Shared->Prop}{Q:Value->Shared->Prop}(M:Mkr X c P)(I:Inv X pins σ H s)(hP:H P=some (.tbl ps))(ht:Tab H qual pos ps)
  (hq:X.env.qual++"<lambda>"=qual) (hcl:closureFor (zme x) X.env=pure []) (hdf:defaultsOf (zmf x pa) X.env=([],[]))
  (h:∀ (s':Shared) (H':Hp) (f c':Addr) (pm ctv:Value),(∃ h' tk,s'={ s with heap:=h',toks:=tk })->(∀ b o,b≠P->s.heap.get? b=some o->s'.heap.get? b=some o)->Inv X pins σ H' s'->zgj P qual pos H H'->s'.heap.get? f=some (PySem.W.kla_obj "<lambda>" qual (zmf x pa) (znP x n p1 p2 p3 p4) (zme x) [] pm c' ctv)->s'.heap.CodeRec (.ref c') qual->Q (.ref f) s') :
  wpAny (model X.prog X.w) X.A (eval (.Lambda (zmf x pa) (znP x n p1 p2 p3 p4) (zme x) pos) X.env) Q E s:=by
 refine PySem.W.kla_eval hdf ?_;rw[hq];have hns:=I.ok.mod.glob.keeps I.bk;have hPo:s.heap.get? P=some (PySem.W.tabObj ps):=I.hok P _ hP;obtain⟨bm,ob,b1,b2,b3,b4,b5,b6⟩:=M.bm;have hgP:mainGlobals≠P:=λz=>by
  obtain⟨o,es,ep,e,hd,_⟩:=hns;rw[z,hPo]at e; cases e; cases hd
 have hB:s.heap.BuiltinsAt X.mg P:=⟨bm,ob,b1,b2,b3,b4,I.bk _ _ b5,b6⟩;rcases ht with rfl | ⟨c',oc,vs,t,rfl,hc',d1,d2⟩
 ·refine PySem.W.kla_makeFunction (mg:=X.mg) (clos:=[]) hcl I.ok.glob hns M.code (M.hd.keeps I.bk) hPo trivial rfl hgP hB λc' ctv h' tk hx hge hlt hrec htb=>?_;obtain⟨c₂,oc,vs,t,e2,hoc,d1,d2⟩:=id hrec;cases e2
  have hcn:H c'=none:=I.hok.fresh hge;have hne:c'≠P:=(zao hP hcn).symm;have keep:∀ b o,b≠P->s.heap.get? b=some o->(h'.push (PySem.W.kla_obj "<lambda>" qual (zmf x pa) (znP x n p1 p2 p3 p4) (zme x) [] ((X.mg "__name__").getD .none) c' ctv)).get? b=some o:=λb o hb e=>Heap.get?_push_of_some _ (hx b o hb e);have hP':(h'.push (PySem.W.kla_obj "<lambda>" qual (zmf x pa) (znP x n p1 p2 p3 p4) (zme x) [] ((X.mg "__name__").getD .none) c' ctv)).get? P=some (PySem.W.tabObj (zpV pos c')):=Heap.get?_push_of_some _ (by simpa [zpV] using htb);have nP:∀ b,H b=none->b≠P:=λb e z=>by rw[z,hP]at e; cases e
  have nc:∀ b o,s.heap.get? b=some o->b≠c':=λb o e=>nNl (nLl (hLz e) hge);have nc2:∀ b u,H b=some u->b≠c':=λb u e z=>by rw[z,hcn]at e; cases e
  have same:∀ b,b≠P->b≠c'->upd (upd H c' (.frz oc (.own c'))) P (.tbl (zpV pos c')) b=H b:=λb z1 z2=>by rw[zal z1,zal z2]
  refine h _ (upd (upd H c' (.frz oc (.own c'))) P (.tbl (zpV pos c'))) h'.objs.size c' _ ctv ⟨_,tk,rfl⟩ keep ?_ (.inr ⟨c',oc,vs,t,hcn,hP,d1,d2,rfl⟩) (hPz _ rfl) ⟨c',oc,vs,t,rfl,hPs _ hoc,d1,d2⟩;refine I.step (g':=s.gens) (d':=s.drawn) (ch:=[]) (λ_ z=>nomatch z) (λb o _ _ _ e hn=>keep b o (nP b hn) e) (λb o _ _ _ e hn=>⟨o.slots,keep b o (nP b hn) e⟩) (λb o _ e hn=>(same b (nP b hn) (nc b o e)).trans hn)
   (λb o _ e=>?_) (λb xs e=>?_) (λb o u e=>?_) (λb qs e=>?_) (λm hm=>?_) (λb o e=>?_) I.bare
  ·by_cases z:b=P
   ·subst z; exact⟨_,hP'⟩
   ·exact⟨o,keep b o z e⟩
  ·rw[same b (λz=>by rw[z,hP]at e; cases e) (nc2 b _ e)]; exact e
  ·rw[same b (λz=>by rw[z,hP]at e; cases e) (nc2 b _ e)]; exact e
  ·by_cases z:b=P
   ·subst z;rw[hP]at e; cases e;exact⟨zpV pos c',by rw[zak]; simp⟩
   ·exact⟨#[],by rw[same b z (nc2 b _ e),e]; simp⟩
  ·obtain⟨o,es,ep,e,r⟩:=hm;exact⟨o,es,ep,keep _ o (nP _ I.free) e,r⟩
  ·by_cases z:b=P
   ·subst z;rw[zak]at e; cases e;exact hP'
   ·by_cases z2:b=c'
    ·subst z2;rw[zal z,zak]at e; cases e;exact⟨hPs _ hoc,oc,hPs _ hoc⟩
    ·rw[same b z z2]at e;refine (I.hok b o e).stay (λd v hd q=>keep d v ?_ q) (λd q=>?_) λd xs q=>?_
     ·rcases hd with rfl | hd
      ·exact z
      ·rintro rfl; rw[hP]at hd; cases hd
     ·rw[same d (λz=>by rw[z,hP]at q; cases q) (nc2 d _ q)]; exact q
     ·rw[same d (λz=>by rw[z,hP]at q; cases q) (nc2 d _ q)]; exact q
 ·have hco:s.heap.get? c'=some oc:=(I.hok c' _ hc').1;refine PySem.W.kla_makeFunctionHit (mg:=X.mg) (clos:=[]) (cv:=.ref c') hcl I.ok.glob hns M.code (M.hd.keeps I.bk) hPo (by simp[TriplesOk,rawInt]) (by simp[codeAmong,rawInt]) hB λctv h' tk kp hsz=>?_;have keep:∀ b o,s.heap.get? b=some o->(h'.push (PySem.W.kla_obj "<lambda>" qual (zmf x pa) (znP x n p1 p2 p3 p4) (zme x) [] ((X.mg "__name__").getD .none) c' ctv)).get? b=some o:=λb o e=>Heap.get?_push_of_some _ (kp b o e);exact h _ H h'.objs.size c' _ ctv ⟨_,tk,rfl⟩ (λb o _ e=>keep b o e) (I.kept (t':=tk) keep) (.inl rfl) (hPz _ rfl) ⟨c',oc,vs,t,rfl,keep _ _ hco,d1,d2⟩
end
noncomputable def zma:T->Option (Str×List Int)
 | .tup [.str x,.int a]=>some (x,[a])
 | .tup (.str x::.int a::.int b::_)=>some (x,[a,b])
 | _=>none
noncomputable def zaQ(ts:List T):List (Str×List Int):=ts.map λt=>(zma t).getD k0
noncomputable def zlp(ts:List T):List T:=(Ts.rowIx ts.length (cq (zaQ ts))).map λi=>ts.getD i .non
theorem zpM{K:KW}{H:Hp}{v:V}{t:T}{k:Str×List Int}(d:Den K H v t)(h:zma t=some k):∃ a ys,v=.ref a/\SqT K.k H a ys/\∀ us,zaF ys us->∃ tk ws,us.take 3=Value.str k.1 tk::ws/\IntsAre ws k.2:=by
 unfold zma at h;split at h
 ·cases h
  cases d with
  | tup q ds =>
   rename_i a ys;refine⟨a,ys,rfl,q,λus r=>?_⟩;cases ds with
   | cons d1 ds=>cases ds with
    | cons d2 ds =>
     cases ds; cases d1; cases d2
     cases r with
     | cons r1 r=>cases r with
      | cons r2 r =>
       cases r
       obtain⟨t1,rfl⟩:=r1;obtain⟨t2,rfl⟩:=r2;exact⟨t1,_,rfl,.cons _ t2 .nil⟩
 ·cases h
  cases d with
  | tup q ds =>
   rename_i a ys;refine⟨a,ys,rfl,q,λus r=>?_⟩;cases ds with
   | cons d1 ds=>cases ds with
    | cons d2 ds=>cases ds with
     | cons d3 ds =>
      cases d1; cases d2; cases d3
      cases r with
      | cons r1 r=>cases r with
       | cons r2 r=>cases r with
        | cons r3 r =>
         obtain⟨t1,rfl⟩:=r1;obtain⟨t2,rfl⟩:=r2;obtain⟨t3,rfl⟩:=r3;exact⟨t1,_,rfl,.cons _ t2 (.cons _ t3 .nil)⟩
 ·cases h
theorem zkf{K:KW}{H:Hp}{xs:List V}{ts:List T}(d:Dens K H xs ts):∀ {is:List Nat},(∀ i∈is,i < ts.length)->Dens K H (is.map λi=>xs.getD i .non) (is.map λi=>ts.getD i .non)
 | [],_=>.nil
 | i::r,h=>by
  have hi:=h i (List.mem_cons_self ..)
  obtain⟨v,e,dv⟩:=d.get (lGe hi)
  refine .cons ?_ (zkf d λj hj=>h j (lMc _ hj))
  show Den K H (xs.getD i .non) (ts.getD i .non)
  rw[List.getD_eq_getElem?_getD,List.getD_eq_getElem?_getD,e,List.getElem?_eq_getElem hi]
  exact dv
def ltT(x y:T):Prop:=ltK ((zma x).getD k0) ((zma y).getD k0)=true
theorem zhU(ts:List T):(zlp ts).Perm ts:=by
 have:=(Ts.row_perm ts.length (cq (zaQ ts))).map λi=>ts.getD i .non
 rwa [za4]at this
theorem zmg{ts:List T}{i:Nat}(h:i < ts.length):(zaQ ts).getD i k0=(zma (ts.getD i .non)).getD k0:=by
 unfold zaQ;rw[List.getD_eq_getElem?_getD,List.getElem?_map,List.getD_eq_getElem?_getD,List.getElem?_eq_getElem h]; rfl
theorem zlo{ts:List T}(nd:(zaQ ts).Nodup):(zlp ts).Pairwise ltT:=by
 have T:=zjE nd;rw[show(zaQ ts).length=ts.length by unfold zaQ; rw[List.length_map]]at T;have up:=Ts.row_up T;unfold zlp;rw[List.pairwise_map];refine List.Pairwise.imp_of_mem (λ{i j} hi hj h=>?_) up;show ltK _ _=true;rw[<- zmg (Ts.row_lt hi),<- zmg (Ts.row_lt hj)];exact h
theorem zoJ{ts us:List T}(p:ts.Perm us)(nd:(zaQ ts).Nodup):zlp ts=zlp us:=by
 have nd':(zaQ us).Nodup:=(p.map _).nodup_iff.mp nd;refine Ts.rise_eq (R:=ltT) (λa b h h'=>?_) (zlo nd) (zlo nd') ((zhU ts).trans (p.trans (zhU us).symm));have:=zom h h';rw[zl6]at this; cases this
section
variable {X:Cx}{e:Expr}{pos p kp:Pos}{t:TA3}
def zlb(P:Addr)(q:Str)(lp:Pos)(t:TA3):TE3:=λτ G Q=>t τ G λts G1=>match ts with
 | [x]=>(match zaJ x G1 with
  | some us=>G1 P=some (.tab q lp)/\(∀ u∈us,(zma u).isSome=true)/\(zaQ us).Nodup/\∀ l,G1 l=none->Q (.ref l) (updG G1 l (.lst (zlp us)))
  | none=>False)
 | _=>False
theorem zog{c P:Addr}{qual x:Str}{pa p1 p2 p3 p4 lp:Pos}{k:Nat}(M:Mkr X c P)(hr:Room k X.A)(hm:X.mg "sorted"=none) (ha:QA X [e] t) (hg:Gl X "sorted":=by rfl)
  (hq:X.env.qual++"<lambda>"=qual:=by rfl) (hcl:closureFor (zme x) X.env=pure []:=by rfl) (hdf:defaultsOf (zmf x pa) X.env=([],[]):=by rfl) (hd:(x==("__debug__":Str))=false:=by decide)
  (hb:∀ v pm cd ctv:Value,bindArgs (PySem.W.kla_fn "<lambda>" qual (zmf x pa) (znP x 3 p1 p2 p3 p4) (zme x) [] pm cd ctv) ⟨[v],[]⟩=pure [(x,v)]:=by intros; rfl)
  (he:backTo pos (starEach [e] X.env)=(false,eval e X.env)::backTo pos (starEach [] X.env):=by rfl) :
  QE X (.Call (.Name "sorted" p) [e] [⟨some "key",.Lambda (zmf x pa) (znP x 3 p1 p2 p3 p4) (zme x) lp,kp⟩] pos) (zlb P qual lp t):=by
 intro pins s σ H Q I h;obtain⟨τ,G,Q3,st,r,h,im⟩:=h;refine wpAny_Call_Name_kw (ze8 I hg hm boot_sorted ?_);refine PyProof.Rows.callWith_kw (thn (ha pos pins s σ H (λvs H1=>∃ ts G1,(match ts with
  | [x]=>(match zaJ x G1 with
   | some us=>G1 P=some (.tab qual lp)/\(∀ u∈us,(zma u).isSome=true)/\(zaQ us).Nodup/\∀ l,G1 l=none->Q3 (.ref l) (updG G1 l (.lst (zlp us)))
   | none=>False)
  | _=>False)/\Kp H H1/\Dens X.kw H1 vs ts/\HR X.kw H1 G1) I ⟨τ,G,_,st,r,h,λts G1 vs H1 h1 k1 d1 r1=>⟨ts,G1,h1,k1,d1,r1⟩⟩) λus s1 ⟨vs,H1,I1,rv1,ts,G1,h1,k1,d1,r1⟩=>?_) he (by rw[he]; rfl) rfl rfl
 split at h1
 ·rename_i x;split at h1
  case h_2=>exact h1.elim
  rename_i ls esq;obtain⟨gP,hl,nd,q⟩:=h1;cases d1 with
  | cons d1 d2 =>
  cases d2
  obtain⟨u1,rfl,ru⟩:∃ u,us=[u]/\zaR _ u:=by
   cases rv1 with
   | cons a b=>cases b; exact⟨_,rfl,a⟩
  obtain⟨ps,hP,tb⟩:=r1 P _ gP;refine PyProof.Rows.kws_cons (znN M I1 hP tb hq hcl hdf λs2 H2 f c' pm ctv es kp2 I2 ts2 hf hcr=>PyProof.Rows.kws_nil ?_);have k2:=ts2.kp;have r2:=ts2.hr r1 gP;obtain⟨a,xs,ea,sq,ds2⟩:=zd7 (d1.mono k2) r2 esq;subst ea;cases ru
  have got:∃ its:List Value,zaF xs its/\xs.length<=sizeLine/\∀ (A':Around) (E':Value->Shared->Prop) (Q':List Value->Shared->Prop),(∀ h',(∀ b o,s2.heap.get? b=some o->h'.get? b=some o)->Q' its { s2 with heap:=h' })->wpAny (model X.prog X.w) A' (collect (.ref a)) Q' E' s2:=by
   rcases sq with sq | sq
   ·obtain⟨its,rv,pl,hz⟩:=I2.list sq;refine⟨its,rv,hz,λA' E' Q' q'=>collect_list pl.isList (q' _ λb o z=>?_) (by rw[<- rv.length]; exact hz)⟩;have lt:=hLz z;rw[Heap.get?_update_ne _ _ _ _ (Nat.ne_of_lt lt)];exact hPs _ z
   ·obtain⟨its,rv,tp,hz⟩:=I2.tuple sq;exact⟨its,rv,hz,λA' E' Q' q'=>zjy tp (by rw[<- rv.length]; exact hz) q'⟩
  obtain⟨its,rv,hz,tp⟩:=got;have hlx:its.length=ls.length:=by rw[<- ds2.length]; exact rv.length.symm
  have tt:Ts.Tot its.length (cq (zaQ ls)):=by
   have:=zjE nd;rw[show(zaQ ls).length=its.length by unfold zaQ; rw[List.length_map,hlx]]at this;exact this
  show wpAny _ _ (call (.builtin "sorted") [.ref a] [(Str.ofString "key",.ref f)]) _ _ s2;refine zkx (ks:=zaQ ls) tt tp (by unfold zaQ; rw[List.length_map,hlx]) (by rw[<- rv.length]; exact hz) (λi v kk hv hk g tk kg Q' E' q'=>?_) λh1 h' tk l e' kk1 kk2 hp e1=>?_
  ·unfold zaQ at hk;rw[List.getElem?_map,Option.map_eq_some_iff]at hk;obtain⟨tl,etl,ek⟩:=hk;obtain⟨kt,ekt⟩:=Option.isSome_iff_exists.mp (hl tl (List.mem_of_getElem? etl));rw[ekt]at ek;simp only[Option.getD_some]at ek;subst ek;obtain⟨y,ey,dy⟩:=ds2.get etl;obtain⟨v',ev',rv'⟩:=rv.get ey;rw[hv]at ev'; cases ev';obtain⟨b,ys,rfl,sb,hk2⟩:=zpM dy ekt;cases rv'
   obtain⟨itb,rvb,tpb,hzb⟩:=I2.tuple sb;obtain⟨tk1,ws,e3,iw⟩:=hk2 itb rvb;have dp:=hr.dp;refine znO (s:={ s2 with heap:=g,toks:=tk }) (n:=3) (its:=itb) (by show X.A.depth < _; lia) (I2.nolimit.keeps kg) (kg _ _ hf) ?_ (let ⟨o,e,r⟩:=tpb; ⟨o,kg _ _ e,r⟩) (by rw[<- rvb.length]; exact hzb) hd hb λh' tk' kA kp' tp'=>q' h' tk' _ kp' ⟨kA,tk1,ws,rfl,by rw[<- e3]; exact tp',iw⟩;obtain⟨c2,oc,vs2,t2,e5,hoc,d5,d6⟩:=hcr;exact⟨c2,oc,vs2,t2,e5,kg _ _ hoc,d5,d6⟩
  ·have I3:Inv X pins σ H2 { s2 with heap:=h1,toks:=tk }:=I2.kept kk1;have hn:=I3.hok.fresh hp;have hb2:∀ i∈Ts.rowIx its.length (cq (zaQ ls)),i < xs.length:=λi hi=>by rw[rv.length]; exact Ts.row_lt hi
   have I4:Inv X pins σ (upd H2 l (.lst ((Ts.rowIx its.length (cq (zaQ ls))).map λi=>xs.getD i .non))) { s2 with heap:=h',toks:=tk } :=
    I3.laid (t':=tk) kk2 hp ⟨by rw[List.length_map,Ts.row_len,<- rv.length]; exact hz,_,e',zi0 rv hb2,e1⟩
   refine⟨.ref l,_,I4,rfl,im _ _ _ _ (q l (r2.free hn)) ((k1.trans k2).trans (Kp.new hn)) (.ref l) (r2.new (o:=.lst (zlp ls)) hn ⟨_,zak,?_⟩)⟩;unfold zlp;rw[<- hlx];exact(zkf ds2 λi hi=>by rw[<- hlx]; exact Ts.row_lt hi).mono (Kp.new hn)
 ·exact h1.elim
end
theorem zqe{v j}{pos:Pos}{es:List Expr}{env:Env}:starEach (.Constant v j pos::es) env=(false,eval (.Constant v j pos) env)::starEach es env:=by rfl
theorem qaI{X:Cx}{i j}{pos:Pos}{es:List Expr}{t:TA3}(hr:QA X es t):QA X (.Constant (.int i) j pos::es) (zaf (wC (.int i)) t):=qa zax hr zqe
end L3
namespace L2
open PySem PySem.Spec PyProof.Rows
section
variable {prog:Program}{w:World}{A:Around}{R:Result->Shared->Prop}{I:Addr}{fp wr:List Addr}{n:Nat}{P:Nat->Value->Prop}{St:Nat->Heap->Prop}
end
section
variable {prog:Program}{w:World}{A:Around}{E:Value->Shared->Prop}{s:Shared}
end
section
variable {X:Cx}
end
end L2
namespace L3
open PySem PySem.Spec PyProof.Rows L2
section
variable {X:Cx}{e v:Expr}{pos p kp:Pos}{t:TA3}{tv:TE3}
end
end L3
namespace L2
open PySem PySem.Spec PyProof.Rows
section
variable {prog:Program}{w:World}{A:Around}{E:Value->Shared->Prop}{s:Shared}
end
section
variable {X:Cx}
end
end L2
namespace L3
open PySem PySem.Spec PyProof.Rows L2
section
variable {X:Cx}{a:Expr}{pos p p2 pos2:Pos}{t:TA3}
end
end L3
namespace L2
open PySem PySem.Spec PyProof.Rows
theorem zk7(n a b:Nat)(ha:a < n)(hb:b < n):ZipApart (n+4) (n+2) (n+3) n (n+1) a b :=
 ⟨by show(n+2:Nat)≠n+4; lia,by show(n+3:Nat)≠n+4; lia,by show(n:Nat)≠n+4; lia,by show(n+1:Nat)≠n+4; lia,by show(n+2:Nat)≠n+3; lia,by show(n+2:Nat)≠n; lia,by show(n+2:Nat)≠n+1; lia,by show(n+3:Nat)≠n; lia,by show(n+3:Nat)≠n+1; lia,by show(n:Nat)≠n+1; lia,by show(a:Nat)≠n+4; lia,by show(a:Nat)≠n+3; lia,by show(a:Nat)≠n; lia,by show(a:Nat)≠n+1; lia,by show(b:Nat)≠n+4; lia,by show(b:Nat)≠n+3; lia,by show(b:Nat)≠n; lia,by show(b:Nat)≠n+1; lia⟩
end L2
namespace L3
open PySem PySem.Spec PyProof.Rows L2
section
variable {X:Cx}{a b:Expr}{pos p tpos:Pos}{t:TA3}{els:List Expr}{kk:Nat}
noncomputable def zoy(us vs:List T):List T:=(List.range (min us.length vs.length)).map λi=>T.tup [us.getD i .non,vs.getD i .non]
theorem zm5{us vs:List T}{i:Nat}{x y:T}(h:us[i]?=some x)(h':vs[i]?=some y):(zoy us vs)[i]?=some (.tup [x,y]):=by
 have l1:=(List.getElem?_eq_some_iff.mp h).1;have l2:=(List.getElem?_eq_some_iff.mp h').1;unfold zoy;rw[List.getElem?_map,List.getElem?_range (by lia)];simp[h,h']
end
end L3
namespace L2
open PySem PySem.Spec PyProof.Rows
section
variable {prog:Program}{w:World}{A:Around}{E:Value->Shared->Prop}{s:Shared}
theorem znC{it t:Addr}{i:Nat}{ys:Array Value}{x:Value}{Q:Value->Shared->Prop}(hit:s.heap.IsTupleIter it t i)(ht:IsTup s.heap t ys)(hx:ys[i]?=some x)
  (hQ:∀ h',h'.IsTupleIter it t (i+1)->Heap.SameBut it s.heap h'->Q x { s with heap:=h' }):wpAny (model prog w) A (Builtin.SmallTypes.nextOf (.ref it)) Q E s:=by
 obtain⟨o,ho,hc,hd⟩:=id hit;obtain⟨ot,hot,_,n,hdt⟩:=ht;unfold Builtin.SmallTypes.nextOf;refine wpAny_bind (wpAny_callSpecial?_slot (name:=Str.ofString "__next__") hit.typeIs F.slot_tuple_iterator_next (wpAny_call_entry F.slot_tuple_iterator_next hit.typeIs F.entry_tuple_iterator_next ?_ (F.args_tuple_iterator_next_1 _)));refine (wB (wpAny_field ho hd (x:=.ref t) rfl ?_):wpAny _ _ (field (.ref it) 0 >>= _) _ _ s);have hn:¬ ((Value.ref t==Value.none)=true):=Bool.false_ne_true;show wpAny _ _ (if (Value.ref t==Value.none)=true then _ else _) _ _ s;rw[if_neg hn];refine (wB (wpAny_field ho hd (x:=.int i 0) rfl ?_):wpAny _ _ (field (.ref it) 1 >>= _) _ _ s);refine (wB (wpAny_seqItems hot hdt ?_):wpAny _ _ (seqItems? (.ref t) >>= _) _ _ s);simp only[Int.toNat_natCast,hx];refine wpAny_bind (wpAny_setField ho hd (by simp) (wpAny_pure ⟨x,rfl,wpAny_pure (hQ _ ⟨_,Heap.get?_update_self _ ho (Obj.isFreed_of_fields (Obj.data_mapFields hd _)),(Obj.cls_mapFields ..).trans hc,?_⟩ (Heap.SameBut.update ..))⟩));rw[Obj.data_mapFields hd]; simp[rawInt]
theorem zkq{z TI TO i1 i2 l1 l2:Addr}{k:Nat}{xs ys:Array Value}{x y a b:Value}{Q:Option Value->Shared->Prop}(D:ZipApart z TI TO i1 i2 l1 l2)(hz:IsZip s.heap z TI TO .none)(hTI:IsPair s.heap TI (.ref i1) (.ref i2))(hTO:IsPair s.heap TO a b)
  (h1:s.heap.IsListIter i1 l1 k) (h2:s.heap.IsTupleIter i2 l2 k) (hl1:s.heap.IsList l1 xs) (hl2:IsTup s.heap l2 ys) (hx:xs[k]?=some x) (hy:ys[k]?=some y)
  (hQ:∀ h',IsZip h' z TI TO (rawInt s.heap.objs.size)->IsPair h' TO x y->h'.IsListIter i1 l1 (k+1)->h'.IsTupleIter i2 l2 (k+1)->IsPair h' s.heap.objs.size x y ->
   (∀ c o,c≠z->c≠TO->c≠i1->c≠i2->s.heap.get? c=some o->h'.get? c=some o)->Q (some (.ref s.heap.objs.size)) { s with heap:=h' }) :
  wpAny (model prog w) A (pyNext (.ref z)) Q E s:=by
 have hT:s.TypeIs (.ref z) "zip":=⟨_,hz,rfl⟩;unfold pyNext;refine wpAny_bind (wpAny_attempt (wpAny_callSpecial?_slot (name:=Str.ofString "__next__") hT F.slot_zip_next (wpAny_call_entry F.slot_zip_next hT F.entry_zip_next ?_ (F.args_zip_next_1 _))));refine (wB (wpAny_field hz rfl (x:=.bool false) rfl ?_):wpAny _ _ (field (.ref z) 2 >>= _) _ _ _);refine (wB (wpAny_field hz rfl (x:=.ref TI) rfl ?_):wpAny _ _ (field (.ref z) 3 >>= _) _ _ _);refine wB (wpAny_seqItems hTI rfl ?_);refine (wB ?_:wpAny _ _ (Builtin.SmallTypes.ownedTupleIsFree (.ref z) >>= _) _ _ _);unfold Builtin.SmallTypes.ownedTupleIsFree;refine wB (wpAny_field hz rfl (x:=.none) rfl (wQ ?_));simp only[if_true];refine wpAny_bind (wpAny_rule (wpAny_bind (wpAny_field hz rfl (x:=.ref TO) rfl (wpAny_bind (wpAny_setField_rec hz (by simp) λg1 (z1:IsZip g1 z TI TO .ellipsis) d1=>?_)))));refine wB ?_;simp only[List.zipIdx_cons,List.zipIdx_nil,List.forIn_cons,List.forIn_nil];refine wB (wB (wpAny_onRaise ?_));show wpAny _ _ (Builtin.SmallTypes.nextOf (.ref i1) >>= _) _ _ _;refine wB (wpAny_nextOf_list_item (s:={ s with heap:=g1 }) (h1.extBut d1.extBut D.i1z) (hl1.extBut d1.extBut D.l1z) hx λg2 n1 d2=>wQ ?_);have O2:IsPair g2 TO a b:=d2.extBut _ _ D.TOi1 (d1.extBut _ _ D.TOz hTO);refine wB (wpAny_seqItems O2 rfl (wB (wpAny_updateSeq_pair O2 λg3 (O3:IsPair g3 TO x b) d3=>wB (wpAny_letGo (wQ ?_)))));refine wB (wB (wpAny_onRaise ?_));have t3:g3.IsTupleIter i2 l2 k:=((h2.extBut d1.extBut D.i2z).extBut d2.extBut D.i12.symm).extBut d3.extBut D.TOi2.symm;have u3:IsTup g3 l2 ys:=((hl2.extBut d1.extBut D.l2z).extBut d2.extBut D.l2i1).extBut d3.extBut D.l2TO;show wpAny _ _ (Builtin.SmallTypes.nextOf (.ref i2) >>= _) _ _ _;refine wB (znC (s:={ s with heap:=g3 }) t3 u3 hy λg4 n2 d4=>wQ ?_);have O4:IsPair g4 TO x b:=d4.extBut _ _ D.TOi2 O3;refine wB (wpAny_seqItems O4 rfl (wB (wpAny_updateSeq_pair O4 λg5 (O5:IsPair g5 TO x y) d5=>wB (wpAny_letGo (wQ (wQ ?_))))));refine wB (wpAny_seqItems O5 rfl (wB (wpAny_newTuple ?_)));have hsz:g5.objs.size=s.heap.objs.size:=by rw[d5.1,d4.1,d3.1,d2.1,d1.1]
 have z5:IsZip g5 z TI TO .ellipsis:=d5.extBut _ _ D.TOz.symm (d4.extBut _ _ D.i2z.symm (d3.extBut _ _ D.TOz.symm (d2.extBut _ _ D.i1z.symm z1)));have k5:∀ c o,c≠z->c≠TO->c≠i1->c≠i2->s.heap.get? c=some o->g5.get? c=some o:=λc o c1 c2 c3 c4 e=>d5.extBut _ _ c2 (d4.extBut _ _ c4 (d3.extBut _ _ c2 (d2.extBut _ _ c3 (d1.extBut _ _ c1 e))));have m1:g5.IsListIter i1 l1 (k+1):=((n1.extBut d3.extBut D.TOi1.symm).extBut d4.extBut D.i12).extBut d5.extBut D.TOi1.symm;have m2:g5.IsTupleIter i2 l2 (k+1):=n2.extBut d5.extBut D.TOi2.symm;have lz:z < g5.objs.size:=hLz z5;show wpAny _ _ (Builtin.SmallTypes.ownedTupleHandOut (.ref z) (.ref g5.objs.size) >>= _) _ _ _;refine wB ?_;unfold Builtin.SmallTypes.ownedTupleHandOut;have z6:IsZip (g5.push { cls:=.type "tuple",data:=.seq #[x,y] }) z TI TO .ellipsis:=Heap.get?_push_of_some _ z5;refine wpAny_bind (wpAny_setField_rec z6 (by simp) λg7 (z7:IsZip g7 z TI TO (rawInt g5.objs.size)) d7=>wpAny_setField_rec z7 (by simp) λg8 (z8:IsZip g8 z TI TO (rawInt g5.objs.size)) d8=>?_);have up:∀ c o,c≠z->g5.get? c=some o->g8.get? c=some o:=λc o c1 e=>d8.extBut _ _ c1 (d7.extBut _ _ c1 (hPs _ e));have T8:IsPair g8 g5.objs.size x y:=d8.extBut _ _ (Nat.ne_of_gt lz) (d7.extBut _ _ (Nat.ne_of_gt lz) (hPz _ rfl));rw[hsz]at z8 T8;refine wQ ⟨_,rfl,?_⟩;refine wQ ?_;have fin:=hQ g8 z8 (up _ _ D.TOz O5) (m1.at λo e=>up _ o D.i1z e) (m2.at λo e=>up _ o D.i2z e) T8 λc o c1 c2 c3 c4 e=>up c o c1 (k5 c o c1 c2 c3 c4 e);rw[hsz];exact fin
theorem zk8{z TI TO i1 i2 l1 l2:Addr}{k:Nat}{xs:Array Value}{Q:Option Value->Shared->Prop}(hh:A.handled=none)(D:ZipApart z TI TO i1 i2 l1 l2)(hz:IsZip s.heap z TI TO .none)(hTI:IsPair s.heap TI (.ref i1) (.ref i2))
  (h1:s.heap.IsListIter i1 l1 k) (hl1:s.heap.IsList l1 xs) (hx:xs[k]?=none)
  (hQ:∀ h',(∀ c o,c≠z->c≠i1->s.heap.get? c=some o->h'.get? c=some o)->Q none { s with heap:=h' }):wpAny (model prog w) A (pyNext (.ref z)) Q E s:=by
 have hT:s.TypeIs (.ref z) "zip":=⟨_,hz,rfl⟩;unfold pyNext;refine wpAny_bind (wpAny_attempt (wpAny_callSpecial?_slot (name:=Str.ofString "__next__") hT F.slot_zip_next (wpAny_call_entry F.slot_zip_next hT F.entry_zip_next ?_ (F.args_zip_next_1 _))));refine (wB (wpAny_field hz rfl (x:=.bool false) rfl ?_):wpAny _ _ (field (.ref z) 2 >>= _) _ _ _);refine (wB (wpAny_field hz rfl (x:=.ref TI) rfl ?_):wpAny _ _ (field (.ref z) 3 >>= _) _ _ _);refine wB (wpAny_seqItems hTI rfl ?_);refine (wB ?_:wpAny _ _ (Builtin.SmallTypes.ownedTupleIsFree (.ref z) >>= _) _ _ _);unfold Builtin.SmallTypes.ownedTupleIsFree;refine wB (wpAny_field hz rfl (x:=.none) rfl (wQ ?_));simp only[if_true];refine wpAny_bind (wpAny_rule (wpAny_bind (wpAny_field hz rfl (x:=.ref TO) rfl (wpAny_bind (wpAny_setField_rec hz (by simp) λg1 (z1:IsZip g1 z TI TO .ellipsis) d1=>?_)))));refine wB ?_;simp only[List.zipIdx_cons,List.zipIdx_nil,List.forIn_cons,List.forIn_nil];refine wB (wB (wpAny_onRaise ?_));show wpAny _ _ (Builtin.SmallTypes.nextOf (.ref i1) >>= _) _ _ _;refine wB (wpAny_nextOf_list_end (s:={ s with heap:=g1 }) hh (h1.extBut d1.extBut D.i1z) (hl1.extBut d1.extBut D.l1z) hx λg2 e d2 he=>?_);obtain⟨oe,hoe,hce⟩:=he;have z2:IsZip g2 z TI TO .ellipsis:=d2 _ _ D.i1z.symm z1;have ez:e≠z:=λq=>by subst q; rw[z2]at hoe; cases hoe; simp at hce
 refine wpAny_setField_rec z2 (by simp) λg3 _ d3=>?_;refine wpAny_bind (wpAny_isInstance (T:="StopIteration") (b:=true) ⟨oe,d3.extBut _ _ ez hoe,hce⟩ isSubtype_stop ?_);exact wQ (hQ _ λc o c1 c2 q=>d3.extBut _ _ c1 (d2 _ _ c2 (d1.extBut _ _ c1 q)))
theorem ziV(l1 l2:Addr)(xs ys:Array Value) :
  Meets (Builtin.«zip.__new__» ⟨[.type "zip",.ref l1,.ref l2],[]⟩) (λ_ R s=>s.heap.IsList l1 xs/\s.heap.IsTuple l2 ys /\
   ∀ h',IsZip h' (s.heap.objs.size+4) (s.heap.objs.size+2) (s.heap.objs.size+3) .none->IsPair h' (s.heap.objs.size+2) (.ref s.heap.objs.size) (.ref (s.heap.objs.size+1))->IsPair h' (s.heap.objs.size+3) .none .none ->
    h'.IsListIter s.heap.objs.size l1 0->h'.IsTupleIter (s.heap.objs.size+1) l2 0->(∀ c o,s.heap.get? c=some o->h'.get? c=some o)->R (.ok (.ret (.ref (s.heap.objs.size+4)))) { s with heap:=h' }) :=
 .of_wp λprog w A R s h=>by
  obtain⟨hp,g,d,tk,os⟩:=s
  obtain⟨hl1,hl2,h⟩:=h
  have hsub:=sub_zip
  have hL1:Heap.IsList (Shared.heap ⟨hp,g,d,tk,os⟩) l1 xs:=hl1
  have hL2:Heap.IsTuple (Shared.heap ⟨hp.push { cls:=.type "list_iterator",data:=.fields #[.ref l1,.int 0 0] },g,d,tk,os⟩) l2 ys:=Heap.IsTuple.push hl2 _
  wp_walk using wpAny_pyIter_list hL1,wpAny_pyIter_tuple hL2
  refine⟨_,rfl,?_⟩
  dsimp only at h hl1 hl2 ⊢
  have fact:∀ (g:Heap) (o:Obj),o.isFreed=false->(g.push o).objs.size=g.objs.size+1/\(g.push o).get? g.objs.size=some o/\∀ c u,g.get? c=some u->(g.push o).get? c=some u:=λg o ho=>⟨Heap.size_push ..,hPz _ ho,λc u e=>hPs _ e⟩
  obtain⟨s1,a1,k1⟩:=fact hp { cls:=.type "list_iterator",data:=.fields #[.ref l1,.int 0 0] } rfl
  generalize hp.push { cls:=.type "list_iterator",data:=.fields #[.ref l1,.int 0 0] }=g1 at s1 a1 k1 ⊢
  obtain⟨s2,a2,k2⟩:=fact g1 { cls:=.type "tuple_iterator",data:=.fields #[.ref l2,.int 0 0] } rfl
  generalize g1.push { cls:=.type "tuple_iterator",data:=.fields #[.ref l2,.int 0 0] }=g2 at s2 a2 k2 ⊢
  obtain⟨s3,a3,k3⟩:=fact g2 { cls:=.type "tuple",data:=.seq ((#[].push (.ref hp.objs.size)).push (.ref g1.objs.size)) } rfl
  generalize g2.push { cls:=.type "tuple",data:=.seq ((#[].push (.ref hp.objs.size)).push (.ref g1.objs.size)) }=g3 at s3 a3 k3 ⊢
  have e4:(List.map (λ_=>Value.none) ((#[].push (Value.ref hp.objs.size)).push (Value.ref g1.objs.size)).toList).toArray=#[Value.none,Value.none]:=rfl
  rw[e4]
  obtain⟨s4,a4,k4⟩:=fact g3 { cls:=.type "tuple",data:=.seq #[.none,.none] } rfl
  generalize g3.push { cls:=.type "tuple",data:=.seq #[.none,.none] }=g4 at s4 a4 k4 ⊢
  obtain⟨s5,a5,k5⟩:=fact g4 { cls:=.type "zip",data:=.fields (Builtin.SmallTypes.ownedTupleFields++[Value.bool false,Value.ref g2.objs.size,Value.ref g3.objs.size]).toArray } rfl
  generalize g4.push { cls:=.type "zip",data:=.fields (Builtin.SmallTypes.ownedTupleFields++[Value.bool false,Value.ref g2.objs.size,Value.ref g3.objs.size]).toArray }=g5 at s5 a5 k5 ⊢
  have t2:g2.objs.size=hp.objs.size+2:=by rw[s2,s1]
  have t3:g3.objs.size=hp.objs.size+3:=by rw[s3,t2]
  have t4:g4.objs.size=hp.objs.size+4:=by rw[s4,t3]
  rw[t4]at a5 ⊢
  rw[t2,t3]at a5
  rw[t3]at a4
  rw[t2,s1]at a3
  rw[s1]at a2
  exact h g5 a5 (k5 _ _ (k4 _ _ a3)) (k5 _ _ a4) ⟨_,k5 _ _ (k4 _ _ (k3 _ _ (k2 _ _ a1))),rfl,rfl⟩ ⟨_,k5 _ _ (k4 _ _ (k3 _ _ a2)),rfl,rfl⟩ λc o e=>k5 _ _ (k4 _ _ (k3 _ _ (k2 _ _ (k1 _ _ e))))
theorem zkX{l1 l2:Addr}{xs ys:Array Value}{Q:Value->Shared->Prop}(hl1:s.heap.IsList l1 xs)(hl2:IsTup s.heap l2 ys)
  (h:∀ h',IsZip h' (s.heap.objs.size+4) (s.heap.objs.size+2) (s.heap.objs.size+3) .none->IsPair h' (s.heap.objs.size+2) (.ref s.heap.objs.size) (.ref (s.heap.objs.size+1))->IsPair h' (s.heap.objs.size+3) .none .none ->
    h'.IsListIter s.heap.objs.size l1 0->h'.IsTupleIter (s.heap.objs.size+1) l2 0->(∀ c o,s.heap.get? c=some o->h'.get? c=some o)->Q (.ref (s.heap.objs.size+4)) { s with heap:=h' }) :
  wpAny (model prog w) A (call (.type "zip") [.ref l1,.ref l2]) Q E s :=
 callType_new F.called_zip (by decide) (F.typeCall_zip_2 _ _) (F.newCall_zip_2 _ _) (λobj=>F.args_object_init_3 obj _ _) F.entry_zip_new (ziV l1 l2 xs ys) ⟨hl1,hl2,λh' a1 a2 a3 a4 a5 a6=>⟨⟨_,a1,rfl⟩,h h' a1 a2 a3 a4 a5 a6⟩⟩
end
noncomputable def ztf(K:W.Frag)(a b:Addr):It :=
 ⟨λi H=>∃ xs ys x y,SqL K H a xs/\SqT K H b ys/\xs[i]?=some x/\ys[i]?=some y,λi H x H'=>∃ y z t,(∀ xs,SqL K H a xs->xs[i]?=some y)/\(∀ ys,SqT K H b ys->ys[i]?=some z)/\H t=none/\x=.ref t/\H'=upd H t (.tup [y,z]),λi H=>∃ xs,SqL K H a xs/\xs.length<=i⟩
def uSt(z TI TO i1 i2 a b:Addr)(i:Nat)(h:Heap):Prop:=IsZip h z TI TO .none/\IsPair h TI (.ref i1) (.ref i2)/\(∃ u v,IsPair h TO u v)/\h.IsListIter i1 a i/\h.IsTupleIter i2 b i
theorem zlf{P:Program}{w:World}{K:PySem.W.Frag}{els:List Expr}{kk:Nat}{pos:Pos}(z TI TO i1 i2 a b:Addr)(D:ZipApart z TI TO i1 i2 a b):Turn P w K (.Tuple els kk pos) (ztf K a b) [z,TI,TO,i1,i2] z (uSt z TI TO i1 i2 a b):=by
 refine⟨by simp,λi h st c hc=>?_,λi h h' st k=>?_,?_,?_,λA i s Q E st q=>?_⟩
 ·obtain⟨s1,s2,⟨u,v,s3⟩,⟨o4,e4,c4,d4⟩,⟨o5,e5,c5,d5⟩⟩:=st;simp only[List.mem_cons,List.not_mem_nil,or_false]at hc;rcases hc with rfl | rfl | rfl | rfl | rfl
  ·exact⟨_,s1,λv q=>by have q':Data.fields _=Data.cell v:=q; cases q'⟩
  ·exact⟨_,s2,λv q=>by have q':Data.seq _ _=Data.cell v:=q; cases q'⟩
  ·exact⟨_,s3,λv q=>by have q':Data.seq _ _=Data.cell v:=q; cases q'⟩
  ·exact⟨o4,e4,λv q=>by rw[d4]at q; cases q⟩
  ·exact⟨o5,e5,λv q=>by rw[d5]at q; cases q⟩
 ·obtain⟨s1,s2,⟨u,v,s3⟩,s4,s5⟩:=st;exact⟨k z (by simp) _ s1,k TI (by simp) _ s2,⟨u,v,k TO (by simp) _ s3⟩,s4.at λo q=>k i1 (by simp) o q,s5.at λo q=>k i2 (by simp) o q⟩
 ·intro X hP hw hK hc i pins s σ H E I hf st hg;subst hP hw hK;obtain⟨s1,s2,⟨u0,v0,s3⟩,s4,s5⟩:=st;obtain⟨xs,ys,x,y,hqx,hqy,hx,hy⟩:=hg;obtain⟨its,rv,p,hz⟩:=I.list hqx;obtain⟨jts,rw',p',hz'⟩:=I.tuple hqy;obtain⟨u,hu,ru⟩:=rv.get hx;obtain⟨v,hv,rv'⟩:=rw'.get hy;refine zkq D s1 s2 s3 s4 s5 p.isList p' (x:=u) (y:=v) (by simpa using hu) (by simpa using hv) λh' z1 t1 j1 j2 et hk=>⟨_,rfl,?_⟩;refine wpAny_letOwnedTupleGo_zip z1 λh2 z2 sb=>?_;have lz:=hLz s1;have lO:=hLz s3;have l1:i1 < s.heap.objs.size:=by obtain⟨o,q,_⟩:=id s4; exact hLz q
  have l2:i2 < s.heap.objs.size:=by obtain⟨o,q,_⟩:=id s5; exact hLz q
  have lI:=hLz s2;have kk2:∀ c o,c≠z->c≠TO->c≠i1->c≠i2->s.heap.get? c=some o->h2.get? c=some o:=λc o n1 n2 n3 n4 q=>(sb.2 c n1).trans (hk c o n1 n2 n3 n4 q);have et2:h2.get? s.heap.objs.size=some { cls:=.type "tuple",data:=.seq #[u,v] }:=(sb.2 _ (Nat.ne_of_gt lz)).trans et;have hn:=I.hok.fresh (nLr _);have new:zbg X.prog X.w (upd H s.heap.objs.size (.tup [x,y])) h2 s.heap.objs.size (.tup [x,y]) :=
   ⟨by show 2<=sizeLine; rw[sizeLine_eq]; decide,[u,v],.cons ru (.cons rv' .nil),⟨_,et2,rfl,⟨_,rfl⟩,rfl⟩⟩
  have I2:=I.turnsNew (t':=s.toks) (ch:=[z,TI,TO,i1,i2]) (h':=h2) (λc o nb q=>kk2 c o (λe=>nb (by simp[e])) (λe=>nb (by simp[e])) (λe=>nb (by simp[e])) (λe=>nb (by simp[e])) q) hf (Nat.le_refl _) new;refine⟨.ref s.heap.objs.size,_,I2,rfl,⟨x,y,_,λxs' h=>by rw[I.list_inj h hqx]; exact hx,λys' h=>by rw[I.tuple_inj h hqy]; exact hy,hn,rfl,rfl⟩,⟨z2,(sb.2 TI D.TIz).trans (hk TI _ D.TIz D.TITO D.TIi1 D.TIi2 s2),⟨u,v,(sb.2 TO D.TOz).trans t1⟩,?_,?_⟩,λc hc=>?_⟩
  ·obtain⟨o,q,r⟩:=j1;exact⟨o,(sb.2 i1 D.i1z).trans q,r⟩
  ·obtain⟨o,q,r⟩:=j2;exact⟨o,(sb.2 i2 D.i2z).trans q,r⟩
  ·have fc:=(hf c hc).1;have nc:c≠s.heap.objs.size:=by
    simp only[List.mem_cons,List.not_mem_nil,or_false]at hc;rcases hc with rfl | rfl | rfl | rfl | rfl
    ·exact nNl lz
    ·exact nNl lI
    ·exact nNl lO
    ·exact nNl l1
    ·exact nNl l2
   rw[zal nc]; exact fc
 ·intro X hP hw hK hc i pins s σ H E I hf st hg;subst hP hw hK;obtain⟨s1,s2,⟨u0,v0,s3⟩,s4,s5⟩:=st;obtain⟨xs,hqx,hl⟩:=hg;obtain⟨its,rv,p,hz⟩:=I.list hqx;have e1:=rv.length;exact zk8 (I.ok.hd hc) D s1 s2 s4 p.isList (by simp; lia) λh' eb=>⟨rfl,I.turns (t':=s.toks) (ch:=[z,TI,TO,i1,i2]) (λc o nb q=>eb c o (λe=>nb (by simp[e])) (λe=>nb (by simp[e])) q) hf⟩
 ·exact wpAny_pyIter_zip st.1 q
end L2
namespace L3
open PySem PySem.Spec PyProof.Rows L2
section
variable {X:Cx}{a b:Expr}{pos p tpos:Pos}{t:TA3}{els:List Expr}{kk:Nat}
def zrt(t:TA3):TI3:=λτ G R=>t τ G λts G1=>match ts with
 | [.ref q,.tup vs]=>(match G1 q with
  | some (.lst us)=>us.length<=vs.length/\R (zoy us vs) (λG=>G q=some (.lst us)) G1
  | _=>False)
 | _=>False
theorem zoY(hm:X.mg "zip"=none) (ha:QA X [a,b] t) (hg:Gl X "zip":=by rfl) (hs:starEach [a,b] X.env=[(false,eval a X.env),(false,eval b X.env)]:=by rfl) (hs2:starEach [b] X.env=[(false,eval b X.env)]:=by rfl):QI X (.Tuple els kk tpos) (.Call (.Name "zip" p) [a,b] [] pos) (zrt t):=by
 intro pins s σ H R I ⟨τ,G,Q3,st,r,h,im⟩;refine Call_ (ze8 I hg hm PyProof.Rows.boot_zip (PyProof.Rows.callWith_type1 (thn (ha pos pins s σ H (λvs H1=>∃ ts G1,(match ts with
  | [.ref q,.tup vs]=>(match G1 q with
   | some (.lst us)=>us.length<=vs.length/\Q3 (zoy us vs) (λG=>G q=some (.lst us)) G1
   | _=>False)
  | _=>False)/\Kp H H1/\Dens X.kw H1 vs ts/\HR X.kw H1 G1) I ⟨τ,G,_,st,r,h,λts G1 vs H1 h1 k1 d1 r1=>⟨ts,G1,h1,k1,d1,r1⟩⟩) λus s1 ⟨vs,H1,I1,rv,ts,G1,h1,k1,d1,r1⟩=>?_) (by rw[hs,hs2]) (by rw[hs2]; rfl)))
 split at h1
 ·rename_i a' vs';split at h1
  ·rename_i us' eg;obtain⟨hle,h1⟩:=h1;cases d1 with
   | cons d d2 =>
   cases d2 with
   | cons d' d3 =>
   cases d3
   cases d
   cases d' with
   | tup sq ds' =>
   rename_i b' ys;cases rv with
   | cons rv0 rv1 =>
   cases rv1 with
   | cons rv2 rv3 =>
   cases rv3
   cases rv0
   cases rv2
   obtain⟨xs,e1,ds⟩:=r1 a' _ eg;obtain⟨its,rr,pl,hz⟩:=I1.list (SqL.of e1);obtain⟨jts,rr',pl',hz'⟩:=I1.tuple sq;have la:a' < s1.heap.objs.size:=by obtain⟨o,q,_⟩:=pl.isList; exact hLz q
   have lb:b' < s1.heap.objs.size:=pl'.lt;refine zkX pl.isList pl' λg z1 z2 z3 z4 z5 kp=>?_;have I2:Inv X pins σ H1 { s1 with heap:=g }:=I1.kept (t':=s1.toks) kp;have D:=zk7 s1.heap.objs.size a' b' la lb;refine wpAny_pyIter_zip (s:={ s1 with heap:=g }) z1 ⟨_,[s1.heap.objs.size+4,s1.heap.objs.size+2,s1.heap.objs.size+3,s1.heap.objs.size,s1.heap.objs.size+1],_,ztf X.K a' b',H1,rfl,I2,zlf _ _ _ _ _ a' b' D,⟨z1,z2,⟨_,_,z3⟩,z4,z5⟩,λc hc=>?_,im _ _ G1 _ H1 h1 k1 r1 ⟨λj H2 G2 kk r2 hS hj=>?_,λj H2 G2 y H3 kk r2 hS hj hy=>?_,λj H2 G2 kk r2 hS hj=>?_⟩⟩
   ·have ge:s1.heap.objs.size<=c:=by
     simp only[List.mem_cons,List.not_mem_nil,or_false]at hc;rcases hc with rfl | rfl | rfl | rfl | rfl
     ·exact Nat.le_add_right _ _
     ·exact Nat.le_add_right _ _
     ·exact Nat.le_add_right _ _
     ·exact nLr _
     ·exact Nat.le_add_right _ _
    exact I1.fpOk ge (I1.hok.fresh ge)
   ·obtain⟨ys1,f1,ds1⟩:=r2 a' _ hS;have hj':j < min us'.length vs'.length:=by simpa [zoy] using hj
    have j1:j < ys1.length:=by rw[ds1.length]; lia
    have j2:j < ys.length:=by rw[ds'.length]; lia
    exact⟨ys1,ys,ys1[j],ys[j],SqL.of f1,kk.sqT sq,by simp[j1],by simp[j2]⟩
   ·obtain⟨y1,y2,t',hy1,hy2,hn,e,e'⟩:=hy;subst e; subst e';obtain⟨ys1,f1,ds1⟩:=r2 a' _ hS;obtain⟨t1,et1,dt1⟩:=ds1.getV (hy1 ys1 (SqL.of f1));obtain⟨t2,et2,dt2⟩:=(ds'.mono kk).getV (hy2 ys (kk.sqT sq));exact⟨Kp.new hn,r2.lay hn,_,zm5 et1 et2,.tup (SqT.of zak) (.cons (dt1.mono (Kp.new hn)) (.cons (dt2.mono (Kp.new hn)) .nil))⟩
   ·obtain⟨ys1,f1,ds1⟩:=r2 a' _ hS;have hj':min us'.length vs'.length<=j:=by simpa [zoy] using hj
    exact⟨ys1,SqL.of f1,by rw[ds1.length]; lia⟩
  ·exact h1.elim
 ·exact h1.elim
end
end L3
namespace L2
open PySem PySem.Spec PyProof.Rows
section
variable {prog:Program}{w:World}{A:Around}{E:Value->Shared->Prop}{s:Shared}
noncomputable def zjn(a:Array Value)(v:Value)(i:Nat)(_:Option PySem.Fin×PUnit):Sem (ForInStep (Option PySem.Fin×PUnit)):=match a[i]? with
 | some y=>do
  let b <- eqBool y v
  if b=true then do
   let r <- retInt i
   pure (ForInStep.done (some r,⟨⟩))
  else pure (ForInStep.yield (none,⟨⟩))
 | _=>pure (ForInStep.yield (none,⟨⟩))
theorem zj9{its:List Value}{v:Value}{i:Nat}{e:Value->Bool}{Q:Option PySem.Fin×PUnit->Shared->Prop}(hi:i < its.length)(hm:e its[i]=true)(hb:∀ j (h:j < its.length),j < i->e its[j]=false)
  (he:∀ y∈its,SeqAt.EqAt A s y v (e y)) (h:Q (some (.done (.ret (.int i s.toks))),⟨⟩) { s with toks:=s.toks+1 }) :
  ∀ (k x:Nat),x+k=its.length->x<=i->wpAny (model prog w) A (forIn (List.range' x k) ((none,⟨⟩):Option PySem.Fin×PUnit) (zjn its.toArray v)) Q E s
 | 0,x,hk,hx=>absurd hi (by lia)
 | k+1,x,hk,hx=>by
  have hx':x < its.length:=by lia
  rw[List.range'_succ,List.forIn_cons]
  refine wB ?_
  have e1:its.toArray[x]?=some its[x]:=by simp[hx']
  unfold zjn
  rw[e1]
  refine wB (he _ (List.getElem_mem hx') prog w _ _ ?_)
  by_cases z:x=i
  ·subst z
   rw[hm]
   refine wB (wB (wpAny_mkInt (wQ (wQ (wQ h)))))
  ·rw[hb x hx' (by lia)]
   refine wQ ?_
   exact zj9 hi hm hb he h k (x+1) (by lia) (by lia)
theorem zlh{t:Addr}{its:List Value}{v:Value}{i:Nat}{e:Value->Bool}{Q:Value->Shared->Prop}(ht:IsTup s.heap t its.toArray)(hi:i < its.length)(hm:e its[i]=true)(hb:∀ j (h:j < its.length),j < i->e its[j]=false)
  (he:∀ y∈its,SeqAt.EqAt A.in1 s y v (e y)) (h:Q (.int i s.toks) { s with toks:=s.toks+1 }):wpAny (model prog w) A (call (.builtin "tuple.index") [.ref t,v]) Q E s:=by
 obtain⟨o,ho,hc,n,hd⟩:=id ht;refine wpAny_call_entry F.slot_tuple_index ht.typeIs F.entry_tuple_index ?_ (F.args_tuple_index_2 _ _);show wpAny _ _ (Builtin.«tuple.index» ⟨[.ref t,v],[]⟩) _ _ s;unfold Builtin.«tuple.index»;refine wB (m:=selfAndSome _ _ _ _ _) (wpAny_of_eq (a:=(.ref t,[v])) (by rfl) ?_);dsimp only;unfold Builtin.Tuple.tupleItemsOf;refine wB (wB (wpAny_seqItems ho hd ?_));refine wQ (wB (wQ (wB (wQ (wB ?_)))));rw[Std.Legacy.Range.forIn_eq_forIn_range'];have hsz:([0:min its.toArray.size its.toArray.size]:Std.Legacy.Range).size=its.length:=by simp[Std.Legacy.Range.size]
 show wpAny _ _ (forIn (List.range' 0 ([0:min its.toArray.size its.toArray.size]:Std.Legacy.Range).size 1) _ (zjn its.toArray v)) _ _ _;rw[hsz];exact zj9 hi hm hb he (wQ ⟨_,rfl,h⟩) its.length 0 (by lia) (by lia)
end
end L2
namespace L3
open PySem PySem.Spec PyProof.Rows L2
theorem zlA{h:Heap}:∀ {us:List Value} {ds:List PyData} {as:List Addr},ReadsAll h us ds as->PyData.canLayAll0 ds=true->∀ (j:Nat) (hj:j < us.length) (hj':j < ds.length),∃ bs,Reads h us[j] ds[j] bs/\ds[j].canLay0=true
 | _,_,_,.nil,_,j,hj,_=>absurd hj (by simp)
 | u::us,z::ds,_,.cons r1 r2,hc,j,hj,hj'=>by
  have hc':(PyData.canLay0 z&&PyData.canLayAll0 ds)=true:=hc
  obtain⟨c1,c2⟩:=Bool.and_eq_true_iff.mp hc'
  cases j with
  | zero=>exact⟨_,r1,c1⟩
  | succ j=>exact zlA r2 c2 j (by simpa using hj) (by simpa using hj')
section
variable {X:Cx}{o e:Expr}{es:List Expr}{pos apos:Pos}{ta:TE3}{t:TA3}{k:Nat}
def zoa(us:List T)(y:T)(i:Nat)(G:Gp):Prop:=∃ ds d,zdJ (toD G 20) us=some ds/\toD G 20 y=some d/\(∃ z,ds[i]?=some z/\z.eqv d=true)/\∀ j z,j < i->ds[j]?=some z->z.eqv d=false
def zr9(ta:TE3)(t:TA3):TE3:=λτ G Q=>ta τ G λx G1=>match x with
 | .tup us=>t τ G1 λys G2=>match ys with
  | [y]=>∃ i,zoa us y i G2/\Q (.int (i:Nat)) G2
  | _=>False
 | _=>False
open Classical in
theorem ztC(hr:Room k X.A)(ho:QE X o ta)(ha:QA X (e::es) t)(hbase:attributeBase o "index" X.env (eval o X.env)=eval o X.env:=by rfl)
  (hfew:((backTo pos (starEach (e::es) X.env)).all (λx=>!x.1)&&(backToKw pos (keywordEach [] X.env)).all (λx=>x.1.isSome)
   && decide ((e::es).length+([]:List Keyword).length+(if ([]:List Keyword).isEmpty then 0 else 1) < 30))=true:=by rfl)
  (hline:(apos.endLine==pos.line)=true:=by rfl) (hs:starEach (e::es) X.env=(false,eval e X.env)::starEach es X.env:=by rfl) (hplain:(backTo pos (starEach es X.env)).any (·.1)=false:=by rfl) :
  QE X (.Call (.Attribute o "index" apos) (e::es) [] pos) (zr9 ta t):=by
 intro pins s σ H Q I h;obtain⟨τ,G,Q3,st,r,h,im⟩:=h;refine wpAny_Call_method_late hbase hfew hline rfl (thn (ho pins s σ H (λv H1=>∃ x G1,(match x with
  | .tup us=>t τ G1 λys G2=>match ys with
   | [y]=>∃ i,zoa us y i G2/\Q3 (.int (i:Nat)) G2
   | _=>False
  | _=>False)/\Kp H H1/\Den X.kw H1 v x/\HR X.kw H1 G1) I ⟨τ,G,_,st,r,h,λx G1 v H1 h1 k1 d1 r1=>⟨x,G1,h1,k1,d1,r1⟩⟩) λv s1 ⟨vx,H1,I1,rv,x,G1,h1,k1,d1,r1⟩=>?_)
 split at h1
 ·rename_i us;cases d1 with
  | tup sq ds =>
  rename_i a xs;cases rv
  obtain⟨its0,rv0,tp0,hz0⟩:=I1.tupD sq;refine⟨"tuple","tuple.index",PySem.F.plainAttrs_tuple,PySem.F.slot_tuple_index,PySem.F.type_tuple_index,tp0.tup.typeIs,λb eb=>by cases eb; obtain⟨ob,e1,_,_,e4⟩:=tp0; exact⟨ob,e1,e4⟩,?_⟩;have hA:=ha pos pins s1 σ H1 (λvs H2=>∃ ys G2,(match ys with
   | [y]=>∃ i,zoa us y i G2/\Q3 (.int (i:Nat)) G2
   | _=>False)/\Kp H1 H2/\Dens X.kw H2 vs ys/\HR X.kw H2 G2) I1 ⟨τ,G1,_,st.mono k1,r1,h1,λts G2 vs H2 h2 k2 d2 r2=>⟨ts,G2,h2,k2,d2,r2⟩⟩
  rw[hs]at hA ⊢;refine Calls.callWith_builtin (by show(false||(backTo pos (starEach es X.env)).any (·.1))=false; rw[hplain]<;>rfl) (Calls.evalArgs_plain ?_);refine thn hA λws s2 ⟨vs,H2,I2,r2v,ys,G2,h2,k2,d2,r2⟩=>?_;split at h2
  ·rename_i y;obtain⟨i,⟨dd,d,e1,e2,⟨z,ez,eqz⟩,bef⟩,q⟩:=h2;cases d2 with
   | cons d3 d4 =>
   cases d4
   cases r2v with
   | cons rw1 rw2 =>
   cases rw2
   obtain⟨as,rd1,c1,p1⟩:=zbr I2 r2 20 y _ _ d e2 d3 rw1;obtain⟨its,rvv,tp,hz⟩:=I2.tuple (k2.sqT sq);obtain⟨bs,ra,ca,pa⟩:=zbS (zbr I2 r2 20) e1 (ds.mono k2) rvv;have hl1:its.length=dd.length:=SeqAt.ReadsAll.length _ _ _ ra;have hi:i < dd.length:=(List.getElem?_eq_some_iff.mp ez).1;have val:∀ (j:Nat) (hj:j < its.length),decide (∃ z as,Reads s2.heap its[j] z as/\z.canLay0=true/\z.eqv d=true)=(dd[j]'(by lia)).eqv d:=λj hj=>by
    obtain⟨cs,rz,cz⟩:=zlA ra ca j hj (by lia);rw[Bool.eq_iff_iff,decide_eq_true_iff];constructor
    ·rintro⟨z',as',r',c',e'⟩;have:=SeqAt.Reads.unique _ z' _ _ _ cz rz r';subst this; exact e'
    ·intro e; exact⟨_,_,rz,cz,e⟩
   refine zlh (e:=λu=>decide (∃ z as,Reads s2.heap u z as/\z.canLay0=true/\z.eqv d=true)) (i:=i) tp (by lia) ?_ (λj hj hji=>?_) (λu hu=>?_) ?_
   ·rw[val i (by lia)];have:=(List.getElem?_eq_some_iff.mp ez).2;rw[this]; exact eqz
   ·rw[val j hj];exact bef j _ hji (lGe (by lia))
   ·obtain⟨z,cs,rz,cz,pz⟩:=zdf ra ca pa hu;have e5:decide (∃ z as,Reads s2.heap u z as/\z.canLay0=true/\z.eqv d=true)=z.eqv d:=by
     rw[Bool.eq_iff_iff,decide_eq_true_iff];constructor
     ·rintro⟨z',as',r',c',e'⟩;have:=SeqAt.Reads.unique z z' u _ _ cz rz r';subst this; exact e'
     ·intro e; exact⟨z,_,rz,cz,e⟩
    rw[e5];exact SeqAt.eqAt_reads z d X.A.in1 s2 u _ cs as rz rd1 cz c1 (by have:=hr.un; show X.A.units+1+_ < _; lia)
   ·exact⟨.int i,H2,I2.kept (λb u e=>e),⟨_,rfl⟩,im _ _ _ _ q (k1.trans k2) (.int _) r2⟩
  ·exact h2.elim
 ·exact h1.elim
def zrl:List T->Gp->VK3->Prop:=λts G Q=>match ts with
 | [.str z]=>z.length<=1000/\Q (.int z.length) G
 | _=>False
theorem zqB{p:Pos}(hm:X.mg "len"=none) (ha:QA X (e::es) t) (hg:Gl X "len":=by rfl) (he:starEach (e::es) X.env=(false,eval e X.env)::starEach es X.env:=by rfl) (hpl:(backTo pos (starEach es X.env)).any (·.1)=false:=by rfl) :
  QE X (.Call (.Name "len" p) (e::es) [] pos) (wCB zrl t):=zgP ziG (λH G xs ts Q Q3 d r h im=>by
 unfold zrl at h
 split at h
 ·cases d with
  | cons d1 d2 =>
   cases d2
   cases d1
   exact⟨_,rfl,by rw[sizeLine_eq]; have:=h.1; lia,im _ G _ H h.2 (Kp.refl _) (.int _) r⟩
 ·exact h.elim) hm PySem.boot_len ha hg (by decide) (by decide) he hpl
end
end L3
namespace Rm
open PySem L2 L3
theorem zg9(G:Gp)(a:Addr)(o:GO)(b:Addr):updG G a o b=if b=a then some o else G b:=rfl
theorem zdY{G:Gp}{a d:Addr}{x y z:GO}(h:d≠a):updG (updG (updG G a x) d y) a z=updG (updG G d y) a z:=by
 funext b; simp only[zg9]; by_cases e:b=a<;>simp[e]
theorem zgK{G:Gp}{a q d:Addr}{x y z u:GO}(h1:q≠a)(h2:d≠a):updG (updG (updG (updG G a x) q y) d z) a u=updG (updG (updG G q y) d z) a u:=by
 funext b; simp only[zg9]; by_cases e:b=a<;>simp[e]
theorem zmz{W:List Int}{k:Nat}(h:k < W.length):(zbZ (W.map T.int)).drop k=.tup [.int k,.int (W.getD k 0)]::(zbZ (W.map T.int)).drop (k+1):=by
 have hl:k < (zbZ (W.map T.int)).length:=by simp[zbZ,h]
 rw[List.drop_eq_getElem_cons hl]
 congr 1
 simp[zbZ,h]
theorem zfC{m k:Nat}(h:k < m):(zcs 0 m).drop k=.int k::(zcs 0 m).drop (k+1):=by
 have hl:k < (zcs 0 m).length:=by simp[zcs,h]
 rw[List.drop_eq_getElem_cons hl]
 congr 1
 simp[zcs]
noncomputable def oI:Option Int->T
 | none=>.non
 | some i=>.int i
noncomputable def oP:Option (Int×Int)->T
 | none=>.non
 | some q=>.tup [.int q.1,.int q.2]
noncomputable def zaK:M.Let->T
 | .prepare b=>.tup [.str "prepare",.int b]
 | .promise b v l=>.tup [.str "promise",.int b,.int v,oP l]
 | .ask b w=>.tup [.str "ask",.int b,.int w]
 | .vote b v w=>.tup [.str "vote",.int b,.int v,.int w]
noncomputable def oK:Option (Int×Int)->A1
 | none=>.at .non
 | some q=>.tup [.int q.1,.int q.2]
noncomputable def zim:M.Let->LK
 | .prepare b=>[.at (.str "prepare"),.at (.int b)]
 | .promise b v l=>[.at (.str "promise"),.at (.int b),.at (.int v),oK l]
 | .ask b w=>[.at (.str "ask"),.at (.int b),.at (.int w)]
 | .vote b v w=>[.at (.str "vote"),.at (.int b),.at (.int v),.at (.int w)]
theorem znK(x:M.Let):lkT (zim x)=zaK x:=by
 cases x with
 | promise b v l=>cases l<;>rfl
 | _=>rfl
theorem zef(x:M.Let):znL (zaK x)=some (zim x):=by rw[<- znK]; exact zj0 _
theorem zgV(x:M.Let):zhG (zaK x)=none:=by cases x<;>rfl
theorem ok1:PyData.strOk ("prepare":Str)=true:=by decide +kernel
theorem ok2:PyData.strOk ("promise":Str)=true:=by decide +kernel
theorem zgT:PyData.strOk ("ask":Str)=true:=by decide +kernel
theorem ok4:PyData.strOk ("vote":Str)=true:=by decide +kernel
theorem zee(x:M.Let):zhO (zim x)=true:=by
 cases x with
 | prepare b=>simp[zim,zhO,A1.ok,A0.ok,ok1]
 | promise b v l=>cases l<;>simp[zim,zhO,A1.ok,A0.ok,ok2,oK]
 | ask b w=>simp[zim,zhO,A1.ok,A0.ok,zgT]
 | vote b v w=>simp[zim,zhO,A1.ok,A0.ok,ok4]
theorem s12:("prepare":Str)≠"promise":=by decide
theorem s13:("prepare":Str)≠"ask":=by decide
theorem s14:("prepare":Str)≠"vote":=by decide
theorem s23:("promise":Str)≠"ask":=by decide
theorem s24:("promise":Str)≠"vote":=by decide
theorem s34:("ask":Str)≠"vote":=by decide
theorem zj2{x y:M.Let}(h:zim x=zim y):x=y:=by
 have oi:∀ {l r:Option (Int×Int)},oK l=oK r->l=r:=by
  intro l r h;cases l<;>cases r<;>simp[oK]at h
  ·rfl
  ·rename_i a b; cases a; cases b; simp_all
 cases x<;>cases y<;>simp[zim,s12,s13,s14,s23,s24,s34,s12.symm,s13.symm,s14.symm,s23.symm,s24.symm,s34.symm]at h<;>simp_all
 ·exact⟨by lia,oi h.2.2⟩
 ·lia
noncomputable def wrO(L:List M.Let):GO:=match L with
 | []=>.dK []
 | x::r=>.dT ((x::r).map λy=>(zim y,.bl true))
theorem zob(x:M.Let):∀ (L:List M.Let),(zcZ (L.map λy=>(zim y,T.bl true)) (zim x)).isSome=decide (x∈L)
 | []=>by simp[zcZ]
 | y::r=>by
  have ih:=zob x r
  unfold zcZ at ih ⊢
  rw[List.map_cons,List.find?_cons]
  by_cases e:y=x
  ·subst e; simp
  ·have:¬ zim y=zim x:=λz=>e (zj2 z)
   simp only[this,decide_false]
   rw[ih]
   simp[Ne.symm e]
theorem zp3{G:Gp}{pw:Addr}{L:List M.Let}(x:M.Let)(h:G pw=some (wrO L)):∃ r,zcq (.ref pw) (zaK x) G=some r/\r.isSome=decide (x∈L):=by
 cases L with
 | nil=>exact⟨none,by simp[zcq,h,wrO,zjx,zgV,zef,zee],by simp⟩
 | cons y r=>exact⟨_,by simp only[zcq,h,wrO,zjw,zef,zee,if_true],zob x (y::r)⟩
theorem zr4{G:Gp}{pw:Addr}{L:List M.Let}{x:T}(h:G pw=some (wrO L)):zis x (.ref pw) G=none:=by
 have:zaJ (.ref pw) G=none:=by
  cases L with
  | nil=>simp[zaJ,h,wrO]
  | cons y r=>simp[zaJ,h,wrO]
 simp[zis,this]
theorem zp2{G:Gp}{pw:Addr}{L:List M.Let}{x:M.Let}{Q:Gp->Prop}(h:G pw=some (wrO L))(hx:x∉L)(hl:L.length<=1000000)(q:Q (updG G pw (wrO (L++[x])))):zkA (.ref pw) (zaK x) (.bl true) G Q:=by
 cases L with
 | nil =>
  simp only[zkA,h,wrO,zgV,zef];exact⟨zee x,q⟩
 | cons y r =>
  simp only[zkA,h,wrO,zef];refine⟨zee x,by simpa using hl,?_⟩;rw[zh7]
  ·have:wrO ((y::r)++[x])=.dT (((y::r).map λy=>(zim y,T.bl true))++[(zim x,.bl true)]):=by simp[wrO]
   rw[this]at q;exact q
  ·intro hm;rw[List.map_map]at hm;obtain⟨z,hz,e⟩:=List.mem_map.mp hm;have:z=x:=zj2 e;subst this;exact hx hz
noncomputable def fP(row wr:T):List (Str×T):=[("row",row),("written",wr)]
noncomputable def fA(nu st wi ma ba fr nt ak:T):List (Str×T):=[("number",nu),("step",st),("wish",wi),("many",ma),("ballot",ba),("fresh",fr),("noted",nt),("asked",ak)]
noncomputable def fV(nu bo la:T):List (Str×T):=[("number",nu),("bound",bo),("last",la)]
noncomputable def fR(ma pi as vs:T):List (Str×T):=[("many",ma),("pile",pi),("askers",as),("voters",vs)]
section
variable {nu st wi ma ba fr nt ak x row wr bo la pi as vs:T}
theorem zkc:(fP row wr).lookup ("row":Str)=some row:=rfl
theorem zgZ:(fP row wr).lookup ("written":Str)=some wr:=rfl
theorem zmu:(fA nu st wi ma ba fr nt ak).lookup ("number":Str)=some nu:=rfl
theorem zpJ:(fA nu st wi ma ba fr nt ak).lookup ("step":Str)=some st:=rfl
theorem zpI:(fA nu st wi ma ba fr nt ak).lookup ("wish":Str)=some wi:=rfl
theorem zpK:(fA nu st wi ma ba fr nt ak).lookup ("many":Str)=some ma:=rfl
theorem zcp:(fA nu st wi ma ba fr nt ak).lookup ("ballot":Str)=some ba:=rfl
theorem zn0:(fA nu st wi ma ba fr nt ak).lookup ("fresh":Str)=some fr:=rfl
theorem zfG:(fA nu st wi ma ba fr nt ak).lookup ("noted":Str)=some nt:=rfl
theorem zkd:(fA nu st wi ma ba fr nt ak).lookup ("asked":Str)=some ak:=rfl
theorem zeh:(fV nu bo la).lookup ("number":Str)=some nu:=rfl
theorem zei:(fV nu bo la).lookup ("bound":Str)=some bo:=rfl
theorem zjq:(fV nu bo la).lookup ("last":Str)=some la:=rfl
theorem zpH:(fR ma pi as vs).lookup ("many":Str)=some ma:=rfl
theorem zgd:(fR ma pi as vs).lookup ("pile":Str)=some pi:=rfl
theorem zej:(fR ma pi as vs).lookup ("askers":Str)=some as:=rfl
theorem zix:(fR ma pi as vs).lookup ("voters":Str)=some vs:=rfl
end
noncomputable def cellI(ns:List Int)(k:Nat):Int:=ns.getD k 0
theorem zn1(i j:Int):PyData.eqv (.int i) (.int j)=decide (i=j):=by rw[show PyData.eqv (.int i) (.int j)=(i==j)from rfl]; exact Bool.beq_eq_decide_eq i j
theorem at0{x:T}{l:List T}:atI (x::l) 0=some x:=zcg (j:=0) (by simp)
theorem at1{x y:T}{l:List T}:atI (x::y::l) 1=some y:=zcg (j:=1) (by simp)
theorem at2{x y z:T}{l:List T}:atI (x::y::z::l) 2=some z:=zcg (j:=2) (by simp)
theorem at3{x y z u:T}{l:List T}:atI (x::y::z::u::l) 3=some u:=zcg (j:=3) (by simp)
theorem zdw{g:TG3}{tc:TT3}{te:TE3}{S:Gp->Prop}{τ:St3}{G:Gp}{Q:List T->Gp->Prop}(p:T->Bool)(h:T->T)(hS:S G):∀ (ts acc:List T),
  (∀ x∈ts,∀ R:St3->Gp->Prop,(∀ τ2,(∀ R':Bool->Gp->Prop,R' (p x) G->tc τ2 G R')->(p x=true->∀ R':VK3,R' (h x) G->te τ2 G R')->R τ2 G)->g x τ G R)->Q (acc++(ts.filter p).map h) G->zeY g tc te S ts τ acc G Q
 | [],acc,_,q=>⟨hS,by simpa using q⟩
 | x::r,acc,hx,q=>by
  refine⟨hS,hx x List.mem_cons_self _ λτ2 h1 h2=>h1 _ ?_⟩
  by_cases c:p x=true
  ·rw[if_pos c]
   refine h2 c _ (zdw p h hS r (acc++[h x]) (λy hy=>hx y (lMc _ hy)) ?_)
   rw[List.filter_cons_of_pos c]at q
   simpa using q
  ·rw[if_neg c]
   refine zdw p h hS r acc (λy hy=>hx y (lMc _ hy)) ?_
   rw[List.filter_cons_of_neg c]at q
   exact q
theorem zem{te:TE3}{S:Gp->Prop}{τ:St3}{G:Gp}{Q:List T->Gp->Prop}(h:T->T)(hS:S G)(ts:List T)(hx:∀ x∈ts,∀ R:VK3,R (h x) G->te (τ.set 0 (some x)) G R)(q:Q (ts.map h) G):zeY (zav 0) zah te S ts τ [] G Q :=
 zdw (λ_=>true) h hS ts [] (λx hm R k=>k _ (λR' r=>r) λ_ R' r=>hx x hm R' r) (by rw[List.filter_eq_self.mpr (λ_ _=>rfl)]; exact q)
section
variable {K:W.Frag}{G:Gp}{p C:Addr}{fs:List (Str×T)}{f m:Str}{y v:T}
theorem zan{Q:Gp->Prop}(h:G p=some (.ins C fs))(a:Att K C f)(l:Nat.blt fs.length 1000=true)(q:Q (updG G p (.ins C (zgR f y fs)))):zjT K (.ref p) y f G Q:=by
 have l':fs.length < 1000:=by simpa using l
 simp only[zjT,h]; exact⟨a,l',q⟩
theorem zag{Q:VK3}(h:G p=some (.ins C fs))(l:fs.lookup f=some v)(a:Att K C f)(q:Q v G):zmt K (.ref p) G f Q:=by
 simp only[zmt,h,l]; exact⟨a,q⟩
theorem zbC{ts:List T}{i:Nat}{Q:VK3}(h:G p=some (.lst ts))(ht:ts[i]?=some v)(q:Q v G):ixA (.ref p) (.int i) G Q:=by
 have e:atI ts (i:Int)=some v:=zcg ht;simp only[ixA,zcq,h,ix3,zaJ,e]; exact q
theorem zaw{ts:List T}{i:Nat}{Q:VK3}(ht:ts[i]?=some v)(q:Q v G):ixA (.tup ts) (.int i) G Q:=by
 have e:atI ts (i:Int)=some v:=zcg ht;simp only[ixA,zcq,ix3,zaJ,e]; exact q
theorem zdu{us:List T}{Q:Prop}(h:G p=some (.lst us))(q:Q):zed (.ref p) G Q:=by
 simp only[zed,h]; exact q
theorem zgi{us:List T}{Q:VK3}(h:G p=some (.lst us))(l:us.length<=1000000)(q:Q .non (updG G p (.lst (us++[y])))):zk5 (.ref p) [y] G Q:=by
 simp only[zk5,h]; exact⟨l,q⟩
theorem zai{Q:Prop}(h:G p=some (.ins C fs))(l:fs.lookup m=none)(q:Q):zia (.ref p) C m G Q:=by
 unfold zia; dsimp only; rw[h]; exact⟨⟨rfl,l⟩,q⟩
end
inductive Slot where
 | r | p | pr | pw | la | lv | as (i:Nat) | nt (i:Nat) | ak (i:Nat) | vs (v:Nat)
 deriving DecidableEq
noncomputable abbrev Adr:=Slot->Addr
structure Cz where
 P:Addr
 A:Addr
 V:Addr
 R:Addr
 T:Addr:=0
 xA:Addr:=0
 xV:Addr:=0
 xL:Addr:=0
 xR:Addr:=0
structure At(K:W.Frag)(Z:Cz):Prop where
 row:Att K Z.P "row"
 written:Att K Z.P "written"
 number:Att K Z.A "number"
 step:Att K Z.A "step"
 wish:Att K Z.A "wish"
 many:Att K Z.A "many"
 ballot:Att K Z.A "ballot"
 fresh:Att K Z.A "fresh"
 noted:Att K Z.A "noted"
 asked:Att K Z.A "asked"
 vnumber:Att K Z.V "number"
 bound:Att K Z.V "bound"
 last:Att K Z.V "last"
 rmany:Att K Z.R "many"
 pile:Att K Z.R "pile"
 askers:Att K Z.R "askers"
 voters:Att K Z.R "voters"
def zeQ(S:P.R):Slot->Prop
 | .as i=>i < S.wishes.length
 | .nt i=>i < S.wishes.length
 | .ak i=>i < S.wishes.length
 | .vs v=>v < S.many
 | _=>True
noncomputable def zdR(l:List (Nat×Option (Int×Int))):GO:=.dK (l.map λp=>(Sum.inl (p.1:Int),oP p.2))
noncomputable def akO(l:List (Int×List Nat)):GO:=.dK (l.map λp=>(Sum.inl p.1,T.tup (p.2.map λ(v:Nat)=>T.int v)))
noncomputable def obj(Z:Cz)(S:P.R)(A:Adr):Slot->GO
 | .r=>.ins Z.R (fR (.int S.many) (.ref (A .p)) (.ref (A .la)) (.ref (A .lv)))
 | .p=>.ins Z.P (fP (.ref (A .pr)) (.ref (A .pw)))
 | .pr=>.lst (S.letters.map zaK)
 | .pw=>wrO S.letters
 | .la=>.lst ((List.range S.wishes.length).map λi=>.ref (A (.as i)))
 | .lv=>.lst ((List.range S.many).map λi=>.ref (A (.vs i)))
 | .as i=>.ins Z.A (fA (.int i) (.int S.wishes.length) (.int (S.wishes.getD i 0)) (.int S.many) (oI (S.askers i).ballot) (.int (S.askers i).fresh) (.ref (A (.nt i))) (.ref (A (.ak i))))
 | .nt i=>zdR (S.askers i).noted
 | .ak i=>akO (S.askers i).asked
 | .vs v=>.ins Z.V (fV (.int v) (oI (S.voters v).promised) (oP (S.voters v).voted))
structure RoomAt(Z:Cz)(G:Gp)(A:Adr)(S:P.R):Prop where
 at':∀ s,zeQ S s->G (A s)=some (obj Z S A s)
 inj:∀ s t,zeQ S s->zeQ S t->A s=A t->s=t
def own(A:Adr)(S:P.R)(a:Addr):Prop:=∃ s,zeQ S s/\A s=a
def Fr(G:Gp)(A:Adr)(S:P.R)(G':Gp)(A':Adr)(S':P.R):Prop:=∀ a o,¬ own A S a->G a=some o->G' a=some o/\¬ own A' S' a
section
variable {Z:Cz}{G G':Gp}{A A':Adr}{S S':P.R}
theorem RoomAt.ne(R:RoomAt Z G A S){s t:Slot}(hs:zeQ S s)(ht:zeQ S t)(h:s≠t):A s≠A t:=λe=>h (R.inj s t hs ht e)
theorem RoomAt.free(R:RoomAt Z G A S){a:Addr}(h:G a=none):¬ own A S a:=by
 rintro⟨s,hs,rfl⟩;rw[R.at' s hs]at h; cases h
theorem RoomAt.nown(R:RoomAt Z G A S){a:Addr}(h:¬ own A S a){s:Slot}(hs:zeQ S s):A s≠a:=λe=>h ⟨s,hs,e⟩
theorem RoomAt.beside(R:RoomAt Z G A S){a:Addr}{o:GO}(h:¬ own A S a):RoomAt Z (updG G a o) A S :=
 ⟨λs hs=>by rw[zab (R.nown h hs)]; exact R.at' s hs,R.inj⟩
theorem RoomAt.put(R:RoomAt Z G A S){s:Slot}(hs:zeQ S s)(hl:∀ t,zeQ S' t↔zeQ S t)(h:∀ t,zeQ S t->t≠s->obj Z S' A t=obj Z S A t):RoomAt Z (updG G (A s) (obj Z S' A s)) A S':=by
 refine⟨λt ht=>?_,λt u ht hu=>R.inj t u ((hl t).mp ht) ((hl u).mp hu)⟩;by_cases e:t=s
 ·subst e; exact zaa
 ·rw[zab (R.ne ((hl t).mp ht) hs e),h t ((hl t).mp ht) e]; exact R.at' t ((hl t).mp ht)
theorem Fr.refl:Fr G A S G A S:=λa o h e=>⟨e,h⟩
theorem Fr.trans{G2:Gp}{A2:Adr}{S2:P.R}(f:Fr G A S G' A' S')(g:Fr G' A' S' G2 A2 S2):Fr G A S G2 A2 S2:=λa o h e =>
 let ⟨h1,h2⟩:=f a o h e; g a o h2 h1
theorem Fr.put{s:Slot}{o:GO}(hs:zeQ S s)(hl:∀ t,zeQ S' t↔zeQ S t):Fr G A S (updG G (A s) o) A S':=λa u h e =>
 ⟨by rw[zab (λz=>h ⟨s,hs,z.symm⟩)]; exact e,λhu=>(by obtain⟨t,ht,e'⟩:=hu; exact h ⟨t,(hl t).mp ht,e'⟩)⟩
end
end Rm
namespace L2
open PySem PySem.Spec PyProof.Rows
def zn9(Ts:List Addr)(H:Hp):Prop:=(∀ t∈Ts,H t=some (.tbl #[]))/\∀ b,b∉Ts->H b=none∨∃ o xs,H b=some (.frz o (.lst xs))
theorem zmd{P:Program}{w:World}{K:W.Frag}{mg mb:Str->Option Value}{CX:CXT}{k:Nat}{fa a:Addr}{Ts:List Addr}{fd:FuncData}{x:Str}{sp:Sp}{s₁:Shared}{vs:List Value}{ns:List Int}
  (KX:K.In s₁.heap) (hns:s₁.heap.Ns mainGlobals mg) (hb:s₁.heap.Ns builtinsNs mb) (hbb:∀ x:Str,x≠"__name__"->mb x=bootBuiltins x) (hlim:s₁.heap.NoLimit) (hg:s₁.gens=#[])
  (hBM:∃ bm ob,mg "__builtins__"=some (.ref bm)/\bm≠builtinsNs/\s₁.heap.get? bm=some ob/\ob.cls=.type "module"/\ob.dict=some builtinsNs/\ob.data=.plain)
  (hT:∀ t∈Ts,s₁.heap.get? t=some (W.tabObj #[])) (hC:∀ t∈Ts,∃ c,W.CodeHd s₁.heap c t) (hKT:∀ t∈Ts,K.lookup t=none)
  (ha:s₁.heap.get? a=some { cls:=.type "list",data:=.seq vs.toArray }) (hi:IntsAre vs ns) (hl:ns.length<=sizeLine) (hr:Room k callerA)
  (F:∀ base:Heap,K.In base->base.Ns mainGlobals mg->(∀ t∈Ts,base.BuiltinsAt mg t)->FnOk P w K mg base CX k fa fd [x] sp) (hbind:∀ (s:Shared) (u:Value),BindsTo s fd ⟨[u],[]⟩ [(x,u)])
  (hsp:∀ H:Hp,zn9 Ts H->SqL K H a (ns.map V.int)->sp [.ref a] H (λv _=>v=.bl true) λ_ _ _=>False)
  (hCX:∀ H e s',CX [] H s₁ (λ_ _ _=>False) e s'->False) :
  codeAny (model P w) callerA (.call (.ref fa) ⟨[.ref a],[]⟩) (λr s'=>r=.ok (.ret (.bool true))/\OldK s₁.heap s'.heap/\s'.os=s₁.os/\AllBare s'.gens) s₁:=by
 have rv:=zfK hi;have lenV:=hi.length;have hTa:a∉Ts:=λz=>by have:=hT a z; rw[ha]at this; cases this
 have core:∀ H:Hp,zn9 Ts H->SqL K H a (ns.map V.int)->HOk P w H s₁.heap->(∀ b,b∉Ts->H b≠none->b=a)->(H a≠none->K.lookup a=none) ->
   codeAny (model P w) callerA (.call (.ref fa) ⟨[.ref a],[]⟩) (λr s'=>r=.ok (.ret (.bool true))/\OldK s₁.heap s'.heap/\s'.os=s₁.os/\AllBare s'.gens) s₁:=by
  intro H hO hS hok hA hK;have untr:∀ {b:Addr} {o:Obj},s₁.heap.get? b=some o->(∀ xs n,o.data≠.seq xs n)->(∀ xs,o.data≠.fields xs)->H b=none:=λ{b o} e d1 d2=>by
   cases q:H b with
   | none=>rfl
   | some u =>
    by_cases zT:b∈Ts
    ·rw[hT b zT]at e; cases e; exact absurd rfl (d2 _)
    ·have e':b=a:=hA b zT (by rw[q]; simp);subst e';rw[ha]at e; cases e; exact absurd rfl (d1 _ _)
  have nsK:∀ {b:Addr} {m:Str->Option Value},s₁.heap.Ns b m->(znU s₁.heap H).Ns b m:=λ{b m} ⟨o,es,ep,e,d,r⟩=>⟨o,es,ep,zhH e (untr e (λ_ _ z=>by rw[d]at z; cases z) λ_ z=>by rw[d]at z; cases z),d,r⟩;have hKb:K.In (znU s₁.heap H):=λb o e=>zhH (KX b o e) (by
   cases q:H b with
   | none=>rfl
   | some u =>
    have zT:b∉Ts:=λz=>by rw[hKT b z]at e; cases e
    have e':b=a:=hA b zT (by rw[q]; simp);subst e';rw[hK (by rw[q]; simp)]at e; cases e)
  have hM:Mod K mg (znU s₁.heap H):=⟨hKb,nsK hns,⟨mb,nsK hb,hbb⟩,let ⟨mc,h1,h2⟩:=hlim; ⟨mc,nsK h1,h2⟩⟩;have hBb:∀ t∈Ts,(znU s₁.heap H).BuiltinsAt mg t:=λt ht=>by
   obtain⟨bm,ob,b1,b2,b3,b4,b5,b6⟩:=hBM;refine⟨bm,ob,b1,b2,λz=>?_,λz=>?_,zhH b3 (untr b3 (λ_ _ z=>by rw[b6]at z; cases z) λ_ z=>by rw[b6]at z; cases z),b4,b5,b6⟩
   ·obtain⟨o,es,ep,e,hd,_⟩:=hns;rw[z,e]at b3; cases b3; rw[hd]at b6; cases b6
   ·rw[z,hT t ht]at b3; cases b3; cases b4
  have e0:Env0 P w K mg (znU s₁.heap H) callerA [] s₁ H:=⟨rfl,hM,λb o e=>zpm e,Nat.le_of_eq (zmn _ _),trivial,λb hb=>absurd (show b∈([]:List Addr)from hb) (by simp),hok,.of_eq hg⟩;refine codeAny_mono ((F _ hKb (nsK hns) hBb).run callerA [] s₁ H ⟨[.ref a],[]⟩ [.ref a] [.ref a] _ _ hr e0 (hbind s₁ (.ref a)) (.cons rfl .nil) (hsp H hO hS)) λr s' h=>?_;cases r with
  | error e=>exact(hCX H e s' h).elim
  | ok fl =>
   cases fl with
   | next=>exact False.elim h
   | brk=>exact False.elim h
   | cont=>exact False.elim h
   | ret u =>
    obtain⟨v,H',os,bare,un,hok',r',q⟩:=h;have q':v=.bl true:=q;subst q';obtain rfl:u=Value.bool true:=r';have hT2:∀ t∈Ts,∃ more,s'.heap.get? t=some (W.tabObj (#[]++more)):=λt ht=>by
     obtain⟨more,hT'⟩:=un.tbls t _ (hO.1 t ht);exact⟨more,hok' t _ hT'⟩
    have kept:∀ b o,b∉Ts->s₁.heap.get? b=some o->s'.heap.get? b=some o:=λb o hb e=>by
     cases q:H b with
     | none=>exact un.keep b o e q (by intro z; exact absurd (show b∈([]:List Addr)from z) (by simp)) (by simp)
     | some u =>
      rcases hO.2 b hb with z | ⟨ob,xs,z⟩
      ·rw[q]at z; cases z
      ·have z2:=un.frzs b ob _ z;obtain⟨e1,_⟩:=hok b _ z;obtain⟨e2,_⟩:=hok' b _ z2;rw[e]at e1; cases e1;exact e2
    refine⟨rfl,⟨λb o e=>?_,λb o e=>?_⟩,os,bare⟩
    ·by_cases hb:b∈Ts
     ·obtain⟨more,hT3⟩:=hT2 b hb;obtain⟨c,hCc⟩:=hC b hb;rw[hT b hb]at e; cases e;exact .inr (.inl ⟨(hCc.tab (hT b hb)).isCodeTable,rfl,_,more,rfl,hT3⟩)
     ·exact .inl (kept b o hb e)
    ·by_cases hb:b∈Ts
     ·obtain⟨more,hT3⟩:=hT2 b hb;exact⟨_,hT3⟩
     ·exact⟨o,kept b o hb e⟩
 cases hk:K.lookup a with
 | some o =>
  have e:=KX a o hk;rw[ha]at e;cases e
  refine core (λb=>if b∈Ts then some (.tbl #[])else none) ⟨λt ht=>if_pos ht,λb hb=>.inl (if_neg hb)⟩ (.inr ⟨_,vs.toArray,_,hk,rfl,rfl,rfl,by rw[List.size_toArray,lenV]; exact hl,by simpa using rv⟩) (λb u z=>?_) (λb hb z=>absurd (if_neg hb) z) λz=>absurd (if_neg hTa) z;by_cases hb:b∈Ts
  ·have z':=(if_pos hb).symm.trans z;cases z'
   exact hT b hb
  ·have z':=(if_neg hb).symm.trans z;cases z'
 | none =>
  refine core (λb=>if b∈Ts then some (.tbl #[])else if b=a then some (.frz { cls:=.type "list",data:=.seq vs.toArray } (.lst (ns.map V.int)))else none) ⟨λt ht=>if_pos ht,λb hb=>?_⟩
   (.inl (.inr ⟨{ cls:=.type "list",data:=.seq vs.toArray },(if_neg hTa).trans (if_pos rfl)⟩)) (λb u z=>?_) (λb hb z=>?_) λ_=>hk
  ·by_cases hb':b=a
   ·exact .inr ⟨_,_,(if_neg hb).trans (if_pos hb')⟩
   ·exact .inl ((if_neg hb).trans (if_neg hb'))
  ·by_cases hb:b∈Ts
   ·have z':=(if_pos hb).symm.trans z;cases z'
    exact hT b hb
   ·by_cases hb':b=a
    ·have z':=((if_neg hb).trans (if_pos hb')).symm.trans z;cases z'
     subst hb';exact⟨ha,by rw[List.length_map]; exact hl,vs,_,rv,ha⟩
    ·have z':=((if_neg hb).trans (if_neg hb')).symm.trans z;cases z'
  ·by_cases hb':b=a
   ·exact hb'
   ·exact absurd ((if_neg hb).trans (if_neg hb')) z
theorem walk_ofT{l:PySem.W.OpenLaw}{n k:Nat}{q:Program}{loose:List Str}{XP:(Str->Option Value)->Heap->Prop}{YP:World->Heap->Prop}{d:DefRec}{K:Params->PySem.W.Frag}{CX:World->CXT}{sp:World->Sp}{x:Str}{Ts:List Addr}
  (hn:l.most=some n) (hn2:n<=sizeLine) (hdf:d.params.defaults=[]) (hr:Room k callerA)
  (hY:∀ (w:World) (h:Heap),YP w h->(K w.params).In h) (hY2:∀ (w:World) (h:Heap),YP w h->∀ t∈Ts,h.get? t=some (PySem.W.tabObj #[]))
  (F:∀ (w:World) (mg:Str->Option Value) (fa:Addr) (h:Heap),(K w.params).In h->h.Ns mainGlobals mg->mg d.name=some (.ref fa) ->
   (∀ t∈Ts,(∃ c,PySem.W.codeHdIn (K w.params) c t=true)/\(K w.params).lookup t=none)/\∃ fd:FuncData,(∀ (s:Shared) (u:Value),BindsTo s fd ⟨[u],[]⟩ [(x,u)]) /\
    ∀ base:Heap,(K w.params).In base->base.Ns mainGlobals mg->(∀ t∈Ts,base.BuiltinsAt mg t)->FnOk l.prog w (K w.params) mg base (CX w) k fa fd [x] (sp w))
  (hsp:∀ (w:World) (H:Hp) (a:Addr) (ns:List Int),ns.length<=n->zn9 Ts H->SqL (K w.params) H a (ns.map V.int)->sp w [.ref a] H (λv _=>v=.bl true) λ_ _ _=>False)
  (hCX:∀ (w:World) (H:Hp) (s:Shared) (e:Value) (s':Shared),CX w [] H s (λ_ _ _=>False) e s'->False) :
  PySem.W.WalkO q loose XP YP l.row.toRowW d [] (λf vs=>PySem.call f vs):=by
 refine Att.attach_call hn hdf λw s₀ s₁ mg mb fa o pm cd doc a vs ns G Y ho hd hcd hmg hobj hints hlen hg=>?_;have KX:=hY w _ Y;obtain⟨hTK,fd,hb,hF⟩:=F w mg fa _ KX G.T.g hmg;exact zmd KX G.T.g G.T.b G.T.builtins G.T.nolimit hg G.T.bmain (hY2 w _ Y) (λt ht=>(hTK t ht).1.imp λc hc=>PySem.W.codeHd_of_K KX hc) (λt ht=>(hTK t ht).2) hobj hints (Nat.le_trans hlen hn2) hr hF hb (λH hO hS=>hsp w H a ns hlen hO hS) λH e s'=>hCX w H s₁ e s'
end L2
namespace L3
open PySem PySem.Spec PyProof.Rows L2
theorem zs9{P:Program}{w:World}{K:PySem.W.Frag}{mg:Str->Option Value}{base:Heap}{x qual:Str}{st:Stmt}{f c:Addr}{fd:FuncData}{N ps:List Str}{k:Nat}{sp:Sp3}(F:Fun K x qual st f fd)(hc:fd.code=.ref c)(S:FnScope N ps (zac st))
  (len:∀ ts G Q,sp ts G Q->ts.length=ps.length)
  (hbody:∀ (A:Around) (outer:List Env) (s:Shared) (H:Hp) (E:XK),Room k (A.deeper (envOfC qual (zac st) s.heap.objs.size f (.ref c))) ->
   ∃ t,QSs (zos CX0 P w K mg base N qual (zac st) f (.ref c) A outer s H E).nox (zcG st) t/\∀ ts G Q,sp ts G Q->t { nx:=λ_ G'=>Q .non G',rt:=Q } (zad N.length ts) G) :
  FOk P w K mg base (k+1) f fd ps sp:=by
 obtain⟨oc,od,kV,doc,pm,an,cdv,ct,osl,rfl,lk,hcd⟩:=F.ex;obtain rfl:cdv=.ref c:=hc;refine zry lk hcd S (λvs H Q E hu=>(by obtain⟨ts,G,Q3,d,_,h,_⟩:=hu; exact d.length.trans (len ts G Q3 h))) λA outer s H vs Q E hr h=>?_;obtain⟨ts,G,Q3,d,r,h,i⟩:=h;obtain⟨t,h1,h2⟩:=hbody A outer s H E hr;refine⟨_,h1.nox,zad N.length ts,G,_,Sts.start N d,r,h2 ts G Q3 h,?_⟩;exact⟨λτ G' σ' H' q k _ r'=>i _ G' _ H' q k .non r',i,λ_ _ _ _ q _ _ _=>False.elim q,λ_ _ _ _ q _ _ _=>False.elim q⟩
def Tp(K:W.Frag)(x:Str)(st:Stmt)(f:Addr):Prop:=W.nsIn K mainGlobals x=some (some (.ref f))/\∃ fd,Fun K x x st f fd
def Md(K:W.Frag)(C:Addr)(x qual:Str)(st:Stmt)(f:Addr):Prop:=W.findIn K (.ref C) x=some (some (.ref f))/\W.isFn K (.ref f)=true/\∃ fd,Fun K x qual st f fd
section
variable {P:Program}{w:World}{K:W.Frag}{mg:Str->Option Value}{base h:Heap}{k:Nat}{C f:Addr}{x qual:Str}{st:Stmt}{ps:List Str}{sp:Sp3}
def Bi(x qual:Str)(st:Stmt)(ps:List Str):Prop:=∀ (kV doc pm:Value) (an:Option Addr) (cdv ct:Value) (us:List Value),us.length=ps.length->bindArgs (W.fnOf x qual (zeX st) (zcG st) (zac st) .none kV doc pm an cdv ct) ⟨us,[]⟩=pure (ps.zip us)
theorem Tp.at(D:Tp K x st f)(X:K.In h)(G:h.Ns mainGlobals mg)(hb:Bi x x st ps)(ok:∀ fd,Fun K x x st f fd->FOk P w K mg base k f fd ps sp):zfI P w K mg base k x ps sp:=by
 obtain⟨a,fd,T⟩:=D;exact⟨f,fd,ok fd T,W.mg_of X G a,T.2,T.binds hb⟩
theorem Md.at(D:Md K C x qual st f)(c:Cls K C)(hb:Bi x qual st ps)(ok:∀ fd,Fun K x qual st f fd->FOk P w K mg base k f fd ps sp):zdW P w K mg base k C x ps sp:=by
 obtain⟨a,i,fd,T⟩:=D;exact⟨f,fd,ok fd T,c,⟨a,i,T.2⟩,T.binds hb⟩
theorem Md.mk{y:Str}(D:Md K C "__init__" qual st f) (hC:mg y=some (.ref C)) (m:W.makesIn K C=true) (kC:W.keepIn K (.ref C)=true) (hb:Bi "__init__" qual st ps) (ok:∀ fd,Fun K "__init__" qual st f fd->FOk P w K mg base k f fd ps sp):zm4 P w K mg base k y C ps sp:=by
 obtain⟨a,i,fd,T⟩:=D;exact⟨f,fd,ok fd T,hC,⟨m,a,i,kC⟩,T.binds hb⟩
end
theorem bl1{P:List Value->Prop}(h:∀ a,P [a])(us:List Value)(l:us.length=1):P us:=by
 match us,l with
 | [a],_=>exact h a
theorem bl2{P:List Value->Prop}(h:∀ a b,P [a,b])(us:List Value)(l:us.length=2):P us:=by
 match us,l with
 | [a,b],_=>exact h a b
theorem bl3{P:List Value->Prop}(h:∀ a b c,P [a,b,c])(us:List Value)(l:us.length=3):P us:=by
 match us,l with
 | [a,b,c],_=>exact h a b c
theorem bl4{P:List Value->Prop}(h:∀ a b c d,P [a,b,c,d])(us:List Value)(l:us.length=4):P us:=by
 match us,l with
 | [a,b,c,d],_=>exact h a b c d
theorem bl5{P:List Value->Prop}(h:∀ a b c d e,P [a,b,c,d,e])(us:List Value)(l:us.length=5):P us:=by
 match us,l with
 | [a,b,c,d,e],_=>exact h a b c d e
end L3
namespace Rm
open PySem PySem.Spec PyProof.Rows L2 L3
def zhV(ts:List (Addr×Str×Pos)):Sp3:=λus G Q=>∃ ns:List Int,us=[.fro (ns.map T.int)]/\ns.length<=63/\(∀ t∈ts,G t.1=some (.tab t.2.1 t.2.2))/\∀ G',Q (.bl true) G'
theorem zkO{K:KW}{H:Hp}{a:Addr}{ts:List (Addr×Str×Pos)}{ns:List Int}{E:XK}(nd:(ts.map (·.1)).Nodup)(hl:ns.length<=63)(hO:zn9 (ts.map (·.1)) H)(hS:SqL K.k H a (ns.map V.int)):lSp K (zhV ts) [.ref a] H (λv _=>v=.bl true) E:=by
 have hF:SqF K.k H a (ns.map V.int):=by
  rcases hS with (h | ⟨o,h⟩) | h
  ·by_cases z:a∈ts.map (·.1)
   ·rw[hO.1 a z]at h; cases h
   ·rcases hO.2 a z with z | ⟨o,xs,z⟩<;>rw[h]at z<;>cases z
  ·exact .inl ⟨o,h⟩
  ·exact .inr h
 refine⟨[.fro (ns.map T.int)],λb=>(ts.find? λt=>decide (t.1=b)).map λt=>.tab t.2.1 t.2.2,λt _=>t=.bl true,.cons (.fro hF (Dens.ints ns)) .nil,(λb o e=>?_),⟨ns,rfl,hl,λt ht=>?_,λ_=>rfl⟩,λt G' v H' q _ d _=>by subst q; cases d; rfl⟩
 ·obtain⟨t,e1,e2⟩:=Option.map_eq_some_iff.mp e;subst e2;have h1:=List.mem_of_find?_eq_some e1;have h2:t.1=b:=by simpa using List.find?_some e1
  subst h2;exact⟨#[],hO.1 _ (List.mem_map_of_mem h1),.inl rfl⟩
 ·have:ts.find? (λu=>decide (u.1=t.1))=some t:=by
   clear hO hF hS;induction ts with
   | nil=>cases ht
   | cons u r ih =>
    rw[List.map_cons,List.nodup_cons]at nd;rcases List.mem_cons.mp ht with rfl | ht
    ·simp
    ·rw[List.find?_cons_of_neg (by simp; intro z; exact nd.1 (z ▸ List.mem_map_of_mem ht))];exact ih nd.2 ht
  show((ts.find? λu=>decide (u.1=t.1)).map _)=_;rw[this]; rfl
theorem RoomAt.notab{Z:Cz}{G:Gp}{A:Adr}{S:P.R}(R:RoomAt Z G A S){t:Addr}{q:Str}{pos:Pos}(h:G t=some (.tab q pos)):¬ own A S t:=by
 rintro⟨s,hs,rfl⟩;rw[R.at' s hs]at h;cases s<;>simp only[obj,wrO,zdR,akO]at h<;>first | (cases h; done) | (split at h<;>cases h)
end Rm
namespace Rm
open PySem L2 L3
def Ext(G G':Gp):Prop:=∀ a o,G a=some o->G' a=some o
theorem Ext.refl{G:Gp}:Ext G G:=λ_ _ h=>h
theorem Ext.trans{G G1 G2:Gp}(a:Ext G G1)(b:Ext G1 G2):Ext G G2:=λx o h=>b x o (a x o h)
theorem Ext.new{G:Gp}{a:Addr}{o:GO}(h:G a=none):Ext G (updG G a o):=λb u e=>by rw[zab (neG e h)]; exact e
theorem Ext.none{G G':Gp}(x:Ext G G'){a:Addr}(h:G' a=none):G a=none:=by
 cases e:G a with
 | none=>rfl
 | some o=>rw[x a o e]at h; cases h
section
variable {Z:Cz}{G G':Gp}{A A':Adr}{S S':P.R}
theorem RoomAt.ext(R:RoomAt Z G A S)(x:Ext G G'):RoomAt Z G' A S:=⟨λs hs=>x _ _ (R.at' s hs),R.inj⟩
theorem Fr.ext(x:Ext G G'):Fr G A S G' A S:=λa o h e=>⟨x a o e,h⟩
structure Bk(Lv:Slot->Prop)(O:Adr->Slot->GO)(G0:Gp)(A:Adr)(G:Gp):Prop where
 at':∀ s,Lv s->G (A s)=some (O A s)
 inj:∀ s t,Lv s->Lv t->A s=A t->s=t
 new:∀ s,Lv s->G0 (A s)=none
 old:Ext G0 G
theorem Bk.start{O:Adr->Slot->GO}{G0:Gp}:Bk (λ_=>False) O G0 A G0:=⟨λ_ h=>h.elim,λ_ _ h=>h.elim,λ_ h=>h.elim,Ext.refl⟩
theorem Bk.add{Lv:Slot->Prop}{O:Adr->Slot->GO}{G0:Gp}(B:Bk Lv O G0 A G){s:Slot}{a:Addr}(hs:¬ Lv s)(ha:G a=none)(hO:∀ t,Lv t->O (M.upd A s a) t=O A t) :
  Bk (λt=>Lv t∨t=s) O G0 (M.upd A s a) (updG G a (O (M.upd A s a) s)):=by
 have ne:∀ t,Lv t->M.upd A s a t=A t:=λt ht=>by
  unfold M.upd; rw[if_neg]; rintro rfl; exact hs ht
 have es:M.upd A s a s=a:=by unfold M.upd; rw[if_pos rfl]
 have na:∀ t,Lv t->A t≠a:=λt ht e=>by have:=B.at' t ht; rw[e,ha]at this; cases this
 refine⟨λt ht=>?_,λt u ht hu e=>?_,λt ht=>?_,λb o e=>?_⟩
 ·rcases ht with ht | rfl
  ·rw[ne t ht,zab (na t ht),hO t ht]; exact B.at' t ht
  ·rw[es,zaa]
 ·rcases ht with ht | rfl<;>rcases hu with hu | rfl
  ·rw[ne t ht,ne u hu]at e; exact B.inj t u ht hu e
  ·rw[ne t ht,es]at e; exact absurd e (na t ht)
  ·rw[ne u hu,es]at e; exact absurd e.symm (na u hu)
  ·rfl
 ·rcases ht with ht | rfl
  ·rw[ne t ht]; exact B.new t ht
  ·rw[es]; exact B.old.none ha
 ·rw[zab (neG (B.old b o e) ha)]; exact B.old b o e
theorem Bk.lv{Lv Lv':Slot->Prop}{O:Adr->Slot->GO}{G0:Gp}(B:Bk Lv O G0 A G)(h:∀ s,Lv' s->Lv s):Bk Lv' O G0 A G :=
 ⟨λs hs=>B.at' s (h s hs),λs t hs ht=>B.inj s t (h s hs) (h t ht),λs hs=>B.new s (h s hs),B.old⟩
def LvA(k:Nat):Slot->Prop
 | .p=>True
 | .pr=>True
 | .pw=>True
 | .as j=>j < k
 | .nt j=>j < k
 | .ak j=>j < k
 | _=>False
def LvV(n k:Nat):Slot->Prop
 | .p=>True
 | .pr=>True
 | .pw=>True
 | .la=>True
 | .as j=>j < n
 | .nt j=>j < n
 | .ak j=>j < n
 | .vs v=>v < k
 | _=>False
theorem zfw(A:Adr)(s t:Slot)(a:Addr):M.upd A s a t=if t=s then a else A t:=rfl
theorem Bk.asker{W:List Int}{m i:Nat}{G0:Gp}(B:Bk (LvA i) (obj Z (P.new W m)) G0 A G){x q d:Addr}(hx:G x=none)(hq:G q=none)(hd:G d=none)(n1:q≠x)(n2:d≠x)(n3:q≠d) :
  ∃ A',(∀ t,LvA i t->A' t=A t)/\A' (.as i)=x/\Bk (LvA (i+1)) (obj Z (P.new W m)) G0 A' (updG (updG (updG G q (.dK [])) d (.dK [])) x (.ins Z.A (fA (.int i) (.int W.length) (.int (W.getD i 0)) (.int m) .non (.int 0) (.ref q) (.ref d)))):=by
 have st:∀ (A1:Adr) (s:Slot) (a:Addr),(s=.nt i∨s=.ak i∨s=.as i)->∀ t,LvA i t->obj Z (P.new W m) (M.upd A1 s a) t=obj Z (P.new W m) A1 t:=by
  intro A1 s a hs t ht;cases t with
  | as j =>
   have hj:j≠i:=by simp only[LvA]at ht; lia
   rcases hs with rfl | rfl | rfl<;>simp[obj,zfw,hj]
  | p=>rcases hs with rfl | rfl | rfl<;>simp[obj,zfw]
  | pr=>simp[obj]
  | pw=>simp[obj]
  | nt j=>simp[obj]
  | ak j=>simp[obj]
  | r=>exact ht.elim
  | la=>exact ht.elim
  | lv=>exact ht.elim
  | vs v=>exact ht.elim
 have B1:=B.add (s:=.nt i) (a:=q) (by simp[LvA]) hq (st A _ q (.inl rfl));have B2:=B1.add (s:=.ak i) (a:=d) (by simp[LvA]) (by rw[zab (Ne.symm n3)]; exact hd) (λt ht=>by
  rcases ht with ht | rfl
  ·exact st _ _ d (.inr (.inl rfl)) t ht
  ·simp[obj])
 have B3:=B2.add (s:=.as i) (a:=x) (by simp[LvA]) (by rw[zab (Ne.symm n2),zab (Ne.symm n1)]; exact hx) (λt ht=>by
  rcases ht with (ht | rfl) | rfl
  ·exact st _ _ x (.inr (.inr rfl)) t ht
  ·simp[obj]
  ·simp[obj])
 have B4:=B3.lv (Lv':=LvA (i+1)) λt ht=>by
  cases t<;>simp[LvA]at ht ⊢<;>lia
 refine⟨M.upd (M.upd (M.upd A (.nt i) q) (.ak i) d) (.as i) x,λt ht=>?_,?_,?_⟩
 case refine_3 =>
  have e1:obj Z (P.new W m) (M.upd A (.nt i) q) (.nt i)=.dK []:=by simp[obj,P.new,zdR]
  have e2:obj Z (P.new W m) (M.upd (M.upd A (.nt i) q) (.ak i) d) (.ak i)=.dK []:=by simp[obj,P.new,akO]
  have e3:obj Z (P.new W m) (M.upd (M.upd (M.upd A (.nt i) q) (.ak i) d) (.as i) x) (.as i)=.ins Z.A (fA (.int i) (.int W.length) (.int (W.getD i 0)) (.int m) .non (.int 0) (.ref q) (.ref d)):=by
   simp[obj,P.new,zfw,oI]
  rw[e1,e2,e3]at B4;exact B4
 ·cases t<;>simp only[LvA]at ht<;>simp[zfw]
  all_goals (intro h; lia)
 ·simp[zfw]
theorem Bk.voter{W:List Int}{m i:Nat}{G0:Gp}(B:Bk (LvV W.length i) (obj Z (P.new W m)) G0 A G){x:Addr}(hx:G x=none) :
  ∃ A',(∀ t,LvV W.length i t->A' t=A t)/\A' (.vs i)=x/\Bk (LvV W.length (i+1)) (obj Z (P.new W m)) G0 A' (updG G x (.ins Z.V (fV (.int i) .non .non))):=by
 have B1:=B.add (s:=.vs i) (a:=x) (by simp[LvV]) hx (λt ht=>by
  cases t with
  | lv=>exact ht.elim
  | r=>exact ht.elim
  | _=>simp[obj,zfw])
 have B4:=B1.lv (Lv':=LvV W.length (i+1)) λt ht=>by
  cases t<;>simp[LvV]at ht ⊢<;>lia
 refine⟨M.upd A (.vs i) x,λt ht=>?_,?_,?_⟩
 case refine_3 =>
  have e3:obj Z (P.new W m) (M.upd A (.vs i) x) (.vs i)=.ins Z.V (fV (.int i) .non .non):=by simp[obj,P.new,oI,oP]
  rw[e3]at B4;exact B4
 ·cases t<;>simp only[LvV]at ht<;>simp[zfw]
  all_goals (intro h; lia)
 ·simp[zfw]
theorem Bk.rebase{Lv:Slot->Prop}{O:Adr->Slot->GO}{G0:Gp}(B:Bk Lv O G0 A G){r:Addr}{o u:GO}(h:G0 r=some o):Bk Lv O (updG G0 r u) A (updG G r u):=by
 have ne:∀ s,Lv s->A s≠r:=λs hs e=>by have:=B.new s hs; rw[e,h]at this; cases this
 refine⟨λs hs=>by rw[zab (ne s hs)]; exact B.at' s hs,B.inj,λs hs=>by rw[zab (ne s hs)]; exact B.new s hs,λa w e=>?_⟩;by_cases c:a=r
 ·subst c; rw[zaa]at e ⊢; exact e
 ·rw[zab c]at e ⊢; exact B.old a w e
theorem Bk.pile{W:List Int}{m:Nat}{G0:Gp}{p q d:Addr}(hp:G0 p=none)(hq:G0 q=none)(hd:G0 d=none)(n1:q≠p)(n2:d≠p)(n3:q≠d) :
  ∃ A,A .p=p/\Bk (LvA 0) (obj Z (P.new W m)) G0 A (updG (updG (updG G0 q (.lst [])) d (.dK [])) p (.ins Z.P (fP (.ref q) (.ref d)))):=by
 have B0:Bk (λ_=>False) (obj Z (P.new W m)) G0 (λ_=>p) G0:=Bk.start;have B1:=B0.add (s:=.pr) (a:=q) (by simp) hq (λt ht=>ht.elim);have B2:=B1.add (s:=.pw) (a:=d) (by simp) (by rw[zab (Ne.symm n3)]; exact hd) (λt ht=>by
  rcases ht with ht | rfl
  ·exact ht.elim
  ·simp[obj])
 have B3:=B2.add (s:=.p) (a:=p) (by simp) (by rw[zab (Ne.symm n2),zab (Ne.symm n1)]; exact hp) (λt ht=>by
  rcases ht with (ht | rfl) | rfl
  ·exact ht.elim
  ·simp[obj]
  ·simp[obj])
 have B4:=B3.lv (Lv':=LvA 0) λt ht=>by
  cases t<;>simp[LvA]at ht ⊢
 refine⟨M.upd (M.upd (M.upd (λ_=>p) .pr q) .pw d) .p p,by simp[zfw],?_⟩;have e1:obj Z (P.new W m) (M.upd (λ_=>p) .pr q) .pr=.lst []:=by simp[obj,P.new]
 have e2:obj Z (P.new W m) (M.upd (M.upd (λ_=>p) .pr q) .pw d) .pw=.dK []:=by simp[obj,P.new,wrO]
 have e3:obj Z (P.new W m) (M.upd (M.upd (M.upd (λ_=>p) .pr q) .pw d) .p p) .p=.ins Z.P (fP (.ref q) (.ref d)):=by simp[obj,zfw]
 rw[e1,e2,e3]at B4;exact B4
theorem Bk.la{W:List Int}{m:Nat}{G0:Gp}(B:Bk (LvA W.length) (obj Z (P.new W m)) G0 A G){x:Addr}(hx:G x=none) :
  Bk (LvV W.length 0) (obj Z (P.new W m)) G0 (M.upd A .la x) (updG G x (.lst ((List.range W.length).map λi=>.ref (A (.as i))))):=by
 have B1:=B.add (s:=.la) (a:=x) (by simp[LvA]) hx (λt ht=>by cases t<;>first | exact ht.elim | simp[obj,zfw]);have e1:obj Z (P.new W m) (M.upd A .la x) .la=.lst ((List.range W.length).map λi=>.ref (A (.as i))):=by simp[obj,zfw,P.new]
 rw[e1]at B1;refine B1.lv λt ht=>?_;cases t<;>simp[LvA,LvV]at ht ⊢<;>exact ht
theorem Bk.room{W:List Int}{m:Nat}{G0:Gp}(B:Bk (LvV W.length m) (obj Z (P.new W m)) G0 A G){x r:Addr}{o:GO}(hx:G x=none)(h0:G0 r=some o) :
  RoomAt Z (updG (updG G x (.lst ((List.range m).map λi=>.ref (A (.vs i))))) r (.ins Z.R (fR (.int m) (.ref (A .p)) (.ref (A .la)) (.ref x)))) (M.upd (M.upd A .lv x) .r r) (P.new W m) /\
  ∀ a u,a≠r->G0 a=some u->updG (updG G x (.lst ((List.range m).map λi=>.ref (A (.vs i))))) r (.ins Z.R (fR (.int m) (.ref (A .p)) (.ref (A .la)) (.ref x))) a=some u/\¬ own (M.upd (M.upd A .lv x) .r r) (P.new W m) a:=by
 have B1:=B.add (s:=.lv) (a:=x) (by simp[LvV]) hx (λt ht=>by cases t<;>first | exact ht.elim | simp[obj,zfw]);have e1:obj Z (P.new W m) (M.upd A .lv x) .lv=.lst ((List.range m).map λi=>.ref (A (.vs i))):=by simp[obj,zfw,P.new]
 rw[e1]at B1;have B2:=B1.rebase (u:=.ins Z.R (fR (.int m) (.ref (A .p)) (.ref (A .la)) (.ref x))) h0;have lv:∀ s,zeQ (P.new W m) s->s≠.r->(LvV W.length m s∨s=.lv):=λs hs hn=>by
  cases s<;>simp[zeQ,P.new,LvV]at hs ⊢<;>first | exact hs | exact hn rfl
 have ne:∀ s,(LvV W.length m s∨s=.lv)->s≠.r:=λs hs e=>by
  subst e; rcases hs with hs | hs
  ·exact hs
  ·cases hs
 have nr:∀ s,(LvV W.length m s∨s=.lv)->M.upd A .lv x s≠r:=λs hs e=>by
  have:=B2.new s hs; rw[e,zaa]at this; cases this
 have uo:∀ s,s≠.r->M.upd (M.upd A .lv x) .r r s=M.upd A .lv x s:=λs h=>by rw[zfw,if_neg h]
 have ur:M.upd (M.upd A .lv x) .r r .r=r:=by rw[zfw,if_pos rfl]
 refine⟨⟨λs hs=>?_,λs t hs ht e=>?_⟩,λa u ha e=>⟨?_,?_⟩⟩
 ·by_cases e:s=.r
  ·subst e;rw[ur,zaa];simp[obj,zfw,P.new]
  ·rw[uo s e,B2.at' s (lv s hs e)];cases s<;>first | exact absurd rfl e | simp[obj,zfw]
 ·by_cases e1:s=.r<;>by_cases e2:t=.r
  ·rw[e1,e2]
  ·subst e1; rw[ur,uo t e2]at e; exact absurd e.symm (nr t (lv t ht e2))
  ·subst e2; rw[ur,uo s e1]at e; exact absurd e (nr s (lv s hs e1))
  ·rw[uo s e1,uo t e2]at e; exact B2.inj s t (lv s hs e1) (lv t ht e2) e
 ·exact B2.old a u (by rw[zab ha]; exact e)
 ·rintro⟨s,hs,e'⟩;by_cases e1:s=.r
  ·subst e1; rw[ur]at e'; exact ha e'.symm
  ·rw[uo s e1]at e';have:=B2.new s (lv s hs e1);rw[e',zab ha,e]at this; cases this
theorem RoomAt.write(R:RoomAt Z G A S){x:M.Let}(h:x∉S.letters):RoomAt Z (updG (updG G (A .pw) (wrO (S.letters++[x]))) (A .pr) (.lst ((S.letters++[x]).map zaK))) A (S.write x):=by
 have el:(S.write x).letters=S.letters++[x]:=by simp[P.R.write,M.write,h]
 refine⟨λs hs=>?_,λs t hs ht=>R.inj s t hs ht⟩;have hs':zeQ S s:=hs;by_cases e1:s=.pr
 ·subst e1; rw[zaa]; simp only[obj,el]
 ·rw[zab (R.ne hs' (t:=.pr) trivial e1)];by_cases e2:s=.pw
  ·subst e2; rw[zaa]; simp only[obj,el]
  ·rw[zab (R.ne hs' (t:=.pw) trivial e2),R.at' s hs'];cases s<;>first | rfl | exact absurd rfl e1 | exact absurd rfl e2
theorem Fr.write{x:M.Let}{o u:GO}:Fr G A S (updG (updG G (A .pw) o) (A .pr) u) A (S.write x):=λa w h e =>
 ⟨by rw[zab (λz=>h ⟨.pr,trivial,z.symm⟩),zab (λz=>h ⟨.pw,trivial,z.symm⟩)]; exact e,h⟩
theorem RoomAt.wrote(R:RoomAt Z G A S)(x:M.Let){G':Gp}(e:G'=if x∈S.letters then G else updG (updG G (A .pw) (wrO (S.letters++[x]))) (A .pr) (.lst ((S.letters++[x]).map zaK))):RoomAt Z G' A (S.write x)/\Fr G A S G' A (S.write x):=by
 subst e;by_cases h:x∈S.letters
 ·have:S.write x=S:=by simp[P.R.write,M.write,h]
  rw[if_pos h,this];exact⟨R,Fr.refl⟩
 ·rw[if_neg h];exact⟨R.write h,Fr.write⟩
theorem RoomAt.fall(R:RoomAt Z G A S){i:Nat}(hi:i < S.wishes.length):RoomAt Z (updG G (A (.as i)) (.ins Z.A (fA (.int i) (.int S.wishes.length) (.int (S.wishes.getD i 0)) (.int S.many) .non (.int (S.askers i).fresh) (.ref (A (.nt i))) (.ref (A (.ak i)))))) A (S.fall i):=by
 have e:obj Z (S.fall i) A (.as i)=.ins Z.A (fA (.int i) (.int S.wishes.length) (.int (S.wishes.getD i 0)) (.int S.many) .non (.int (S.askers i).fresh) (.ref (A (.nt i))) (.ref (A (.ak i)))):=by
  simp[obj,P.R.fall,P.R.setA,M.upd,oI]
 rw[<- e];refine R.put (s:=.as i) hi (λt=>Iff.rfl) λt ht hn=>?_;cases t with
 | as j =>
  have hj:j≠i:=λz=>hn (by rw[z]);simp[obj,P.R.fall,P.R.setA,M.upd,hj]
 | nt j=>by_cases hj:j=i<;>simp[obj,P.R.fall,P.R.setA,M.upd,hj]
 | ak j=>by_cases hj:j=i<;>simp[obj,P.R.fall,P.R.setA,M.upd,hj]
 | _=>rfl
theorem RoomAt.begin(R:RoomAt Z G A S){i:Nat}(hi:i < S.wishes.length){d:Addr}(hd:G d=none)(b f:Int) :
  RoomAt Z (updG (updG G d (.dK [])) (A (.as i)) (.ins Z.A (fA (.int i) (.int S.wishes.length) (.int (S.wishes.getD i 0)) (.int S.many) (.int b) (.int f) (.ref d) (.ref (A (.ak i)))))) (M.upd A (.nt i) d) (S.setA i { S.askers i with ballot:=some b,fresh:=f,noted:=[] }) /\
  Fr G A S (updG (updG G d (.dK [])) (A (.as i)) (.ins Z.A (fA (.int i) (.int S.wishes.length) (.int (S.wishes.getD i 0)) (.int S.many) (.int b) (.int f) (.ref d) (.ref (A (.ak i)))))) (M.upd A (.nt i) d) (S.setA i { S.askers i with ballot:=some b,fresh:=f,noted:=[] }):=by
 have nd:∀ s,zeQ S s->A s≠d:=λs hs e=>by have:=R.at' s hs; rw[e,hd]at this; cases this
 have ua:∀ t,t≠.nt i->M.upd A (.nt i) d t=A t:=λt h=>by rw[zfw,if_neg h]
 have uo:M.upd A (.nt i) d (.nt i)=d:=by rw[zfw,if_pos rfl]
 constructor
 ·refine⟨λs hs=>?_,λs t hs ht e=>?_⟩
  ·have hs':zeQ S s:=hs;by_cases e1:s=.nt i
   ·subst e1;rw[uo,zab (Ne.symm (nd (.as i) hi)),zaa];simp[obj,P.R.setA,M.upd,zdR]
   ·rw[ua s e1];by_cases e2:s=.as i
    ·subst e2;rw[zaa];simp[obj,P.R.setA,M.upd,oI]
    ·rw[zab (R.ne hs' (t:=.as i) hi e2),zab (nd s hs'),R.at' s hs'];cases s with
     | as j =>
      have hj:j≠i:=λz=>e2 (by rw[z]);simp[obj,P.R.setA,M.upd,hj]
     | nt j =>
      have hj:j≠i:=λz=>e1 (by rw[z]);simp[obj,P.R.setA,M.upd,hj]
     | ak j=>by_cases hj:j=i<;>simp[obj,P.R.setA,M.upd,hj]
     | _=>simp[obj,P.R.setA,M.upd]
  ·have hs':zeQ S s:=hs;have ht':zeQ S t:=ht;by_cases e1:s=.nt i<;>by_cases e2:t=.nt i
   ·rw[e1,e2]
   ·subst e1; rw[uo,ua t e2]at e; exact absurd e.symm (nd t ht')
   ·subst e2; rw[uo,ua s e1]at e; exact absurd e (nd s hs')
   ·rw[ua s e1,ua t e2]at e; exact R.inj s t hs' ht' e
 ·intro a o h e;refine⟨?_,?_⟩
  ·rw[zab (λz=>h ⟨.as i,hi,z.symm⟩),zab (neG e hd)]; exact e
  ·rintro⟨s,hs,e'⟩;by_cases e1:s=.nt i
   ·subst e1; rw[uo]at e'; subst e'; rw[hd]at e; cases e
   ·rw[ua s e1]at e'; exact h ⟨s,hs,e'⟩
end
theorem zeo{f:T->Option PyData}(hf:∀ t d,f t=some d->PyData.eqv d d=true):∀ {ts:List T} {ds:List PyData},zdJ f ts=some ds->PyData.eqvAll ds ds=true
 | [],ds,h=>by cases h; rfl
 | t::r,ds,h=>by
  simp only[zdJ]at h
  split at h
  ·rename_i d ds' e1 e2
   cases h
   have h1:=hf t d e1
   have h2:=zeo hf e2
   show(PyData.eqv d d&&PyData.eqvAll ds' ds')=true
   rw[h1,h2]; rfl
  ·cases h
theorem zjF{G:Gp}:∀ (n:Nat) (t:T) (d:PyData),toD G n t=some d->PyData.eqv d d=true:=by
 intro n;induction n with
 | zero =>
  intro t d h;cases t<;>simp only[toD]at h<;>first | (cases h; done) | (cases h; simp[PyData.eqv]; done) | skip
  split at h
  ·cases h; simp[PyData.eqv]
  ·cases h
 | succ n ih =>
  intro t d h;cases t with
  | tup ts =>
   simp only[toD,Option.map_eq_some_iff]at h;obtain⟨ds,e,rfl⟩:=h;exact zeo (f:=toD G n) (λt d=>ih t d) e
  | fro ts =>
   simp only[toD,Option.map_eq_some_iff]at h;obtain⟨ds,e,rfl⟩:=h;exact zeo (f:=toD G n) (λt d=>ih t d) e
  | ref p =>
   simp only[toD]at h;split at h
   ·simp only[Option.map_eq_some_iff]at h;obtain⟨ds,e,rfl⟩:=h;exact zeo (f:=toD G n) (λt d=>ih t d) e
   ·cases h
  | str x =>
   simp only[toD]at h;split at h
   ·cases h; simp[PyData.eqv]
   ·cases h
  | _=>simp only[toD]at h; cases h<;>simp[PyData.eqv]
noncomputable def oD:Option Int->PyData
 | none=>.none
 | some i=>.int i
noncomputable def oPD:Option (Int×Int)->PyData
 | none=>.none
 | some q=>.tuple [.int q.1,.int q.2]
noncomputable def zj3:M.Let->PyData
 | .prepare b=>.tuple [.str "prepare",.int b]
 | .promise b v l=>.tuple [.str "promise",.int b,.int v,oPD l]
 | .ask b w=>.tuple [.str "ask",.int b,.int w]
 | .vote b v w=>.tuple [.str "vote",.int b,.int v,.int w]
theorem zjG(G:Gp)(n:Nat)(o:Option Int):toD G n (oI o)=some (oD o):=by cases o<;>simp[oI,oD,toD]
theorem zod(G:Gp)(n:Nat)(o:Option (Int×Int)):toD G (n+1) (oP o)=some (oPD o):=by cases o<;>simp[oP,oPD,toD,zdJ]
theorem zdq(G:Gp)(n:Nat)(x:M.Let):toD G (n+2) (zaK x)=some (zj3 x):=by
 cases x with
 | promise b v l=>simp[zaK,zj3,toD,zdJ,ok2,zod]
 | _=>simp[zaK,zj3,toD,zdJ,ok1,zgT,ok4]
theorem zdy{f:T->Option PyData}{α:Type}{g:α->T}{k:α->PyData}(h:∀ x,f (g x)=some (k x)):∀ (l:List α),zdJ f (l.map g)=some (l.map k)
 | []=>rfl
 | x::r=>by simp only[List.map_cons,zdJ,h,zdy h r]
theorem zct(G:Gp)(n:Nat)(L:List M.Let):toD G (n+3) (.tup (L.map zaK))=some (.tuple (L.map zj3)):=by
 simp only[toD];rw[zdy (g:=zaK) (k:=zj3) (λx=>zdq G n x) L];rfl
theorem zlk{G:Gp}{a:Addr}{α:Type}{g:α->T}{k:α->PyData}{l:List α}(n:Nat)(h:G a=some (.lst (l.map g)))(hk:∀ x,toD G n (g x)=some (k x)):toD G (n+1) (.ref a)=some (.list (l.map k)):=by
 simp only[toD,h];rw[zdy (g:=g) (k:=k) hk l];rfl
theorem zjb{G:Gp}{x y:T}{d:PyData}{Q:VK3}(h1:toD G 20 x=some d)(h2:toD G 20 y=some d)(q:Q (.bl false) G):wD (λa b=>!PyData.eqv a b) x y G Q:=by
 simp only[wD,h1,h2];rw[zjF 20 x d h1];exact q
noncomputable def zfu(x:M.Let)(v:Nat)(V:M.Voter):Option (M.Let×M.Voter):=match x with
 | .prepare b=>if M.lt? V.promised b then some (.promise b v V.voted,⟨some b,V.voted⟩)else none
 | .ask b w=>if M.le? V.promised b then some (.vote b v w,⟨some b,some (b,w)⟩)else none
 | _=>none
def ztb:M.Let->Prop
 | .prepare _=>True
 | .ask _ _=>True
 | _=>False
theorem zit{S:P.R}{x:M.Let}{v:Nat}(h:ztb x):S.hear x v=match zfu x v (S.voters v)with
  | some (y,V')=>(S.setV v V').write y
  | none=>S:=by
 cases x with
 | prepare b=>simp only[P.R.hear,zfu]; split<;>simp_all
 | ask b w=>simp only[P.R.hear,zfu]; split<;>simp_all
 | promise=>exact h.elim
 | vote=>exact h.elim
structure Fit(S:P.R):Prop where
 n0:0 < S.wishes.length
 ln:S.letters.length<=1000000
 ak:∀ i,(S.askers i).asked.length<=1000000
 nt:∀ i b,(S.askers i).ballot=some b->(S.askers i).noted.length < 60
section
variable {Z:Cz}{G G':Gp}{A A':Adr}{S S':P.R}
theorem RoomAt.setV(R:RoomAt Z G A S){v:Nat}(hv:v < S.many)(V':M.Voter):RoomAt Z (updG G (A (.vs v)) (.ins Z.V (fV (.int v) (oI V'.promised) (oP V'.voted)))) A (S.setV v V') /\
  Fr G A S (updG G (A (.vs v)) (.ins Z.V (fV (.int v) (oI V'.promised) (oP V'.voted)))) A (S.setV v V'):=by
 have e:obj Z (S.setV v V') A (.vs v)=.ins Z.V (fV (.int v) (oI V'.promised) (oP V'.voted)):=by simp[obj,P.R.setV,M.upd]
 rw[<- e];refine⟨R.put (s:=.vs v) hv (λt=>Iff.rfl) λt ht hn=>?_,Fr.put (s:=.vs v) hv λt=>Iff.rfl⟩;cases t with
 | vs j =>
  have hj:j≠v:=λz=>hn (by rw[z]);simp[obj,P.R.setV,M.upd,hj]
 | _=>rfl
theorem RoomAt.noted(R:RoomAt Z G A S){i:Nat}(hi:i < S.wishes.length)(l:List (Nat×Option (Int×Int))):RoomAt Z (updG G (A (.nt i)) (zdR l)) A (S.setA i { S.askers i with noted:=l }) /\
  Fr G A S (updG G (A (.nt i)) (zdR l)) A (S.setA i { S.askers i with noted:=l }):=by
 have e:obj Z (S.setA i { S.askers i with noted:=l }) A (.nt i)=zdR l:=by simp[obj,P.R.setA,M.upd]
 rw[<- e];refine⟨R.put (s:=.nt i) hi (λt=>Iff.rfl) λt ht hn=>?_,Fr.put (s:=.nt i) hi λt=>Iff.rfl⟩;cases t with
 | nt j =>
  have hj:j≠i:=λz=>hn (by rw[z]);simp[obj,P.R.setA,M.upd,hj]
 | as j=>by_cases hj:j=i<;>simp[obj,P.R.setA,M.upd,hj]
 | ak j=>by_cases hj:j=i<;>simp[obj,P.R.setA,M.upd,hj]
 | _=>rfl
theorem RoomAt.asked(R:RoomAt Z G A S){i:Nat}(hi:i < S.wishes.length)(l:List (Int×List Nat)):RoomAt Z (updG G (A (.ak i)) (akO l)) A (S.setA i { S.askers i with asked:=l }) /\
  Fr G A S (updG G (A (.ak i)) (akO l)) A (S.setA i { S.askers i with asked:=l }):=by
 have e:obj Z (S.setA i { S.askers i with asked:=l }) A (.ak i)=akO l:=by simp[obj,P.R.setA,M.upd]
 rw[<- e];refine⟨R.put (s:=.ak i) hi (λt=>Iff.rfl) λt ht hn=>?_,Fr.put (s:=.ak i) hi λt=>Iff.rfl⟩;cases t with
 | ak j =>
  have hj:j≠i:=λz=>hn (by rw[z]);simp[obj,P.R.setA,M.upd,hj]
 | as j=>by_cases hj:j=i<;>simp[obj,P.R.setA,M.upd,hj]
 | nt j=>by_cases hj:j=i<;>simp[obj,P.R.setA,M.upd,hj]
 | _=>rfl
end
theorem zlu{S:P.R}{i:Nat}{a b:P.As}:(S.setA i a).setA i b=S.setA i b:=by
 simp only[P.R.setA]
 congr 1
 funext j; unfold M.upd; split<;>rfl
theorem zoO{S:P.R}{i:Nat}{a:P.As}:(S.setA i a).askers i=a:=by simp[P.R.setA,M.upd]
theorem zje{κ κ' α:Type} [DecidableEq κ] [DecidableEq κ']{f:κ->κ'}(inj:∀ a b,f a=f b->a=b){g:α->T}(l:List (κ×α))(k:κ)(x:α) :
  zeI (l.map λp=>(f p.1,g p.2)) (f k) (g x)=(P.putL l k x).map λp=>(f p.1,g p.2):=by
 unfold zeI P.putL;have e1:((l.map λp=>(f p.1,g p.2)).any λkv=>decide (kv.1=f k))=l.any λkv=>decide (kv.1=k):=by
  rw[List.any_map]
  congr 1
  funext p
  exact decide_eq_decide.mpr ⟨λh=>inj _ _ h,λh=>congrArg f h⟩
 rw[e1];split
 ·rw[List.map_map,List.map_map];refine List.map_congr_left λp _=>?_;simp only[Function.comp];by_cases c:p.1=k
  ·rw[if_pos c,if_pos (by rw[c])]
  ·rw[if_neg c,if_neg (λh=>c (inj _ _ h))]
 ·simp
theorem zjf{κ κ' α:Type} [DecidableEq κ] [DecidableEq κ']{f:κ->κ'}(inj:∀ a b,f a=f b->a=b){g:α->T}(l:List (κ×α))(k:κ) :
  zcZ (l.map λp=>(f p.1,g p.2)) (f k)=(P.getL l k).map g:=by
 unfold zcZ P.getL;rw[List.find?_map];have e1:((λkv:κ'×T=>decide (kv.1=f k))∘λp:κ×α=>(f p.1,g p.2))=λkv=>decide (kv.1=k):=by
  funext p
  exact decide_eq_decide.mpr ⟨λh=>inj _ _ h,λh=>congrArg f h⟩
 rw[e1];cases l.find? λkv=>decide (kv.1=k)<;>rfl
theorem ztI(a b:Nat)(h:(Sum.inl (a:Int):Key)=Sum.inl (b:Int)):a=b:=by injection h with h; lia
theorem zta(a b:Int)(h:(Sum.inl a:Key)=Sum.inl b):a=b:=by injection h
noncomputable abbrev vsT(vs:List Nat):T:=T.tup (vs.map λ(v:Nat)=>T.int v)
theorem zpo(l:List (Nat×Option (Int×Int)))(v:Nat)(x:Option (Int×Int)):GO.dK (zeI (l.map λp=>(Sum.inl (p.1:Int),oP p.2)) (Sum.inl (v:Int)) (oP x))=zdR (P.putL l v x):=by
 unfold zdR; rw[zje (f:=λ(n:Nat)=>(Sum.inl (n:Int):Key)) ztI (g:=oP)]
theorem zrP(l:List (Int×List Nat))(b:Int)(x:List Nat):GO.dK (zeI (l.map λp=>(Sum.inl p.1,T.tup (p.2.map λ(v:Nat)=>T.int v))) (Sum.inl b) (vsT x))=akO (P.putL l b x):=by
 unfold akO; rw[zje (f:=λ(n:Int)=>(Sum.inl n:Key)) zta (g:=vsT)]
section
variable {G:Gp}{q:Addr}
theorem zrQ{l:List (Int×List Nat)}(h:G q=some (akO l))(b:Int):zcq (.ref q) (.int b) G=some ((P.getL l b).map vsT):=by
 simp only[zcq,h,akO,zjx,zhG];rw[zjf (f:=λ(n:Int)=>(Sum.inl n:Key)) zta (g:=vsT)]
theorem zs3{l:List (Int×List Nat)}(h:G q=some (akO l))(x:T):zis x (.ref q) G=none:=by
 have:zaJ (.ref q) G=none:=by simp[zaJ,h,akO]
 simp[zis,this]
theorem zpn{l:List (Nat×Option (Int×Int))}{v:Nat}{x:Option (Int×Int)}{Q:Gp->Prop}(h:G q=some (zdR l))(hl:l.length<=1000000)(k:Q (updG G q (zdR (P.putL l v x)))):zkA (.ref q) (.int v) (oP x) G Q:=by
 simp only[zkA,h,zdR,zhG];refine⟨by simpa using hl,?_⟩;have e:=zpo l v x;unfold zdR at e k;rw[e]; exact k
theorem zrO{l:List (Int×List Nat)}{b:Int}{x:List Nat}{Q:Gp->Prop}(h:G q=some (akO l))(hl:l.length<=1000000)(k:Q (updG G q (akO (P.putL l b x)))):zkA (.ref q) (.int b) (vsT x) G Q:=by
 simp only[zkA,h,akO,zhG];refine⟨by simpa using hl,?_⟩;have e:=zrP l b x;unfold akO at e k;rw[e]; exact k
end
theorem zhP(x y:Str):PyData.eqv (.str x) (.str y)=decide (x=y):=by rw[show PyData.eqv (.str x) (.str y)=(x==y)from rfl]; exact Bool.beq_eq_decide_eq x y
theorem ztM(i:Int):PyData.eqv (.int i) .none=false:=rfl
theorem zrB(b:Int)(o:Option Int):PyData.eqv (.int b) (oD o)=decide (o=some b):=by
 cases o with
 | none=>simp[oD,ztM]
 | some i =>
  rw[oD,zn1];exact decide_eq_decide.mpr ⟨λh=>by rw[h],λh=>by injection h with h; exact h.symm⟩
theorem zoK(l:List Nat):zgt (l.map λ(v:Nat)=>(v:Int))=(P.sortN l).map λ(v:Nat)=>(v:Int):=by
 refine (zjL ?_ ?_).symm
 ·exact(List.mergeSort_perm _ _).map _
 ·rw[List.pairwise_map];have:=List.pairwise_mergeSort (le:=λa b:Nat=>decide (a<=b)) (λa b c=>by simp; lia) (λa b=>by simp; lia) l;exact this.imp λh=>by have:=of_decide_eq_true h; lia
theorem znB(l:List (Nat×Option (Int×Int))):ze9 ((l.map λp=>((Sum.inl (p.1:Int):Key),oP p.2)).map λkv=>kT kv.1)=some ((l.map (·.1)).map λ(v:Nat)=>(v:Int)):=by
 have:((l.map λp=>((Sum.inl (p.1:Int):Key),oP p.2)).map λkv=>kT kv.1)=((l.map (·.1)).map λ(v:Nat)=>(v:Int)).map T.int:=by
  rw[List.map_map,List.map_map,List.map_map]; rfl
 rw[this,zgX]
theorem zpu(l:List (Nat×Option (Int×Int))):((l.map λp=>oP p.2).filter λt=>!isN t)=(P.lasts l).map pT:=by
 induction l with
 | nil=>rfl
 | cons p r ih =>
  obtain⟨v,o⟩:=p;cases o with
  | none=>simpa [oP,isN,P.lasts] using ih
  | some q=>simpa [oP,isN,P.lasts,pT] using ih
theorem zm6{w:Int}{l:List (Nat×Option (Int×Int))}(h:P.lasts l=[]):P.wishToAsk w l=w:=by simp[P.wishToAsk,h]
theorem zk9{w:Int}{l:List (Nat×Option (Int×Int))}{x:Int×Int}{r:List (Int×Int)}(h:P.lasts l=x::r):P.wishToAsk w l=(bestL P.ltP x r).2:=by
 simp[P.wishToAsk,h,P.maxP,bestL]
theorem zjR{κ α:Type} [DecidableEq κ](l:List (κ×α))(k:κ)(x:α):(P.putL l k x).length<=l.length+1:=by
 unfold P.putL; split<;>simp
end Rm
namespace P
open M (Let)
noncomputable def code:Let->Nat×Int×Nat
 | .prepare b=>(0,b,0)
 | .promise b v _=>(1,b,v)
 | .ask b _=>(2,b,0)
 | .vote b v _=>(3,b,v)
noncomputable def znp:Let->Option Int
 | .prepare b=>some b
 | _=>none
noncomputable def zkZ(L:List Let):List Int:=L.filterMap znp
theorem zhD{L:List Let}{b:Int}:b∈zkZ L↔.prepare b∈L:=by
 unfold zkZ;rw[List.mem_filterMap];constructor
 ·rintro⟨x,h,e⟩;cases x<;>simp[znp]at e
  subst e; exact h
 ·intro h; exact⟨_,h,rfl⟩
theorem zf1{κ α:Type} [DecidableEq κ](l:List (κ×α))(k:κ)(x:α):(l.map (λkv=>if kv.1=k then (kv.1,x)else kv)).map (·.1)=l.map (·.1):=by
 rw[List.map_map];refine List.map_congr_left λp _=>?_;simp only[Function.comp]; split<;>rfl
theorem zeb{κ α:Type} [DecidableEq κ]{l:List (κ×α)}{k:κ}{x:α}{j:κ}:j∈(putL l k x).map (·.1)↔j=k∨j∈l.map (·.1):=by
 unfold putL;split
 ·rename_i h;rw[zf1];constructor
  ·exact .inr
  ·rintro (rfl | h')
   ·simp only[List.any_eq_true,decide_eq_true_eq]at h;obtain⟨kv,h1,h2⟩:=h;exact h2 ▸ List.mem_map_of_mem h1
   ·exact h'
 ·simp[or_comm]
theorem zeH{κ α:Type} [DecidableEq κ]{l:List (κ×α)}{k:κ}{x:α}(h:(l.map (·.1)).Nodup):((putL l k x).map (·.1)).Nodup:=by
 unfold putL;split
 ·rw[zf1]; exact h
 ·rename_i c;rw[List.map_append];refine List.nodup_append.mpr ⟨h,by simp,λa ha b hb e=>c ?_⟩;have:b=k:=by simpa using hb
  subst this; subst e;obtain⟨p,hp,e⟩:=List.mem_map.mp ha;simp only[List.any_eq_true,decide_eq_true_eq];exact⟨p,hp,e⟩
def ztV(S:R):Let->Prop
 | .prepare _=>True
 | .promise b v l=>v < S.many/\.prepare b∈S.letters/\(∃ p,(S.voters v).promised=some p/\b<=p)/\∀ l',.promise b v l'∈S.letters->l'=l
 | .ask b _=>.prepare b∈S.letters/\b∈(S.askers (M.own S.wishes.length b)).asked.map (·.1)/\∀ w',.ask b w'∉S.letters
 | .vote b v w=>v < S.many/\.ask b w∈S.letters
structure Good(S:R):Prop where
 n0:0 < S.wishes.length
 nodup:S.letters.Nodup
 prom:∀ b v l,.promise b v l∈S.letters->v < S.many/\.prepare b∈S.letters/\∃ p,(S.voters v).promised=some p/\b<=p
 promU:∀ b v l l',.promise b v l∈S.letters->.promise b v l'∈S.letters->l=l'
 vot:∀ b v w,.vote b v w∈S.letters->v < S.many/\.ask b w∈S.letters
 askP:∀ b w,.ask b w∈S.letters->.prepare b∈S.letters/\b∈(S.askers (M.own S.wishes.length b)).asked.map (·.1)
 askU:∀ b w w',.ask b w∈S.letters->.ask b w'∈S.letters->w=w'
 bl:∀ i b,(S.askers i).ballot=some b->.prepare b∈S.letters
 ak:∀ i b,b∈(S.askers i).asked.map (·.1)->.prepare b∈S.letters
 akU:∀ i,((S.askers i).asked.map (·.1)).Nodup
 nt:∀ i v,v∈(S.askers i).noted.map (·.1)->v < S.many
 ntU:∀ i,((S.askers i).noted.map (·.1)).Nodup
theorem Good.new{wishes:List Int}{many:Nat}(h:0 < wishes.length):Good (new wishes many):=by
 constructor<;>simp[P.new,h]
theorem Good.write{S:R}(g:Good S){x:Let}(f:ztV S x):Good (S.write x):=by
 have m:∀ {y},y∈S.letters->y∈M.write S.letters x:=λh=>M.mem_write.mpr (.inl h);refine⟨g.n0,M.nodup_write g.nodup,λb v l h=>?_,λb v l l' h h'=>?_,λb v w h=>?_,λb w h=>?_,λb w w' h h'=>?_,λi b h=>m (g.bl i b h),λi b h=>m (g.ak i b h),g.akU,g.nt,g.ntU⟩
 ·rcases M.mem_write.mp h with h | rfl
  ·have c:=g.prom b v l h; exact⟨c.1,m c.2.1,c.2.2⟩
  ·exact⟨f.1,m f.2.1,f.2.2.1⟩
 ·rcases M.mem_write.mp h with o | e<;>rcases M.mem_write.mp h' with o' | e'
  ·exact g.promU b v l l' o o'
  ·subst e'; exact f.2.2.2 l o
  ·subst e; exact(f.2.2.2 l' o').symm
  ·exact(Let.promise.inj (e.trans e'.symm)).2.2
 ·rcases M.mem_write.mp h with h | rfl
  ·have c:=g.vot b v w h; exact⟨c.1,m c.2⟩
  ·exact⟨f.1,m f.2⟩
 ·rcases M.mem_write.mp h with h | rfl
  ·have c:=g.askP b w h; exact⟨m c.1,c.2⟩
  ·exact⟨m f.1,f.2.1⟩
 ·rcases M.mem_write.mp h with o | e<;>rcases M.mem_write.mp h' with o' | e'
  ·exact g.askU b w w' o o'
  ·subst e'; exact absurd o (f.2.2 w)
  ·subst e; exact absurd o' (f.2.2 w')
  ·exact(Let.ask.inj (e.trans e'.symm)).2
theorem zfL{p:As->Prop}{f:Nat->As}{i:Nat}{a:As}(h:p a)(h':∀ j,p (f j))(j:Nat):p (M.upd f i a j):=by
 unfold M.upd; split
 ·exact h
 ·exact h' j
theorem Good.setA{S:R}(g:Good S){i:Nat}{a:As}(h1:∀ b,a.ballot=some b->.prepare b∈S.letters)(h2:∀ b,b∈(S.askers i).asked.map (·.1)->b∈a.asked.map (·.1))
  (h3:∀ b,b∈a.asked.map (·.1)->.prepare b∈S.letters) (h4:(a.asked.map (·.1)).Nodup) (h5:∀ v,v∈a.noted.map (·.1)->v < S.many) (h6:(a.noted.map (·.1)).Nodup):Good (S.setA i a):=by
 refine⟨g.n0,g.nodup,g.prom,g.promU,g.vot,λb w h=>⟨(g.askP b w h).1,?_⟩,g.askU,zfL (p:=λa=>∀ b,a.ballot=some b->Let.prepare b∈S.letters) h1 g.bl,
  zfL (p:=λa=>∀ b,b∈a.asked.map (·.1)->Let.prepare b∈S.letters) h3 g.ak,zfL (p:=λa=>(a.asked.map (·.1)).Nodup) h4 g.akU,
  zfL (p:=λa=>∀ v,v∈a.noted.map (·.1)->v < S.many) h5 g.nt,zfL (p:=λa=>(a.noted.map (·.1)).Nodup) h6 g.ntU⟩
 have c:=(g.askP b w h).2;show b∈(M.upd S.askers i a (M.own S.wishes.length b)).asked.map (·.1);unfold M.upd; split
 ·rename_i e; rw[e]at c; exact h2 b c
 ·exact c
theorem Good.setV{S:R}(g:Good S){v:Nat}{V:M.Voter}(h:∀ p,(S.voters v).promised=some p->∃ q,V.promised=some q/\p<=q):Good (S.setV v V):=by
 refine⟨g.n0,g.nodup,λb u l hl=>?_,g.promU,g.vot,g.askP,g.askU,g.bl,g.ak,g.akU,g.nt,g.ntU⟩;obtain⟨h1,h2,p,h3,h4⟩:=g.prom b u l hl;refine⟨h1,h2,?_⟩;show ∃ p,(M.upd S.voters v V u).promised=some p/\b<=p;unfold M.upd; split
 ·rename_i e; subst e;obtain⟨q,h5,h6⟩:=h p h3;exact⟨q,h5,Int.le_trans h4 h6⟩
 ·exact⟨p,h3,h4⟩
theorem Good.begin{S:R}(g:Good S)(i:Nat)(least:Int):Good (S.begin i least) :=
 (g.write (x:=.prepare ((S.askers i).due i S.wishes.length least)) trivial).setA (i:=i) (a:=(S.askers i).begin i S.wishes.length least)
  (λb h=>M.mem_write.mpr (.inr (by rw[<- Option.some.inj h]))) (λ_ h=>h) (λb h=>M.mem_write.mpr (.inl (g.ak i b h))) (g.akU i) (λ_ h=>by cases h) List.nodup_nil
theorem Good.fall{S:R}(g:Good S)(i:Nat):Good (S.fall i) :=
 g.setA (λ_ h=>by cases h) (λ_ h=>h) (g.ak i) (g.akU i) (g.nt i) (g.ntU i)
theorem Good.note{S:R}(g:Good S){b:Int}{v:Nat}{l:Option (Int×Int)}(hv:v < S.many):Good (S.note b v l):=by
 unfold R.note;simp only;split
 ·rename_i c;have hp:=g.bl _ b c.1;have n1:∀ u,u∈(putL (S.askers (M.own S.wishes.length b)).noted v l).map (·.1)->u < S.many:=λu h=>by
   rcases zeb.mp h with rfl | h
   ·exact hv
   ·exact g.nt _ u h
  have n2:=zeH (k:=v) (x:=l) (g.ntU (M.own S.wishes.length b));split
  ·refine Good.write ?_ ?_
   ·refine Good.setA g (g.bl _) (λd h=>zeb.mpr (.inr h)) (λd h=>?_) (zeH (g.akU _)) n1 n2;rcases zeb.mp h with rfl | h
    ·exact hp
    ·exact g.ak _ d h
   ·refine⟨hp,?_,λw' h=>ziv.mp c.2 (g.askP b w' h).2⟩;show b∈(M.upd S.askers _ _ (M.own S.wishes.length b)).asked.map (·.1);unfold M.upd; rw[if_pos rfl]; exact zeb.mpr (.inl rfl)
  ·exact g.setA (g.bl _) (λ_ h=>h) (g.ak _) (g.akU _) n1 n2
 ·exact g
theorem Good.hear{S:R}(g:Good S){x:Let}{v:Nat}(hx:x∈S.letters)(hv:v < S.many):Good (S.hear x v):=by
 cases x with
 | promise b u l=>exact g.note (g.prom b u l hx).1
 | vote b u w=>exact g
 | prepare b =>
  simp only[R.hear]; split
  ·rename_i c;have lt:∀ p,(S.voters v).promised=some p->p < b:=λp e=>by rw[e]at c; exact of_decide_eq_true c
   refine (g.setV λp e=>⟨b,rfl,Int.le_of_lt (lt p e)⟩).write ⟨hv,hx,⟨b,?_,Int.le_refl b⟩,λl' h=>?_⟩
   ·show(M.upd S.voters v _ v).promised=some b;unfold M.upd; rw[if_pos rfl]
   ·obtain⟨_,_,p,h1,h2⟩:=g.prom b v l' h;exact absurd (lt p h1) (Int.not_lt.mpr h2)
  ·exact g
 | ask b w =>
  simp only[R.hear]; split
  ·rename_i c;exact(g.setV λp e=>⟨b,rfl,by rw[e]at c; exact of_decide_eq_true c⟩).write ⟨hv,hx⟩
  ·exact g
theorem code_nodup{S:R}(g:Good S):(S.letters.map code).Nodup:=by
 unfold List.Nodup;rw[List.pairwise_map];refine List.Pairwise.imp_of_mem ?_ g.nodup;intro x y hx hy ne e;apply ne;cases x<;>cases y<;>simp[code]at e
 ·rw[e]
 ·obtain⟨rfl,rfl⟩:=e;rw[g.promU _ _ _ _ hx hy]
 ·subst e;rw[g.askU _ _ _ hx hy]
 ·obtain⟨rfl,rfl⟩:=e;rw[g.askU _ _ _ (g.vot _ _ _ hx).2 (g.vot _ _ _ hy).2]
noncomputable def zkV(m:Nat)(bs:List Int):List (Nat×Int×Nat):=bs.flatMap λb=>(0,b,0)::(2,b,0)::((List.range m).map (λv=>(1,b,v))++(List.range m).map λv=>(3,b,v))
theorem zmL(m:Nat)(bs:List Int):(zkV m bs).length=bs.length * (2+2 * m):=by
 induction bs with
 | nil=>simp[zkV]
 | cons b r ih =>
  unfold zkV at ih ⊢;rw[List.flatMap_cons,List.length_append,ih];simp[Nat.add_mul];lia
theorem zn4{S:R}(g:Good S){x:Let}(h:x∈S.letters):code x∈zkV S.many (zkZ S.letters):=by
 have key:∀ b,.prepare b∈S.letters->∀ c,c∈((0,b,0)::(2,b,0)::((List.range S.many).map (λv=>(1,b,v))++(List.range S.many).map λv=>(3,b,v)):List (Nat×Int×Nat))->c∈zkV S.many (zkZ S.letters) :=
  λb hb c hc=>List.mem_flatMap.mpr ⟨b,zhD.mpr hb,hc⟩
 cases x with
 | prepare b=>exact key b h _ (by simp[code])
 | promise b v l=>have:=g.prom b v l h; exact key b this.2.1 _ (by simp[code,this.1])
 | ask b w=>exact key b (g.askP b w h).1 _ (by simp[code])
 | vote b v w=>have:=g.vot b v w h; exact key b (g.askP b w this.2).1 _ (by simp[code,this.1])
structure Ok(n:Nat)(S:R):Prop where
 good:Good S
 m:S.many<=7
 pr:(zkZ S.letters).length<=n
theorem Ok.new{wishes:List Int}{many:Nat}(h:0 < wishes.length)(hm:many<=7):Ok 0 (new wishes many):=⟨Good.new h,hm,nLr 0⟩
theorem Ok.mono{n m:Nat}{S:R}(h:Ok n S)(hm:n<=m):Ok m S:=⟨h.good,h.m,Nat.le_trans h.pr hm⟩
theorem Ok.ln{n:Nat}{S:R}(h:Ok n S):S.letters.length<=n * 16:=by
 have h1:=M.length_of_nodup (code_nodup h.good) (r:=zkV S.many (zkZ S.letters)) λc hc=>by
  obtain⟨x,hx,rfl⟩:=List.mem_map.mp hc;exact zn4 h.good hx
 rw[zmL,List.length_map]at h1;have h2:=h.m;exact Nat.le_trans h1 (Nat.mul_le_mul h.pr (by lia))
theorem Ok.ak{n:Nat}{S:R}(h:Ok n S)(i:Nat):(S.askers i).asked.length<=n * 16:=by
 have:=M.length_of_nodup (h.good.akU i) (r:=zkZ S.letters) λb hb=>zhD.mpr (h.good.ak i b hb);rw[List.length_map]at this;have:=h.pr;lia
theorem Ok.nt{n:Nat}{S:R}(h:Ok n S){i:Nat}{b:Int}(_:(S.askers i).ballot=some b):(S.askers i).noted.length<=7:=by
 have:=M.length_of_nodup (h.good.ntU i) (r:=List.range S.many) λv hv=>List.mem_range.mpr (h.good.nt i v hv);rw[List.length_map,List.length_range]at this;exact Nat.le_trans this h.m
theorem zdx{L:List Let}{x:Let}:(zkZ (M.write L x)).length<=(zkZ L).length+(if (znp x).isSome then 1 else 0):=by
 unfold M.write;split
 ·lia
 ·unfold zkZ;rw[List.filterMap_append,List.length_append];cases x<;>simp[znp,List.filterMap]
structure Grow(S S':R):Prop where
 w:S'.wishes=S.wishes
 m:S'.many=S.many
 l:S.letters <+: S'.letters
theorem Grow.refl(S:R):Grow S S:=⟨rfl,rfl,List.prefix_refl _⟩
theorem Grow.trans{S S' S'':R}(a:Grow S S')(b:Grow S' S''):Grow S S'':=⟨b.w.trans a.w,b.m.trans a.m,a.l.trans b.l⟩
theorem zec(L:List Let)(x:Let):L <+: M.write L x:=by
 unfold M.write; split
 ·exact List.prefix_refl _
 ·exact List.prefix_append _ _
theorem Grow.begin(S:R)(i:Nat)(l:Int):Grow S (S.begin i l):=⟨rfl,rfl,zec _ _⟩
theorem Grow.fall(S:R)(i:Nat):Grow S (S.fall i):=⟨rfl,rfl,List.prefix_refl _⟩
theorem Grow.note(S:R)(b:Int)(v:Nat)(l:Option (Int×Int)):Grow S (S.note b v l):=by
 unfold R.note;simp only;split
 ·split
  ·exact⟨rfl,rfl,zec _ _⟩
  ·exact⟨rfl,rfl,List.prefix_refl _⟩
 ·exact Grow.refl S
theorem Grow.hear(S:R)(x:Let)(v:Nat):Grow S (S.hear x v):=by
 cases x with
 | promise b u l=>exact Grow.note S b u l
 | vote b u w=>exact Grow.refl S
 | prepare b =>
  simp only[R.hear]; split
  ·exact⟨rfl,rfl,zec _ _⟩
  ·exact Grow.refl S
 | ask b w =>
  simp only[R.hear]; split
  ·exact⟨rfl,rfl,zec _ _⟩
  ·exact Grow.refl S
theorem Grow.bring(S:R)(k v:Nat):Grow S (S.bring k v):=by
 unfold R.bring; split
 ·exact Grow.hear S _ v
 ·exact Grow.refl S
theorem zmV(S:R)(x:Let)(v:Nat):(zkZ (S.hear x v).letters).length<=(zkZ S.letters).length:=by
 cases x with
 | promise b u l =>
  simp only[R.hear,R.note];split
  ·split
   ·exact zdx
   ·exact nLr _
  ·exact nLr _
 | vote b u w=>exact nLr _
 | prepare b =>
  simp only[R.hear]; split
  ·exact zdx
  ·exact nLr _
 | ask b w =>
  simp only[R.hear]; split
  ·exact zdx
  ·exact nLr _
theorem Ok.hear{n:Nat}{S:R}(h:Ok n S){x:Let}{v:Nat}(hx:x∈S.letters)(hv:v < S.many):Ok n (S.hear x v) :=
 ⟨h.good.hear hx hv,by rw[(Grow.hear S x v).m]; exact h.m,Nat.le_trans (zmV S x v) h.pr⟩
theorem Ok.bring{n:Nat}{S:R}(h:Ok n S)(k:Nat){v:Nat}(hv:v < S.many):Ok n (S.bring k v):=by
 unfold R.bring; split
 ·rename_i e; exact h.hear (List.mem_of_getElem? e) hv
 ·exact h
theorem Ok.begin{n:Nat}{S:R}(h:Ok n S){i:Nat}{l:Int}(_:i < S.wishes.length)(_:0<=l):Ok (n+1) (S.begin i l) :=
 ⟨h.good.begin i l,h.m,Nat.le_trans zdx (Nat.succ_le_succ h.pr)⟩
theorem Ok.fall{n:Nat}{S:R}(h:Ok n S)(i:Nat):Ok n (S.fall i):=⟨h.good.fall i,h.m,h.pr⟩
noncomputable def zdL(b w:Int):Let->Option Nat
 | .vote b' v w'=>if b'=b/\w'=w then some v else none
 | _=>none
noncomputable def voted(L:List Let)(b w:Int):List Nat:=L.filterMap (zdL b w)
theorem zl1{L:List Let}{b w:Int}{v:Nat}:v∈voted L b w↔.vote b v w∈L:=by
 unfold voted;rw[List.mem_filterMap];constructor
 ·rintro⟨x,h,e⟩;cases x<;>simp[zdL]at e
  obtain⟨⟨rfl,rfl⟩,rfl⟩:=e; exact h
 ·intro h; exact⟨_,h,by simp[zdL]⟩
def zkp(S:R)(b w:Int):Prop:=S.many < 2 * (voted S.letters b w).length
noncomputable def tally(l:List ((Int×Int)×Int)):Let->List ((Int×Int)×Int)
 | .vote b _ w=>putL l (b,w) ((getL l (b,w)).getD 0+1)
 | _=>l
noncomputable def counts(L:List Let):List ((Int×Int)×Int):=L.foldl tally []
theorem znX{κ α:Type} [DecidableEq κ]{l:List (κ×α)}{k j:κ}{x:α}:getL (putL l k x) j=if j=k then some x else getL l j:=by
 by_cases c:(l.any λkv=>decide (kv.1=k))=true
 ·unfold putL;rw[if_pos c];revert c;induction l with
  | nil=>intro hc; simp at hc
  | cons p r ih =>
   intro hc;unfold getL at ih ⊢;rw[List.map_cons,List.find?_cons,List.find?_cons];by_cases e:p.1=k
   ·rw[if_pos e];simp only;by_cases e2:j=k
    ·subst e2; simp[e]
    ·have e3:¬ p.1=j:=λz=>e2 (z.symm.trans e);simp only[e3,decide_false,e2,if_false];by_cases hr:(r.any λkv=>decide (kv.1=k))=true
     ·have:=ih hr;rw[if_neg e2]at this;exact this
     ·have:r.map (λkv=>if kv.1=k then (kv.1,x)else kv)=r:=zl2 (λz=>hr (by
       obtain⟨p,hp,e⟩:=List.mem_map.mp z;simp only[List.any_eq_true,decide_eq_true_eq];exact⟨p,hp,e⟩))
      rw[this]
   ·rw[if_neg e];have hr:(r.any λkv=>decide (kv.1=k))=true:=by simpa [e] using hc
    by_cases e2:p.1=j
    ·have e3:¬ j=k:=λz=>e (e2.trans z);simp[e2,e3]
    ·simp only[e2,decide_false];exact ih hr
 ·have hk:k∉l.map (·.1):=λz=>c (by
   obtain⟨p,hp,e⟩:=List.mem_map.mp z;simp only[List.any_eq_true,decide_eq_true_eq];exact⟨p,hp,e⟩)
  rw[znl hk,znY hk]
theorem zbO:∀ (L:List Let) (l:List ((Int×Int)×Int)) (c:Int×Int->Nat),(l.map (·.1)).Nodup->(∀ q,getL l q=if c q=0 then none else some (c q:Int)) ->
  ((L.foldl tally l).map (·.1)).Nodup/\∀ q,getL (L.foldl tally l) q=if c q+(voted L q.1 q.2).length=0 then none else some ((c q+(voted L q.1 q.2).length:Nat):Int)
 | [],l,c,nd,h=>⟨nd,λq=>by rw[List.foldl_nil,h q]; by_cases z:c q=0<;>simp[voted,z]⟩
 | x::r,l,c,nd,h=>by
  rw[List.foldl_cons]
  have nov:∀ b w,zdL b w x=none->voted (x::r) b w=voted r b w:=λb w e=>by simp[voted,e]
  have yes:∀ b w v,zdL b w x=some v->(voted (x::r) b w).length=(voted r b w).length+1:=λb w v e=>by simp[voted,e]
  cases x with
  | vote b v w =>
   have ih:=zbO r (tally l (.vote b v w)) (λq=>if q=(b,w)then c q+1 else c q) (zeH nd) λq=>by
    simp only[tally]
    rw[znX]
    by_cases e:q=(b,w)
    ·subst e
     simp only[if_true]
     rw[h]
     split
     ·rename_i z; simp[z]
     ·simp
    ·rw[if_neg e,if_neg e]; exact h q
   refine⟨ih.1,λq=>?_⟩
   rw[ih.2 q]
   by_cases e:q=(b,w)
   ·subst e
    rw[yes b w v (by simp[zdL])]
    simp only[if_true]
    have:c (b,w)+1+(voted r b w).length=c (b,w)+((voted r b w).length+1):=by lia
    rw[this]
   ·rw[nov q.1 q.2 (by
     simp only[zdL]
     rw[if_neg]
     rintro⟨h1,h2⟩
     exact e (by rw[h1,h2]))]
    rw[if_neg e]
  | prepare b =>
   have ih:=zbO r l c nd h
   refine⟨ih.1,λq=>?_⟩
   rw[nov q.1 q.2 rfl]; exact ih.2 q
  | promise b v l' =>
   have ih:=zbO r l c nd h
   refine⟨ih.1,λq=>?_⟩
   rw[nov q.1 q.2 rfl]; exact ih.2 q
  | ask b w =>
   have ih:=zbO r l c nd h
   refine⟨ih.1,λq=>?_⟩
   rw[nov q.1 q.2 rfl]; exact ih.2 q
theorem counts_nodup(L:List Let):((counts L).map (·.1)).Nodup:=(zbO L [] (λ_=>0) (by simp) (by simp[getL])).1
theorem zg1(L:List Let)(q:Int×Int):getL (counts L) q=if (voted L q.1 q.2).length=0 then none else some ((voted L q.1 q.2).length:Int):=by
 have:=(zbO L [] (λ_=>0) (by simp) (by simp[getL])).2 q;simpa [counts] using this
theorem getL_mem{κ α:Type} [DecidableEq κ]:∀ {l:List (κ×α)} {k:κ} {x:α},(l.map (·.1)).Nodup->(k,x)∈l->getL l k=some x
 | (j,y)::r,k,x,nd,h=>by
  simp only[List.map_cons,List.nodup_cons]at nd
  unfold getL
  rw[List.find?_cons]
  rcases List.mem_cons.mp h with e | e
  ·cases e; simp
  ·have:¬ j=k:=λz=>nd.1 (z ▸ List.mem_map_of_mem e)
   simp only[this,decide_false]
   exact getL_mem nd.2 e
noncomputable def won(L:List Let)(m:Nat):List (Int×Int):=((counts L).filter λp=>decide ((m:Int) < 2 * p.2)).map (·.1)
theorem won_nodup(L:List Let)(m:Nat):(won L m).Nodup:=by
 unfold won;have h:=counts_nodup L;exact h.sublist (List.filter_sublist.map _)
theorem zl0{S:R}{q:Int×Int}:q∈won S.letters S.many↔zkp S q.1 q.2:=by
 unfold won zkp;constructor
 ·intro h;obtain⟨p,hp,rfl⟩:=List.mem_map.mp h;obtain⟨h1,h2⟩:=List.mem_filter.mp hp;have:=getL_mem (counts_nodup _) (show(p.1,p.2)∈counts S.letters from h1);rw[zg1]at this;split at this
  ·cases this
  ·simp only[Option.some.injEq]at this;simp only[decide_eq_true_eq]at h2;lia
 ·intro h;have h1:=zg1 S.letters q;rw[if_neg (by lia)]at h1;unfold getL at h1;rw[Option.map_eq_some_iff]at h1;obtain⟨p,hp,e⟩:=h1;have hk:=List.find?_some hp;simp only[decide_eq_true_eq]at hk;refine List.mem_map.mpr ⟨p,List.mem_filter.mpr ⟨List.mem_of_find?_eq_some hp,?_⟩,hk⟩;rw[e];simp only[decide_eq_true_eq];lia
theorem Good.chosen{S:R}(g:Good S){b w:Int}(h:zkp S b w):.ask b w∈S.letters:=by
 unfold zkp at h;cases e:voted S.letters b w with
 | nil=>rw[e]at h; cases h
 | cons v r=>exact(g.vot b v w (zl1.mp (e ▸ List.mem_cons_self))).2
theorem won_few{n:Nat}{S:R}(h:Ok n S):(won S.letters S.many).length<=n:=by
 refine Nat.le_trans ?_ h.pr;have hk:∀ q,q∈won S.letters S.many->.ask q.1 q.2∈S.letters:=λq hq=>h.good.chosen (zl0.mp hq);have h1:((won S.letters S.many).map (·.1)).Nodup:=by
  unfold List.Nodup;rw[List.pairwise_map];refine List.Pairwise.imp_of_mem ?_ (won_nodup S.letters S.many);intro x y hx hy ne e;refine ne (Prod.ext e ?_);exact h.good.askU x.1 _ _ (hk x hx) (by rw[e]; exact hk y hy)
 have:=M.length_of_nodup h1 (r:=zkZ S.letters) λb hb=>by
  obtain⟨q,hq,rfl⟩:=List.mem_map.mp hb;exact zhD.mpr (h.good.askP _ _ (hk q hq)).1
 simpa using this
theorem zdp{L L':List Let}(h:L.Perm L')(x:Let):(M.write L x).Perm (M.write L' x):=by
 unfold M.write;by_cases c:x∈L
 ·rw[if_pos c,if_pos (h.mem_iff.mp c)]; exact h
 ·rw[if_neg c,if_neg (λz=>c (h.mem_iff.mpr z))]; exact h.append_right _
theorem zkr(L:List Let)(x y:Let):(M.write (M.write L x) y).Perm (M.write (M.write L y) x):=by
 by_cases hx:x∈L
 ·rw[show M.write L x=L from if_pos hx,show M.write (M.write L y) x=M.write L y from if_pos (M.mem_write.mpr (.inl hx))]
 ·by_cases hy:y∈L
  ·rw[show M.write L y=L from if_pos hy,show M.write (M.write L x) y=M.write L x from if_pos (M.mem_write.mpr (.inl hy))]
  ·by_cases e:x=y
   ·rw[e]
   ·have e1:M.write L x=L++[x]:=if_neg hx;have e2:M.write L y=L++[y]:=if_neg hy;rw[e1,e2];have e3:M.write (L++[x]) y=L++[x]++[y]:=if_neg (by simp[hy]; exact λz=>e z.symm);have e4:M.write (L++[y]) x=L++[y]++[x]:=if_neg (by simp[hx]; exact e);rw[e3,e4,List.append_assoc,List.append_assoc];exact List.Perm.append_left _ (List.Perm.swap ..)
structure Al(S S':R):Prop where
 w:S'.wishes=S.wishes
 m:S'.many=S.many
 a:S'.askers=S.askers
 v:S'.voters=S.voters
 l:S.letters.Perm S'.letters
theorem Al.refl(S:R):Al S S:=⟨rfl,rfl,rfl,rfl,List.Perm.refl _⟩
theorem Al.trans{S S' S'':R}(h:Al S S')(k:Al S' S''):Al S S'':=⟨k.w.trans h.w,k.m.trans h.m,k.a.trans h.a,k.v.trans h.v,h.l.trans k.l⟩
theorem Al.eta{S S':R}(h:Al S S'):S'=⟨S.wishes,S.many,S'.letters,S.askers,S.voters⟩:=by
 cases S'; cases S; obtain⟨rfl,rfl,rfl,rfl,_⟩:=h; rfl
theorem Al.begin{S S':R}(h:Al S S')(i:Nat)(l:Int):Al (S.begin i l) (S'.begin i l):=by
 rw[h.eta];exact⟨rfl,rfl,rfl,rfl,zdp h.l _⟩
theorem Al.note{S S':R}(h:Al S S')(b:Int)(v:Nat)(l:Option (Int×Int)):Al (S.note b v l) (S'.note b v l):=by
 rw[h.eta];unfold R.note;simp only;split
 ·split
  ·exact⟨rfl,rfl,rfl,rfl,zdp h.l _⟩
  ·exact⟨rfl,rfl,rfl,rfl,h.l⟩
 ·exact⟨rfl,rfl,rfl,rfl,h.l⟩
theorem Al.hear{S S':R}(h:Al S S')(x:Let)(v:Nat):Al (S.hear x v) (S'.hear x v):=by
 cases x with
 | prepare b =>
  rw[h.eta]; simp only[R.hear];split
  ·exact⟨rfl,rfl,rfl,rfl,zdp h.l _⟩
  ·exact⟨rfl,rfl,rfl,rfl,h.l⟩
 | ask b w =>
  rw[h.eta]; simp only[R.hear];split
  ·exact⟨rfl,rfl,rfl,rfl,zdp h.l _⟩
  ·exact⟨rfl,rfl,rfl,rfl,h.l⟩
 | promise b u l=>exact h.note b u l
 | vote b u w=>exact h
def toV:Let->Prop
 | .prepare _=>True
 | .ask _ _=>True
 | _=>False
noncomputable def zp5(x:Let)(v:Nat)(V:M.Voter):Option (M.Voter×Let):=match x with
 | .prepare b=>if M.lt? V.promised b then some (⟨some b,V.voted⟩,.promise b v V.voted)else none
 | .ask b w=>if M.le? V.promised b then some (⟨some b,some (b,w)⟩,.vote b v w)else none
 | _=>none
theorem zco{x:Let}(hx:toV x)(S:R)(v:Nat):S.hear x v=match zp5 x v (S.voters v)with | some q=>(S.setV v q.1).write q.2 | none=>S:=by
 cases x with
 | prepare b=>simp only[R.hear,zp5]; split<;>rfl
 | ask b w=>simp only[R.hear,zp5]; split<;>rfl
 | promise b u l=>exact hx.elim
 | vote b u w=>exact hx.elim
theorem zm7{β:Type}(f:Nat->β){u v:Nat}(h:u≠v)(x y:β):M.upd (M.upd f u x) v y=M.upd (M.upd f v y) u x:=by
 funext j
 unfold M.upd;by_cases a:j=u
 ·by_cases b:j=v
  ·exact absurd (a.symm.trans b) h
  ·simp only[if_pos a,if_neg b]
 ·simp only[if_neg a]
theorem zmo{x:Let}(hx:toV x)(S:R)(u v:Nat):Al ((S.hear x u).hear x v) ((S.hear x v).hear x u):=by
 by_cases e:u=v
 ·rw[e]; exact Al.refl _
 ·have hu:(S.hear x u).voters v=S.voters v:=by
   rw[zco hx]; split
   ·show M.upd S.voters u _ v=_; unfold M.upd; rw[if_neg (Ne.symm e)]
   ·rfl
  have hv:(S.hear x v).voters u=S.voters u:=by
   rw[zco hx]; split
   ·show M.upd S.voters v _ u=_; unfold M.upd; rw[if_neg e]
   ·rfl
  rw[zco hx (S.hear x u) v,hu,zco hx (S.hear x v) u,hv];rw[zco hx S u,zco hx S v];cases zp5 x u (S.voters u)with
  | none=>exact Al.refl _
  | some p=>cases zp5 x v (S.voters v)with
   | none=>exact Al.refl _
   | some q=>exact⟨rfl,rfl,rfl,(zm7 _ e _ _).symm,zkr _ _ _⟩
noncomputable def R.heard(S:R)(x:Let)(vs:List Nat):R:=vs.foldl (λS v=>S.hear x v) S
noncomputable def R.come(S:R)(xs:List Let)(vs:List Nat):R:=xs.foldl (λS x=>S.heard x vs) S
theorem Al.heard{x:Let}:∀ {vs:List Nat} {S S':R},Al S S'->Al (S.heard x vs) (S'.heard x vs)
 | [],_,_,h=>h
 | v::vs,_,_,h=>Al.heard (vs:=vs) (h.hear x v)
theorem Al.come{vs:List Nat}:∀ {xs:List Let} {S S':R},Al S S'->Al (S.come xs vs) (S'.come xs vs)
 | [],_,_,h=>h
 | x::xs,_,_,h=>Al.come (xs:=xs) (h.heard (x:=x) (vs:=vs))
theorem Al.comeX{vs:List Nat}{u v:Nat}:∀ {xs:List Let} {S S':R},(∀ x∈xs,toV x)->Al S S'->Al (S.come xs (vs++[u,v])) (S'.come xs (vs++[v,u]))
 | [],_,_,_,h=>h
 | x::xs,S,S',hx,h=>by
  have h1:=h.heard (x:=x) (vs:=vs)
  refine Al.comeX (xs:=xs) (S:=S.heard x (vs++[u,v])) (S':=S'.heard x (vs++[v,u])) (λy hy=>hx y (lMc _ hy)) ?_
  unfold R.heard
  rw[List.foldl_append,List.foldl_append]
  exact(h1.hear x u |>.hear x v).trans (zmo (hx x List.mem_cons_self) _ u v)
theorem Ok.hearL{n:Nat}{S:R}(h:Ok n S){x:Let}{v:Nat}(hx:x∈S.letters)(hv:v < S.many):Ok n (S.hear x v):=by
 obtain⟨k,hk,e⟩:=List.getElem_of_mem hx;have eb:S.bring k v=S.hear x v:=by unfold R.bring; rw[List.getElem?_eq_getElem hk,e]
 rw[<- eb]; exact h.bring k hv
theorem Ok.heardL{n:Nat}{x:Let}:∀ {vs:List Nat} {S:R},Ok n S->x∈S.letters->(∀ v∈vs,v < S.many)->Ok n (S.heard x vs)/\Grow S (S.heard x vs)
 | [],S,h,_,_=>⟨h,Grow.refl S⟩
 | v::vs,S,h,hx,hv=>by
  have g:=Grow.hear S x v
  obtain⟨a,b⟩:=Ok.heardL (vs:=vs) (h.hearL hx (hv v List.mem_cons_self)) (g.l.subset hx) (λu hu=>by rw[g.m]; exact hv u (List.mem_cons_of_mem _ hu))
  exact⟨a,g.trans b⟩
theorem Ok.comeL{n:Nat}{vs:List Nat}:∀ {xs:List Let} {S:R},Ok n S->(∀ x∈xs,x∈S.letters)->(∀ v∈vs,v < S.many)->Ok n (S.come xs vs)/\Grow S (S.come xs vs)
 | [],S,h,_,_=>⟨h,Grow.refl S⟩
 | x::xs,S,h,hx,hv=>by
  obtain⟨a,g⟩:=h.heardL (hx x List.mem_cons_self) hv
  obtain⟨c,d⟩:=Ok.comeL (xs:=xs) a (λy hy=>g.l.subset (hx y (List.mem_cons_of_mem _ hy))) (λu hu=>by rw[g.m]; exact hv u hu)
  exact⟨c,g.trans d⟩
theorem zks{L L':List Let}(h:L.Perm L')(b w:Int):(voted L b w).length=(voted L' b w).length:=(h.filterMap _).length_eq
theorem won_perm{L L':List Let}(h:L.Perm L')(m:Nat):(won L m).Perm (won L' m):=by
 have key:∀ (L:List Let) (q:Int×Int),q∈won L m↔m < 2 * (voted L q.1 q.2).length:=λL q=>zl0 (S:=⟨[],m,L,λ_=>⟨none,0,[],[]⟩,λ_=>⟨none,none⟩⟩);refine (List.perm_ext_iff_of_nodup (won_nodup L m) (won_nodup L' m)).mpr λq=>?_;rw[key,key,zks h]
end P
namespace Rm
open PySem L2 L3
theorem zba{g:TG3}{tb:TS3}{S:Gp->Prop}{D:Ends3}(J:List T->St3->Gp->Prop)(h0:∀ r τ G,J r τ G->S G)(h1:∀ τ G,J [] τ G->D.nx τ G)
  (h2:∀ (x:T) (r:List T) (τ:St3) (G:Gp) (N:St3->Gp->Prop),(∀ τ' G',J r τ' G'->N τ' G')->J (x::r) τ G->g x τ G λτ' G'=>tb { D with nx:=N,ct:=N,bk:=D.nx } τ' G') :
  ∀ (ts:List T) (τ:St3) (G:Gp),J ts τ G->zms g tb S ts D τ G
 | [],τ,G,j=>⟨h0 _ τ G j,h1 τ G j⟩
 | x::r,τ,G,j=>⟨h0 _ τ G j,h2 x r τ G _ (λτ' G' j'=>zba J h0 h1 h2 r τ' G' j') j⟩
theorem ziD{g:TG3}{tc:TT3}{te:TE3}{S:Gp->Prop}{τ:St3}{Q:List T->Gp->Prop}(J:List T->List T->Gp->Prop)(h0:∀ r acc G,J r acc G->S G)(h1:∀ acc G,J [] acc G->Q acc G)
  (h2:∀ (x:T) (r acc:List T) (G:Gp) (N:List T->Gp->Prop),(∀ acc' G',J r acc' G'->N acc' G')->J (x::r) acc G->g x τ G λτ2 G2=>tc τ2 G2 λb G3=>if b=true then te τ2 G3 λy G4=>N (acc++[y]) G4 else N acc G3) :
  ∀ (ts acc:List T) (G:Gp),J ts acc G->zeY g tc te S ts τ acc G Q
 | [],acc,G,j=>⟨h0 _ acc G j,h1 acc G j⟩
 | x::r,acc,G,j=>⟨h0 _ acc G j,h2 x r acc G (λa G'=>zeY g tc te S r τ a G' Q) (λa G' j'=>ziD J h0 h1 h2 r a G' j') j⟩
noncomputable def pK(q:Int×Int):LK:=[.at (.int q.1),.at (.int q.2)]
theorem zrk(q:Int×Int):lkT (pK q)=pT q:=rfl
theorem zf4(q:Int×Int):znL (pT q)=some (pK q):=by rw[<- zrk]; exact zj0 _
theorem zj6(q:Int×Int):zhG (pT q)=none:=rfl
theorem zfY(q:Int×Int):zhO (pK q)=true:=by simp[pK,zhO,A1.ok,A0.ok]
theorem zlR(a b:Int×Int)(h:pK a=pK b):a=b:=by
 simp[pK]at h;exact Prod.ext h.1 h.2
noncomputable def cO(l:List ((Int×Int)×Int)):GO:=match l with
 | []=>.dK []
 | x::r=>.dT ((x::r).map λp=>(pK p.1,T.int p.2))
theorem zrM{l:List ((Int×Int)×Int)}(h:l≠[]):cO l=.dT (l.map λp=>(pK p.1,T.int p.2)):=by
 cases l with
 | nil=>exact absurd rfl h
 | cons _ _=>rfl
theorem zo2{κ α:Type} [DecidableEq κ]{l:List (κ×α)}{k:κ}{x:α}:P.putL l k x≠[]:=by
 unfold P.putL;split
 ·intro z;rename_i h;rw[List.map_eq_nil_iff]at z;rw[z]at h;simp at h
 ·simp
section
variable {G:Gp}{d:Addr}{l:List ((Int×Int)×Int)}
theorem zsZ(h:G d=some (cO l))(q:Int×Int):zcq (.ref d) (pT q) G=some ((P.getL l q).map T.int):=by
 cases l with
 | nil=>simp[zcq,h,cO,zjx,zj6,zf4,zfY,P.getL]
 | cons y r =>
  simp only[zcq,h,cO,zjw,zf4,zfY,if_true];rw[zjf zlR (g:=T.int)]
theorem zsY{q:Int×Int}{x:Int}{Q:Gp->Prop}(h:G d=some (cO l))(hl:l.length<=1000000)(k:Q (updG G d (cO (P.putL l q x)))):zkA (.ref d) (pT q) (.int x) G Q:=by
 cases l with
 | nil =>
  simp only[zkA,h,cO,zj6,zf4];exact⟨zfY q,k⟩
 | cons y r =>
  simp only[zkA,h,cO,zf4];refine⟨zfY q,by simpa using hl,?_⟩;rw[zje zlR (g:=T.int)];rw[zrM zo2]at k;exact k
end
theorem okN{n:Nat}{S:P.R}(h:P.Ok n S)(hn:n<=1000):Fit S :=
 ⟨h.good.n0,by have:=h.ln; lia,λi=>by have:=h.ak i; lia,λi b hb=>by have:=h.nt hb; lia⟩
def kindOf:M.Let->Str
 | .prepare _=>"prepare"
 | .promise _ _ _=>"promise"
 | .ask _ _=>"ask"
 | .vote _ _ _=>"vote"
noncomputable def zji:M.Let->List T
 | .prepare b=>[.str "prepare",.int b]
 | .promise b v l=>[.str "promise",.int b,.int v,oP l]
 | .ask b w=>[.str "ask",.int b,.int w]
 | .vote b v w=>[.str "vote",.int b,.int v,.int w]
theorem zf5(x:M.Let):zaK x=.tup (zji x):=by cases x<;>rfl
theorem zpt(x:M.Let):(zji x)[0]?=some (.str (kindOf x)):=by cases x<;>rfl
theorem zmb(x:M.Let):(zji x)[1]?=some (.int x.bal):=by cases x<;>rfl
theorem ztd(x:M.Let):zkU (zji x) none (some 2)=[.str (kindOf x),.int x.bal]:=by cases x<;>rfl
theorem zlT(x:M.Let):PyData.strOk (kindOf x)=true:=by cases x<;>first | exact ok1 | exact ok2 | exact zgT | exact ok4
theorem zg0(L:List M.Let):(P.counts L).length<=L.length:=by
 have key:∀ (L:List M.Let) (l:List ((Int×Int)×Int)),(L.foldl P.tally l).length<=l.length+L.length:=by
  intro L;induction L with
  | nil=>intro l; simp
  | cons x r ih =>
   intro l;rw[List.foldl_cons];have h1:=ih (P.tally l x);have h2:(P.tally l x).length<=l.length+1:=by
    cases x with
    | vote b v w=>exact zjR _ _ _
    | _=>simp[P.tally]
   simp;lia
 have:=key L [];simpa [P.counts] using this
theorem zrL{G:Gp}{d:Addr}{ob:Obj}{l:List ((Int×Int)×Int)}(h:G d=some (.dG ob (l.map λp=>(pK p.1,T.int p.2))))(q:Int×Int):zcq (.ref d) (pT q) G=some ((P.getL l q).map T.int):=by
 simp only[zcq,h,zjw,zf4,zfY,if_true];rw[zjf zlR (g:=T.int)]
noncomputable def zoz(L:List M.Let)(m:Nat)(t:T):Bool:=match zlQ t with
 | some q=>decide ((m:Int) < 2 * (P.getL (P.counts L) q).getD 0)
 | none=>false
theorem zr5(L:List M.Let)(m:Nat):(((P.counts L).map λp=>pT p.1).filter (zoz L m))=(P.won L m).map pT:=by
 unfold P.won;have key:∀ l:List ((Int×Int)×Int),(∀ p∈l,P.getL (P.counts L) p.1=some p.2)->((l.map λp=>pT p.1).filter (zoz L m))=(((l.filter λp=>decide ((m:Int) < 2 * p.2)).map (·.1)).map pT):=by
  intro l;induction l with
  | nil=>intro _; rfl
  | cons p r ih =>
   intro h;have h1:=h p List.mem_cons_self;have e:zoz L m (pT p.1)=decide ((m:Int) < 2 * p.2):=by
    have:zlQ (pT p.1)=some p.1:=rfl;simp only[zoz,this,h1,Option.getD_some]
   have ih:=ih λx hx=>h x (lMc _ hx);rw[List.map_cons,List.filter_cons,List.filter_cons,e];split
   ·rw[ih]; rfl
   ·exact ih
 exact key _ λp hp=>P.getL_mem (P.counts_nodup L) hp
theorem zpk{G:Gp}{d:Addr}{l:List ((Int×Int)×Int)}{Q:Prop}(h:G d=some (cO l))(q:Q):za3 (.ref d) G Q:=by
 cases l with
 | nil=>simp only[za3,h,cO]; exact q
 | cons _ _=>simp only[za3,h,cO]; exact q
theorem zpz{G:Gp}{x y v:T}{Q:VK3}(h:zcq x y G=some (some v))(q:Q v G):ixA x y G Q:=by
 simp only[ixA,h]; exact q
theorem zrx{G:Gp}{d:Addr}{l:List ((Int×Int)×Int)}{k:Int×Int}{z:Int}{Q:VK3}(h:G d=some (cO l))(q:Q (.int ((P.getL l k).getD z)) G):ziw (.ref d) (pT k) (.int z) G Q:=by
 simp only[ziw,zsZ h];cases e:P.getL l k<;>rw[e]at q<;>exact q
inductive Ac where
 | begin (i:Nat) (l:Int) | fall (i:Nat) | bring (k v:Nat)
noncomputable def zpS:Ac->T
 | .begin i l=>.tup [.str "begin",.int i,.int l]
 | .fall i=>.tup [.str "fall",.int i]
 | .bring k v=>.tup [.str "bring",.int k,.int v]
noncomputable def Ac.run(S:P.R):Ac->P.R
 | .begin i l=>S.begin i l
 | .fall i=>S.fall i
 | .bring k v=>S.bring k v
def Ac.fits(S:P.R):Ac->Prop
 | .begin i l=>i < S.wishes.length/\0<=l
 | .fall i=>i < S.wishes.length
 | .bring k v=>k < S.letters.length/\v < S.many
noncomputable def Ac.cost:Ac->Nat
 | .begin _ _=>1
 | _=>0
theorem Ac.ok{n:Nat}{S:P.R}{a:Ac}(h:P.Ok n S)(f:a.fits S):P.Ok (n+a.cost) (a.run S):=by
 cases a with
 | begin i l=>exact h.begin f.1 f.2
 | fall i=>exact h.fall i
 | bring k v=>exact h.bring k f.2
theorem Ac.grow(S:P.R)(a:Ac):P.Grow S (a.run S):=by
 cases a with
 | begin i l=>exact P.Grow.begin S i l
 | fall i=>exact P.Grow.fall S i
 | bring k v=>exact P.Grow.bring S k v
structure Hs(Z:Cz)(n:Nat)(dn r:Addr)(G:Gp)(A:Adr)(S:P.R)(k:Nat):Prop where
 R:RoomAt Z G A S
 ok:P.Ok n S
 er:A .r=r
 dl:∃ ds,G dn=some (.lst ds)/\ds.length<=k
 nd:¬ own A S dn
inductive Runs:P.R->List Ac->P.R->Prop
 | nil (S:P.R):Runs S [] S
 | cons {S S':P.R} {a:Ac} {as:List Ac} (f:a.fits S) (r:Runs (a.run S) as S'):Runs S (a::as) S'
theorem Runs.append{S S' S'':P.R}{as bs:List Ac}(x:Runs S as S')(y:Runs S' bs S''):Runs S (as++bs) S'':=by
 induction x with
 | nil=>exact y
 | cons f _ ih=>exact .cons f (ih y)
theorem Runs.grow{S S':P.R}{as:List Ac}(x:Runs S as S'):P.Grow S S':=by
 induction x with
 | nil=>exact P.Grow.refl _
 | cons f _ ih=>exact(Ac.grow _ _).trans ih
structure Mv(dn:Addr)(as:List Ac)(G:Gp)(A:Adr)(S:P.R)(G':Gp)(A':Adr)(S':P.R):Prop where
 ex:Runs S as S'
 dl:∀ ds,G dn=some (.lst ds)->G' dn=some (.lst (ds++as.map zpS))
 fr:∀ a o,a≠dn->¬ own A S a->G a=some o->G' a=some o/\¬ own A' S' a
section
variable {Z:Cz}{n k:Nat}{dn r:Addr}{as bs:List Ac}{G G' G2:Gp}{A A' A2:Adr}{S S' S2:P.R}
theorem Mv.gr(m:Mv dn as G A S G' A' S'):P.Grow S S':=m.ex.grow
theorem Mv.refl:Mv dn [] G A S G A S:=⟨.nil S,λds e=>by simpa using e,λa o _ h e=>⟨e,h⟩⟩
theorem Mv.trans(a:Mv dn as G A S G' A' S')(b:Mv dn bs G' A' S' G2 A2 S2):Mv dn (as++bs) G A S G2 A2 S2 :=
 ⟨a.ex.append b.ex,λds e=>by rw[b.dl _ (a.dl ds e),List.map_append,List.append_assoc],λx o hx h e=>let ⟨h1,h2⟩:=a.fr x o hx h e; b.fr x o hx h2 h1⟩
theorem Mv.ext(x:Ext G G'):Mv dn [] G A S G' A S:=⟨.nil S,λds e=>by simpa using x _ _ e,λa o _ h e=>⟨x a o e,h⟩⟩
theorem Hs.ext(h:Hs Z n dn r G A S k)(x:Ext G G'):Hs Z n dn r G' A S k:=⟨h.R.ext x,h.ok,h.er,let ⟨ds,e,l⟩:=h.dl; ⟨ds,x _ _ e,l⟩,h.nd⟩
theorem Hs.more(h:Hs Z n dn r G A S k){k':Nat}(hk:k<=k'):Hs Z n dn r G A S k':=⟨h.R,h.ok,h.er,let ⟨ds,e,l⟩:=h.dl; ⟨ds,e,by lia⟩,h.nd⟩
end
noncomputable def mix(c p m:Int):Int:=c * 48271 % p % m
theorem zbk(c p m:Int)(h:0 < m):0<=mix c p m/\mix c p m < m:=⟨Int.emod_nonneg _ (by lia),Int.emod_lt_of_pos _ h⟩
noncomputable def popIx(c:Int)(m j:Nat):Nat:=(mix (c+5 * (j:Int)) 9883 ((m:Int) - (j:Int))).toNat
noncomputable def zgS(c:Int)(m:Nat):Nat->List Nat×List Nat
 | 0=>(List.range m,[])
 | j+1=>((zgS c m j).1.eraseIdx (popIx c m j),(zgS c m j).2++[(zgS c m j).1.getD (popIx c m j) 0])
noncomputable def someL(c:Int)(m k:Nat):List Nat:=(zgS c m k).2
theorem zho{c:Int}{m j:Nat}(h:j < m):popIx c m j < m - j:=by
 have:=zbk (c+5 * (j:Int)) 9883 ((m:Int) - (j:Int)) (by lia);unfold popIx; lia
theorem zfE{c:Int}{m:Nat}:∀ {j:Nat},j<=m->(zgS c m j).1.length=m - j/\(zgS c m j).2.length=j
 | 0,_=>by simp[zgS]
 | j+1,h=>by
  obtain⟨h1,h2⟩:=zfE (c:=c) (m:=m) (j:=j) (by lia)
  have h3:=zho (c:=c) (m:=m) (j:=j) (by lia)
  simp only[zgS,List.length_append,List.length_singleton,h2,List.length_eraseIdx,h1]
  refine⟨?_,trivial⟩
  rw[if_pos (by lia)]
  lia
theorem zlK{c:Int}{m:Nat}:∀ {j:Nat},j<=m->(∀ v∈(zgS c m j).1,v < m)/\∀ v∈(zgS c m j).2,v < m
 | 0,_=>by simp[zgS]
 | j+1,h=>by
  obtain⟨h1,h2⟩:=zlK (c:=c) (m:=m) (j:=j) (by lia)
  have h3:=zho (c:=c) (m:=m) (j:=j) (by lia)
  have h4:=(zfE (c:=c) (m:=m) (j:=j) (by lia)).1
  simp only[zgS]
  refine⟨λv hv=>h1 v (List.mem_of_mem_eraseIdx hv),λv hv=>?_⟩
  rcases List.mem_append.mp hv with hv | hv
  ·exact h2 v hv
  ·have hv:=List.mem_singleton.mp hv
   have hlt:popIx c m j < (zgS c m j).1.length:=by lia
   have:(zgS c m j).1.getD (popIx c m j) 0=(zgS c m j).1[popIx c m j]:=by simp[hlt]
   rw[hv,this]
   exact h1 _ (List.getElem_mem hlt)
theorem zd5{c:Int}{m k:Nat}(h:k<=m):(someL c m k).length=k:=(zfE h).2
theorem zfB{c:Int}{m k:Nat}(h:k<=m):∀ v∈someL c m k,v < m:=(zlK h).2
theorem zq9:PyData.strOk ("begin":Str)=true:=by decide +kernel
theorem zq8:PyData.strOk ("fall":Str)=true:=by decide +kernel
theorem zq7:PyData.strOk ("bring":Str)=true:=by decide +kernel
theorem zm2:("begin":Str)≠"fall":=by decide
theorem zm1:("begin":Str)≠"bring":=by decide
theorem zm0:("fall":Str)≠"bring":=by decide
theorem zkR{us:List T}{k:Nat}(h:k < us.length):(zbZ us).drop k=.tup [.int k,us.getD k .non]::(zbZ us).drop (k+1):=by
 have hl:k < (zbZ us).length:=by simp[zbZ,h]
 rw[List.drop_eq_getElem_cons hl]
 congr 1
 simp[zbZ,h]
section
variable {Z:Cz}{n k:Nat}{dn r:Addr}{G G' G2:Gp}{A A' A2:Adr}{S S' S2:P.R}
theorem zmB{ds:List T}{a:Ac}(f:a.fits S)(R':RoomAt Z G' A' (a.run S))(F:Fr G A S G' A' (a.run S))(ea:A' .r=r)(ok:P.Ok n S)(hds:G dn=some (.lst ds))(hl:ds.length<=k)(nd:¬ own A S dn) :
  Hs Z (n+a.cost) dn r (updG G' dn (.lst (ds++[zpS a]))) A' (a.run S) (k+1)/\Mv dn [a] G A S (updG G' dn (.lst (ds++[zpS a]))) A' (a.run S):=by
 have g:=F dn _ nd hds;refine⟨⟨R'.beside g.2,Ac.ok ok f,ea,⟨_,zaa,by simp; lia⟩,g.2⟩,⟨.cons f (.nil _),λds' e=>?_,λa o ha h e=>?_⟩⟩
 ·rw[hds]at e; cases e; exact zaa
 ·have:=F a o h e;exact⟨by rw[zab ha]; exact this.1,this.2⟩
end
theorem zhL{lt:Int->Int->Bool}(hlt:∀ a b,lt a b=true->a<=b):∀ (r:List Int) (x:Int),x<=bestL lt x r
 | [],x=>Int.le_refl _
 | y::r,x=>by
  unfold bestL
  rw[List.foldl_cons]
  have ih:=zhL hlt r (if lt x y then y else x)
  unfold bestL at ih
  refine Int.le_trans ?_ ih
  split
  ·rename_i h; exact hlt _ _ h
  ·exact Int.le_refl _
theorem Hs.up{Z:Cz}{n n' k:Nat}{dn r:Addr}{G:Gp}{A:Adr}{S:P.R}(h:Hs Z n dn r G A S k)(hn:n<=n'):Hs Z n' dn r G A S k:=⟨h.R,h.ok.mono hn,h.er,h.dl,h.nd⟩
structure Two(Z:Cz)(G:Gp)(A:Adr)(S:P.R)(B:Adr)(U:P.R):Prop where
 R1:RoomAt Z G A S
 R2:RoomAt Z G B U
 ap:∀ s t,zeQ S s->zeQ U t->A s≠B t
section
variable {Z:Cz}{G G':Gp}{A A' B B':Adr}{S S' U U':P.R}
theorem Two.n1(w:Two Z G A S B U){t:Slot}(ht:zeQ U t):¬ own A S (B t):=λ⟨s,hs,e⟩=>w.ap s t hs ht e
theorem Two.ext(w:Two Z G A S B U)(x:Ext G G'):Two Z G' A S B U:=⟨w.R1.ext x,w.R2.ext x,w.ap⟩
theorem Two.swap(w:Two Z G A S B U):Two Z G B U A S:=⟨w.R2,w.R1,λs t hs ht e=>w.ap t s ht hs e.symm⟩
theorem Two.move(w:Two Z G A S B U){dn:Addr}(fr:∀ a o,a≠dn->¬ own A S a->G a=some o->G' a=some o/\¬ own A' S' a)(R':RoomAt Z G' A' S')(hd:¬ own B U dn):Two Z G' A' S' B U:=by
 have k:∀ t,zeQ U t->G' (B t)=some (obj Z U B t)/\¬ own A' S' (B t):=λt ht=>fr (B t) _ (λe=>hd ⟨t,ht,e⟩) (w.n1 ht) (w.R2.at' t ht);exact⟨R',⟨λt ht=>(k t ht).1,w.R2.inj⟩,λs t hs ht e=>(k t ht).2 ⟨s,hs,e⟩⟩
theorem Two.moveF(w:Two Z G A S B U)(fr:Fr G A S G' A' S')(R':RoomAt Z G' A' S'):Two Z G' A' S' B U:=by
 have k:∀ t,zeQ U t->G' (B t)=some (obj Z U B t)/\¬ own A' S' (B t):=λt ht=>fr (B t) _ (w.n1 ht) (w.R2.at' t ht);exact⟨R',⟨λt ht=>(k t ht).1,w.R2.inj⟩,λs t hs ht e=>(k t ht).2 ⟨s,hs,e⟩⟩
end
end Rm
namespace P
end P
namespace Rm
open PySem L2 L3
theorem zsV(x y:List PyData):PyData.eqv (.tuple x) (.tuple y)=PyData.eqvAll x y:=rfl
theorem zmy(x y:PyData)(r q:List PyData):PyData.eqvAll (x::r) (y::q)=(PyData.eqv x y&&PyData.eqvAll r q):=rfl
theorem zmx:PyData.eqvAll [] []=true:=rfl
theorem zrD(x:PyData)(r:List PyData):PyData.eqvAll (x::r) []=false:=rfl
theorem zrC(x:PyData)(r:List PyData):PyData.eqvAll [] (x::r)=false:=rfl
theorem zpL(l r:Option (Int×Int)):PyData.eqv (oPD l) (oPD r)=decide (l=r):=by
 cases l<;>cases r
 ·rfl
 ·rfl
 ·rfl
 ·rename_i a b;obtain⟨a1,a2⟩:=a;obtain⟨b1,b2⟩:=b;simp[oPD,zsV,zmy,zmx,zn1]
theorem zfH(x y:M.Let):PyData.eqv (zj3 x) (zj3 y)=decide (x=y):=by
 cases x<;>cases y<;>simp[zj3,zsV,zmy,zmx,zrD,zrC,zn1,zhP,zpL,s12,s13,s14,s23,s24,s34,s12.symm,s13.symm,s14.symm,s23.symm,s24.symm,s34.symm]
 all_goals (rw[show ∀ a b:Nat,decide ((a:Int)=b)=decide (a=b)from λa b=>by rw[decide_eq_decide]; lia])
theorem zpC{L:List M.Let}{x:M.Let}(h:x∈L)(G:Gp):∃ i,zoa (L.map zaK) (zaK x) i G/\L[i]?=some x:=by
 have hi:=List.idxOf_lt_length_iff.mpr h;have e:L[L.idxOf x]?=some x:=by rw[lGe hi,List.getElem_idxOf hi]
 refine⟨L.idxOf x,⟨L.map zj3,zj3 x,zdy (g:=zaK) (k:=zj3) (λy=>zdq G 18 y) L,zdq G 18 x,⟨zj3 x,by rw[List.getElem?_map,e]; rfl,by rw[zfH]; simp⟩,λj z hj ez=>?_⟩,e⟩;rw[List.getElem?_map,Option.map_eq_some_iff]at ez;obtain⟨y,ey,rfl⟩:=ez;rw[zfH];have:y≠x:=λz=>by
  subst z;have h1:=(List.getElem?_eq_some_iff.mp ey).1;have h2:=(List.getElem?_eq_some_iff.mp ey).2;have:=List.not_of_lt_findIdx (p:=(·==y)) (xs:=L) (i:=j) hj;rw[h2]at this;simp at this
 simpa using this
theorem zjY(x:M.Let):(zma (zaK x)).isSome=true:=by cases x<;>rfl
noncomputable def lk(x:M.Let):Str×List Int:=(zma (zaK x)).getD k0
theorem zj5(L:List M.Let):zaQ (L.map zaK)=L.map lk:=by unfold zaQ; rw[List.map_map]; rfl
theorem zps{x y:M.Let}(h:lk x=lk y):P.code x=P.code y:=by
 cases x<;>cases y<;>simp[lk,zaK,zma,P.code]at h ⊢
 all_goals first
  | exact h
  | lia
  | exact absurd h (λz=>by simp[s12,s13,s14,s23,s24,s34,s12.symm,s13.symm,s14.symm,s23.symm,s24.symm,s34.symm]at z)
theorem zeR{S:P.R}(g:P.Good S):(zaQ (S.letters.map zaK)).Nodup:=by
 rw[zj5];have:=P.code_nodup g;unfold List.Nodup at this ⊢;rw[List.pairwise_map]at this ⊢;exact this.imp λh z=>h (zps z)
theorem zf9{S:P.R}(g:P.Good S)(p:M.Let->Bool):(zaQ ((S.letters.filter p).map zaK)).Nodup:=by
 have:=zeR g;rw[zj5]at this ⊢;exact((List.filter_sublist).map _).nodup this
noncomputable def srtL(L:List M.Let):List M.Let:=(Ts.rowIx L.length (cq (zaQ (L.map zaK)))).map λi=>L.getD i (.prepare 0)
theorem zfz(L:List M.Let):zlp (L.map zaK)=(srtL L).map zaK:=by
 unfold zlp srtL;rw[List.length_map,List.map_map];refine List.map_congr_left λi hi=>?_;have hi':i < L.length:=Ts.row_lt hi;simp[hi']
theorem zhT(L:List M.Let):(srtL L).Perm L:=by
 have:=(Ts.row_perm L.length (cq (zaQ (L.map zaK)))).map λi=>L.getD i (.prepare 0);refine this.trans ?_;have e:(List.range L.length).map (λi=>L.getD i (.prepare 0))=L:=by
  refine List.ext_getElem (by simp) λi h1 h2=>?_;simp at h1;simp[h1]
 rw[e]
theorem znM{x y:M.Let}(h:zaK x=zaK y):x=y:=by
 have h1:=zdq (λ_=>none) 18 x;rw[h,zdq]at h1;have h2:=zfH y x;rw[Option.some.inj h1]at h2;have h3:=zfH x x;rw[h3]at h2;simp at h2;exact h2.symm
theorem zf0:∀ {L L':List M.Let},L.map zaK=L'.map zaK->L=L'
 | [],[],_=>rfl
 | [],_::_,h=>by simp at h
 | _::_,[],h=>by simp at h
 | x::L,y::L',h=>by
  simp only[List.map_cons,List.cons.injEq]at h
  rw[znM h.1,zf0 h.2]
theorem zln{L L':List M.Let}(p:L.Perm L')(nd:(zaQ (L.map zaK)).Nodup):srtL L=srtL L':=by
 refine zf0 ?_;rw[<- zfz,<- zfz];exact zoJ (p.map _) nd
theorem zhb{l l':List (Int×Int)}(p:l.Perm l')(nd:l.Nodup):za0 l=za0 l':=zjK ((zey l).trans p) (zna nd)
noncomputable def zhQ:List (Int×Int)->Option Int
 | []=>none
 | q::_=>some q.2
end Rm

namespace My
open PySem L2 L3 Rm
def top(i:Nat):Stmt:=PySem.Challenge.pw_onechoice_k10_whole_either_order.main.body.getD i (.Pass ⟨0,0,0,0⟩)
section
variable {Pg:Program}{w:World}{K:W.Frag}{mg:Str->Option Value}{base:Heap}{Z:Cz}
def zds(Z:Cz):Sp3:=λts G Q=>match ts with
 | [.int b]=>Q (zaK (.prepare b)) G
 | _=>False
abbrev zfQ:Stmt:=top 11
local macro_rules | `(tactic| walk_at "s") => `(tactic| exact ⟨rfl,rfl,rfl,by decide +kernel,rfl,by decide +kernel,by decide +kernel⟩)
theorem zkC:FnScope ["ballot"] ["ballot"] (zac zfQ):=by walk_at "s"
theorem zkJ{f:Addr}{fd:FuncData}(F:Fun K "prepare" "prepare" zfQ f fd) (aT:At K Z) (g_PREPARE:∃ t,mg "PREPARE"=some (.str "prepare" t)):FOk Pg w K mg base 1 f fd ["ballot"] (zds Z):=by
 refine ok3 F zkC (λts G Q h=>?_) (λcdv A outer s H E hr=>?_)
 ·unfold zds at h; split at h<;>first | rfl | exact h.elim
 ·refine⟨_,(zaG (zbY (ziT (qa (znk g_PREPARE) (qa (qv 0) qa0))))),λts G Q h=>?_⟩;unfold zds at h;split at h
  case h_2=>exact h.elim
  simp[zam,zaO,wOp,zas,wC,iI0,zad,wCB,zaf,zat,zaj,zbn,zah];exact h
variable (Pg w K mg base Z)in
abbrev ziQ:Prop:=zfI Pg w K mg base 1 "prepare" ["ballot"] (zds Z)
def zcN(Z:Cz):Sp3:=λts G Q=>∃ p,ts=[.ref p]/\G p=some (.ins Z.P [])/\∀ q d,G q=none->G d=none->q≠d->Q .non (updG (updG (updG G q (.lst [])) d (.dK [])) p (.ins Z.P (fP (.ref q) (.ref d))))
abbrev zbX:Stmt:=zau (top 15) 0
theorem zfo:FnScope ["self"] ["self"] (zac zbX):=by walk_at "s"
theorem zft{f:Addr}{fd:FuncData}(F:Fun K "__init__" "Pile.__init__" zbX f fd) (aT:At K Z) :FOk Pg w K mg base 1 f fd ["self"] (zcN Z):=by
 refine ok3 F zfo (λts G Q h=>?_) (λcdv A outer s H E hr=>?_)
 ·obtain⟨p,rfl,_⟩:=h; rfl
 ·refine⟨_,(qss (zaz (qv 0) (znj qa0))
   (zaG (zaz (qv 0) zlG))),λts G Q h=>?_⟩
  obtain⟨p,rfl,hp,h⟩:=h;simp[zaH,wOp,zas,wC,iI0,zad,wCB,zaf,zat,zaj,zaV,zbN,zap,zcb,zah];intro q hq;have n1:=neG hp hq;refine zan (by rw[zab n1]; exact hp) aT.row rfl ?_;intro d hd;have n2:d≠p:=by rintro rfl; rw[zaa]at hd; cases hd
  have n3:d≠q:=by rintro rfl; rw[zab n2,zaa]at hd; cases hd
  rw[zab n2,zab n3]at hd;refine zan (by rw[zab (Ne.symm n2)]; exact zaa) aT.written rfl ?_;rw[zdY n2];exact h q d hq hd (Ne.symm n3)
variable (Pg w K mg base Z)in
abbrev zdo:Prop:=zm4 Pg w K mg base 1 "Pile" Z.P ["self"] (zcN Z)
def zcu(Z:Cz):Sp3:=λts G Q=>∃ p pr pw L x,ts=[.ref p,zaK x]/\G p=some (.ins Z.P (fP (.ref pr) (.ref pw)))/\G pr=some (.lst (L.map zaK))/\G pw=some (wrO L)/\pr≠pw/\L.length<=1000000 /\
 Q .non (if x∈L then G else updG (updG G pw (wrO (L++[x]))) pr (.lst ((L++[x]).map zaK)))
abbrev zda:Stmt:=zau (top 15) 1
theorem zhg:FnScope ["self","letter"] ["self","letter"] (zac zda):=by walk_at "s"
theorem zhx{f:Addr}{fd:FuncData}(F:Fun K "write" "Pile.write" zda f fd) (aT:At K Z) :FOk Pg w K mg base 1 f fd ["self","letter"] (zcu Z):=by
 refine ok3 F zhg (λts G Q h=>?_) (λcdv A outer s H E hr=>?_)
 ·obtain⟨p,pr,pw,L,x,rfl,_⟩:=h; rfl
 ·refine⟨_,(qss (ze6 (zs6 hr (qv 1) (zb9 (qv 0))) (zaG zst) zaL)
   (qss (zjP hr qbl (zb9 (qv 0)) (qv 1))
   (zaG (zb2 (zhm (zb9 (qv 0)) (qa (qv 1) qa0)))))),λts G Q h=>?_⟩
  revert h;refine λx_0=>ex5 x_0 λp pr pw L x h_0=>?_;clear x_0;have hp:=h_0.2.1;have h1:=h_0.2.2.1;have h2:=h_0.2.2.2.1;have hne:=h_0.2.2.2.2.1;have hl:=h_0.2.2.2.2.2.1;have h:=h_0.2.2.2.2.2.2;obtain rfl:=h_0.1;clear h_0;obtain⟨r,hg,hr⟩:=zp3 x h2;simp[zaH,zaS,zam,zg5,wOp,zas,wC,iI0,zad,wCB,zaf,zat,zaj,zaV,zb3,zaI,ziR,ziU,zah,ziS,zk5,zed,za3];refine zag hp zgZ aT.written ?_;simp only[zp4,zr4 h2,hg,hr];by_cases c:x∈L
  ·simp only[c,if_true]at h;simpa [c] using h
  ·simp only[c,if_false]at h;simp[c];refine zag hp zgZ aT.written ?_;refine zp2 h2 c hl ?_;have n1:p≠pw:=zrY hp h2 (by cases L<;>simp[wrO]);have n2:p≠pr:=zrY hp h1 (by simp);refine zag (by rw[zab n1]; exact hp) zkc aT.row ?_;simp[zab hne,h1,hl];simpa using h
variable (Pg w K mg base Z)in
abbrev zdn:Prop:=zdW Pg w K mg base 1 Z.P "write" ["self","letter"] (zcu Z)
def zc2(Z:Cz):Sp3:=λts G Q=>∃ p pr wr L,ts=[.ref p]/\G p=some (.ins Z.P (fP (.ref pr) wr))/\G pr=some (.lst L)/\Q (.tup L) G
abbrev zcd:Stmt:=zau (top 15) 2
theorem zfO:FnScope ["self"] ["self"] (zac zcd):=by walk_at "s"
theorem zfX{f:Addr}{fd:FuncData}(F:Fun K "letters" "Pile.letters" zcd f fd) (aT:At K Z) (b_tuple:mg "tuple"=none):FOk Pg w K mg base 1 f fd ["self"] (zc2 Z):=by
 refine ok3 F zfO (λts G Q h=>?_) (λcdv A outer s H E hr=>?_)
 ·obtain⟨p,pr,wr,L,rfl,_⟩:=h; rfl
 ·refine⟨_,(zaG (zbY (zhl b_tuple (qa (zb9 (qv 0)) qa0)))),λts G Q h=>?_⟩;revert h;refine λx_0=>ex4 x_0 λp pr wr L h_0=>?_;clear x_0;have hp:=h_0.2.1;have h1:=h_0.2.2.1;have h:=h_0.2.2.2;obtain rfl:=h_0.1;clear h_0;simp[zam,zaO,wOp,zas,wC,iI0,zad,wCB,zaf,zat,zaJ,zaj,zb3,zgs,za1,zah];refine zag hp zkc aT.row ?_;simpa [h1] using h
variable (Pg w K mg base Z)in
abbrev zcj:Prop:=zdW Pg w K mg base 1 Z.P "letters" ["self"] (zc2 Z)
def za7(Z:Cz):Sp3:=λts G Q=>match ts with
 | [.int i,.int n,.int l]=>0 < n/\Q (.int (P.ownB i n l)) G
 | _=>False
abbrev zc4:Stmt:=top 22
theorem zd8:FnScope ["number","askers","least","floor"] ["number","askers","least"] (zac zc4):=by walk_at "s"
theorem zhq{f:Addr}{fd:FuncData}(F:Fun K "own_ballot" "own_ballot" zc4 f fd) (aT:At K Z) (b_max:mg "max"=none):FOk Pg w K mg base 1 f fd ["number","askers","least"] (za7 Z):=by
 refine ok3 F zd8 (λts G Q h=>?_) (λcdv A outer s H E hr=>?_)
 ·unfold za7 at h; split at h<;>first | rfl | exact h.elim
 ·refine⟨_,(qss (zev 3 zd8.nd (zqy b_max (qa (qv 2) (qa (qv 0) qa0))))
   (zaG (zbY (zgr (qv 3) (zpY (zpX (qv 0) (qv 3)) (qv 1)))))),λts G Q h=>?_⟩
  unfold za7 at h;split at h
  case h_2=>exact h.elim
  simp[zaH,zaO,wOp,zas,wC,iI,iI0,zad,wCB,zaf,zat,zaj,zaV,zah,mx3];exact⟨h.1,h.2⟩
variable (Pg w K mg base Z)in
abbrev zfc:Prop:=zfI Pg w K mg base 1 "own_ballot" ["number","askers","least"] (za7 Z)
def zbj(Z:Cz):Sp3:=λts G Q=>∃ a t1 t2 t3 t4,ts=[.ref a,t1,t2,t3,t4]/\G a=some (.ins Z.A [])/\∀ q d,G q=none->G d=none->q≠d ->
 Q .non (updG (updG (updG G q (.dK [])) d (.dK [])) a (.ins Z.A (fA t1 t2 t3 t4 .non (.int 0) (.ref q) (.ref d))))
abbrev zbB:Stmt:=zau (top 23) 0
theorem zeF:FnScope ["self","number","askers","wish","many"] ["self","number","askers","wish","many"] (zac zbB):=by walk_at "s"
theorem zeP{f:Addr}{fd:FuncData}(F:Fun K "__init__" "Asker.__init__" zbB f fd) (aT:At K Z) :FOk Pg w K mg base 1 f fd ["self","number","askers","wish","many"] (zbj Z):=by
 refine ok3 F zeF (λts G Q h=>?_) (λcdv A outer s H E hr=>?_)
 ·obtain⟨a,t1,t2,t3,t4,rfl,_⟩:=h; rfl
 ·refine⟨_,(qss (zaz (qv 0) (qv 1))
   (qss (zaz (qv 0) (qv 2))
   (qss (zaz (qv 0) (qv 3))
   (qss (zaz (qv 0) (qv 4))
   (qss (zaz (qv 0) zi6)
   (qss (zaz (qv 0) zax)
   (qss (zaz (qv 0) zlG)
   (zaG (zaz (qv 0) zlG))))))))),λts G Q h=>?_⟩
  revert h;refine λx_0=>ex5 x_0 λa t1 t2 t3 t4 h_0=>?_;clear x_0;have hp:=h_0.2.1;have h:=h_0.2.2;obtain rfl:=h_0.1;clear h_0;simp[zaH,wOp,zas,wC,iI0,zad,wCB,zaf,zat,zaj,zaV,zap,zcb,zah];refine zan hp aT.number rfl ?_;refine zan zaa aT.step rfl ?_;refine zan zaa aT.wish rfl ?_;refine zan zaa aT.many rfl ?_;refine zan zaa aT.ballot rfl ?_;refine zan zaa aT.fresh rfl ?_;simp only[zbo];intro q hq;have n1:q≠a:=by rintro rfl; rw[zaa]at hq; cases hq
  rw[zab n1]at hq;refine zan (by rw[zab (Ne.symm n1)]; exact zaa) aT.noted rfl ?_;rw[zdY n1];intro d hd;have n2:d≠a:=by rintro rfl; rw[zaa]at hd; cases hd
  have n3:d≠q:=by rintro rfl; rw[zab n2,zaa]at hd; cases hd
  rw[zab n2,zab n3]at hd;refine zan (by rw[zab (Ne.symm n2)]; exact zaa) aT.asked rfl ?_;rw[zdY n2];exact h q d hq hd (Ne.symm n3)
variable (Pg w K mg base Z)in
abbrev zcT:Prop:=zm4 Pg w K mg base 1 "Asker" Z.A ["self","number","askers","wish","many"] (zbj Z)
def zdH(Z:Cz):Sp3:=λts G Q=>∃ a l i n wi ma ba fr nt ak,ts=[.ref a,.int l]/\G a=some (.ins Z.A (fA (.int i) (.int n) wi ma ba (.int fr) nt ak))/\0 < n/\∀ d,G d=none ->
 Q (zaK (.prepare (P.ownB i n (P.mx l fr)))) (updG (updG G d (.dK [])) a (.ins Z.A (fA (.int i) (.int n) wi ma (.int (P.ownB i n (P.mx l fr))) (.int (P.ownB i n (P.mx l fr)+1)) (.ref d) ak)))
abbrev zcD:Stmt:=zau (top 23) 1
theorem zgy:FnScope ["self","least"] ["self","least"] (zac zcD):=by walk_at "s"
theorem zgE{f:Addr}{fd:FuncData}(F:Fun K "begin" "Asker.begin" zcD f fd) (aT:At K Z) (b_max:mg "max"=none) (F_own_ballot:zfc Pg w K mg base Z) (F_prepare:ziQ Pg w K mg base Z):FOk Pg w K mg base 2 f fd ["self","least"] (zdH Z):=by
 refine ok3 F zgy (λts G Q h=>?_) (λcdv A outer s H E hr=>?_)
 ·obtain⟨a,l,i,n,wi,ma,ba,fr,nt,ak,rfl,_⟩:=h; rfl
 ·refine⟨_,(qss (zaz (qv 0) (zaE F_own_ballot hr (qa (zb9 (qv 0)) (qa (zb9 (qv 0)) (qa (zqy b_max (qa (qv 1) (qa (zb9 (qv 0)) qa0))) qa0)))))
   (qss (zaz (qv 0) (zgr (zb9 (qv 0)) zax))
   (qss (zaz (qv 0) zlG)
   (zaG (zbY (zaE F_prepare hr (qa (zb9 (qv 0)) qa0))))))),λts G Q h=>?_⟩
  revert h;refine λx_0=>zrA x_0 λa l i n wi ma ba fr nt ak h_0=>?_;clear x_0;have ha:=h_0.2.1;have hn:=h_0.2.2.1;have h:=h_0.2.2.2;obtain rfl:=h_0.1;clear h_0;simp[zaH,zaO,wOp,zas,wC,iI0,zad,wCB,zaf,zat,zaj,zaV,zar,zb3,zap,zcb,zah,mx3];refine zag ha zmu aT.number ?_;refine zag ha zpJ aT.step ?_;refine zag ha zn0 aT.fresh ?_;simp[zaH,zaO,wOp,zas,wC,iI0,zad,wCB,zaf,zat,zaj,zaV,zar,zb3,zap,zcb,zah,mx3,za7];refine⟨hn,?_⟩;refine zan ha aT.ballot rfl ?_;simp[zaH,zaO,wOp,zas,wC,iI0,zad,wCB,zaf,zat,zaj,zaV,zar,zb3,zap,zcb,zah,mx3];refine zag zaa zcp aT.ballot ?_;simp[zaH,zaO,wOp,zas,wC,iI0,zad,wCB,zaf,zat,zaj,zaV,zar,zb3,zap,zcb,zah,mx3];refine zan zaa aT.fresh rfl ?_;simp[zaH,zaO,wOp,zas,wC,iI0,zad,wCB,zaf,zat,zaj,zaV,zar,zb3,zap,zcb,zah,mx3];rw[zbo];intro d hd;have n1:d≠a:=by rintro rfl; rw[zaa]at hd; cases hd
  rw[zab n1]at hd;refine zan (by rw[zab (Ne.symm n1)]; exact zaa) aT.noted rfl ?_;simp[zaH,zaO,wOp,zas,wC,iI0,zad,wCB,zaf,zat,zaj,zaV,zar,zb3,zap,zcb,zah,mx3];rw[zdY n1];refine zag zaa zcp aT.ballot ?_;exact h d hd
variable (Pg w K mg base Z)in
abbrev zeu:Prop:=zdW Pg w K mg base 2 Z.A "begin" ["self","least"] (zdH Z)
def zd4(Z:Cz):Sp3:=λts G Q=>∃ a nu st wi ma ba fr nt ak,ts=[.ref a]/\G a=some (.ins Z.A (fA nu st wi ma ba fr nt ak))/\Q .non (updG G a (.ins Z.A (fA nu st wi ma .non fr nt ak)))
abbrev zdc:Stmt:=zau (top 23) 2
theorem zhi:FnScope ["self"] ["self"] (zac zdc):=by walk_at "s"
theorem zhz{f:Addr}{fd:FuncData}(F:Fun K "fall" "Asker.fall" zdc f fd) (aT:At K Z) :FOk Pg w K mg base 1 f fd ["self"] (zd4 Z):=by
 refine ok3 F zhi (λts G Q h=>?_) (λcdv A outer s H E hr=>?_)
 ·obtain⟨a,nu,st,wi,ma,ba,fr,nt,ak,rfl,_⟩:=h; rfl
 ·refine⟨_,(zaG (zaz (qv 0) zi6)),λts G Q h=>?_⟩;revert h;refine λx_0=>ex9 x_0 λa nu st wi ma ba fr nt ak h_0=>?_;clear x_0;have ha:=h_0.2.1;have h:=h_0.2.2;obtain rfl:=h_0.1;clear h_0;simp[wOp,zas,wC,iI0,zad,wCB,zaf,zat,zaj,zaV,zap,zah];refine zan ha aT.ballot rfl ?_;exact h
variable (Pg w K mg base Z)in
abbrev zfi:Prop:=zdW Pg w K mg base 1 Z.A "fall" ["self"] (zd4 Z)
def zbh(Z:Cz):Sp3:=λts G Q=>∃ a t,ts=[.ref a,t]/\G a=some (.ins Z.V [])/\Q .non (updG G a (.ins Z.V (fV t .non .non)))
abbrev zby:Stmt:=zau (top 25) 0
theorem zeC:FnScope ["self","number"] ["self","number"] (zac zby):=by walk_at "s"
theorem zeM{f:Addr}{fd:FuncData}(F:Fun K "__init__" "Voter.__init__" zby f fd) (aT:At K Z) :FOk Pg w K mg base 1 f fd ["self","number"] (zbh Z):=by
 refine ok3 F zeC (λts G Q h=>?_) (λcdv A outer s H E hr=>?_)
 ·obtain⟨a,t,rfl,_⟩:=h; rfl
 ·refine⟨_,(qss (zaz (qv 0) (qv 1))
   (qss (zaz (qv 0) zi6)
   (zaG (zaz (qv 0) zi6)))),λts G Q h=>?_⟩
  obtain⟨a,t,rfl,hp,h⟩:=h;simp[zaH,wOp,zas,wC,iI0,zad,wCB,zaf,zat,zaj,zaV,zap,zah];refine zan hp aT.vnumber rfl ?_;refine zan zaa aT.bound rfl ?_;refine zan zaa aT.last rfl ?_;simp only[zbo];exact h
variable (Pg w K mg base Z)in
abbrev zcR:Prop:=zm4 Pg w K mg base 1 "Voter" Z.V ["self","number"] (zbh Z)
def zck(Z:Cz):Sp3:=λts G Q=>∃ a nu bo la,ts=[.ref a]/\G a=some (.ins Z.V (fV nu bo la))/\Q bo G
abbrev zbw:Stmt:=zau (top 25) 1
theorem zeA:FnScope ["self"] ["self"] (zac zbw):=by walk_at "s"
theorem zeK{f:Addr}{fd:FuncData}(F:Fun K "promised" "Voter.promised" zbw f fd) (aT:At K Z) :FOk Pg w K mg base 1 f fd ["self"] (zck Z):=by
 refine ok3 F zeA (λts G Q h=>?_) (λcdv A outer s H E hr=>?_)
 ·obtain⟨a,nu,bo,la,rfl,_⟩:=h; rfl
 ·refine⟨_,(zaG (zbY (zb9 (qv 0)))),λts G Q h=>?_⟩;revert h;refine λx_0=>ex4 x_0 λa nu bo la h_0=>?_;clear x_0;have ha:=h_0.2.1;have h:=h_0.2.2;obtain rfl:=h_0.1;clear h_0;simp[zaO,wOp,zas,wC,iI0,zad,wCB,zaf,zat,zaj,zb3,zah];exact zag ha zei aT.bound h
variable (Pg w K mg base Z)in
abbrev zcP:Prop:=zdW Pg w K mg base 1 Z.V "promised" ["self"] (zck Z)
def zdE(Z:Cz):Sp3:=λts G Q=>∃ a nu bo la,ts=[.ref a]/\G a=some (.ins Z.V (fV nu bo la))/\Q la G
abbrev zcA:Stmt:=zau (top 25) 2
theorem zgv:FnScope ["self"] ["self"] (zac zcA):=by walk_at "s"
theorem zgB{f:Addr}{fd:FuncData}(F:Fun K "voted" "Voter.voted" zcA f fd) (aT:At K Z) :FOk Pg w K mg base 1 f fd ["self"] (zdE Z):=by
 refine ok3 F zgv (λts G Q h=>?_) (λcdv A outer s H E hr=>?_)
 ·obtain⟨a,nu,bo,la,rfl,_⟩:=h; rfl
 ·refine⟨_,(zaG (zbY (zb9 (qv 0)))),λts G Q h=>?_⟩;revert h;refine λx_0=>ex4 x_0 λa nu bo la h_0=>?_;clear x_0;have ha:=h_0.2.1;have h:=h_0.2.2;obtain rfl:=h_0.1;clear h_0;simp[zaO,wOp,zas,wC,iI0,zad,wCB,zaf,zat,zaj,zb3,zah];exact zag ha zjq aT.last h
variable (Pg w K mg base Z)in
abbrev zes:Prop:=zdW Pg w K mg base 1 Z.V "voted" ["self"] (zdE Z)
def zcL(Z:Cz):Sp3:=λts G Q=>∃ r la L ma pi x t,∃ i:Nat,ts=[.ref r,.int i]/\G r=some (.ins Z.R (fR ma pi (.ref la) x))/\G la=some (.lst L)/\L[i]?=some t/\Q t G
abbrev zbW:Stmt:=zau (top 27) 15
theorem zfm:FnScope ["self","asker"] ["self","asker"] (zac zbW):=by walk_at "s"
theorem zfr{f:Addr}{fd:FuncData}(F:Fun K "asker_at" "Room.asker_at" zbW f fd) (aT:At K Z) (b_len:mg "len"=none):FOk Pg w K mg base 1 f fd ["self","asker"] (zcL Z):=by
 refine ok3 F zfm (λts G Q h=>?_) (λcdv A outer s H E hr=>?_)
 ·obtain⟨r,la,L,ma,pi,x,t,i,rfl,_⟩:=h; rfl
 ·refine⟨_,(qss (ze6 (PW.pt (zqr (zrW (qv 1) zax) (zqs (zrX (qv 1) (zdA b_len (qa (zb9 (qv 0)) qa0)))))) (zaG zlE) zaL)
   (zaG (zbY (zbP hr (zb9 (qv 0)) (qv 1))))),λts G Q h=>?_⟩
  revert h;refine λx_0=>ex8 x_0 λr la L ma pi x t i h_0=>?_;clear x_0;have hr':=h_0.2.1;have hla:=h_0.2.2.1;have ht:=h_0.2.2.2.1;have h:=h_0.2.2.2.2;obtain rfl:=h_0.1;clear h_0;obtain⟨hi,hi2⟩:=List.getElem?_eq_some_iff.mp ht;have e1:¬ ((i:Int) < 0):=by lia
  have e2:¬ ((L.length:Int)<=(i:Int)):=by lia
  simp[zaH,zaS,zam,zaO,wOp,zas,wC,iI0,zad,wCB,zaf,zat,za6,zaJ,ix3,ixA,zcq,zaj,wOr,zb3,zah,zcX,za3,e1];refine zag hr' zej aT.askers ?_;simp[hla,e2];refine⟨hi,zag hr' zej aT.askers ?_⟩;simp[hla];have e1:atI L (i:Int)=some t:=zcg ht;simpa [e1] using h
variable (Pg w K mg base Z)in
abbrev zbd:Prop:=zdW Pg w K mg base 1 Z.R "asker_at" ["self","asker"] (zcL Z)
def zcJ(Z:Cz):Sp3:=λts G Q=>∃ r la L ma pi x t,∃ i:Nat,ts=[.ref r,.int i]/\G r=some (.ins Z.R (fR ma pi x (.ref la)))/\G la=some (.lst L)/\L[i]?=some t/\Q t G
abbrev zbU:Stmt:=zau (top 27) 16
theorem zfk:FnScope ["self","voter"] ["self","voter"] (zac zbU):=by walk_at "s"
theorem zfp{f:Addr}{fd:FuncData}(F:Fun K "voter_at" "Room.voter_at" zbU f fd) (aT:At K Z) (b_len:mg "len"=none):FOk Pg w K mg base 1 f fd ["self","voter"] (zcJ Z):=by
 refine ok3 F zfk (λts G Q h=>?_) (λcdv A outer s H E hr=>?_)
 ·obtain⟨r,la,L,ma,pi,x,t,i,rfl,_⟩:=h; rfl
 ·refine⟨_,(qss (ze6 (PW.pt (zqr (zrW (qv 1) zax) (zqs (zrX (qv 1) (zdA b_len (qa (zb9 (qv 0)) qa0)))))) (zaG zlE) zaL)
   (zaG (zbY (zbP hr (zb9 (qv 0)) (qv 1))))),λts G Q h=>?_⟩
  revert h;refine λx_0=>ex8 x_0 λr la L ma pi x t i h_0=>?_;clear x_0;have hr':=h_0.2.1;have hla:=h_0.2.2.1;have ht:=h_0.2.2.2.1;have h:=h_0.2.2.2.2;obtain rfl:=h_0.1;clear h_0;obtain⟨hi,hi2⟩:=List.getElem?_eq_some_iff.mp ht;have e1:¬ ((i:Int) < 0):=by lia
  have e2:¬ ((L.length:Int)<=(i:Int)):=by lia
  simp[zaH,zaS,zam,zaO,wOp,zas,wC,iI0,zad,wCB,zaf,zat,za6,zaJ,ix3,ixA,zcq,zaj,wOr,zb3,zah,zcX,za3,e1];refine zag hr' zix aT.voters ?_;simp[hla,e2];refine⟨hi,zag hr' zix aT.voters ?_⟩;simp[hla];have e1:atI L (i:Int)=some t:=zcg ht;simpa [e1] using h
variable (Pg w K mg base Z)in
abbrev zbc:Prop:=zdW Pg w K mg base 1 Z.R "voter_at" ["self","voter"] (zcJ Z)
def zc1(Z:Cz):Sp3:=λts G Q=>∃ A S,ts=[.ref (A .r)]/\RoomAt Z G A S/\Q (.tup (S.letters.map zaK)) G
abbrev zcc:Stmt:=zau (top 27) 1
theorem zfN:FnScope ["self"] ["self"] (zac zcc):=by walk_at "s"
theorem zfW{f:Addr}{fd:FuncData}(F:Fun K "letters" "Room.letters" zcc f fd) (aT:At K Z) (M_Pile_letters:zcj Pg w K mg base Z):FOk Pg w K mg base 2 f fd ["self"] (zc1 Z):=by
 refine ok3 F zfN (λts G Q h=>?_) (λcdv A outer s H E hr=>?_)
 ·obtain⟨A,S,rfl,_⟩:=h; rfl
 ·refine⟨_,(zaG (zbY (zbb (zb9 (qv 0)) M_Pile_letters hr))),λts G Q h=>?_⟩;obtain⟨A,S,rfl,R,h⟩:=h;simp[zaO,wOp,zas,wC,iI0,zad,wCB,zaf,zat,zaj,zb3,zaq,zah];refine zag (R.at' .r trivial) zgd aT.pile ?_;refine zai (R.at' .p trivial) rfl ?_;exact⟨_,_,_,_,rfl,R.at' .p trivial,R.at' .pr trivial,h⟩
variable (Pg w K mg base Z)in
abbrev zaX:Prop:=zdW Pg w K mg base 2 Z.R "letters" ["self"] (zc1 Z)
def zd2(Z:Cz):Sp3:=λts G Q=>∃ A S l,∃ i:Nat,ts=[.ref (A .r),.int i,.int l]/\RoomAt Z G A S/\i < S.wishes.length/\S.letters.length<=1000000 /\
 ∀ A' G',A' .r=A .r->RoomAt Z G' A' (S.begin i l)->Fr G A S G' A' (S.begin i l)->Q (.int ((S.askers i).due i S.wishes.length l)) G'
abbrev zc9:Stmt:=zau (top 27) 2
theorem zea:FnScope ["self","asker","least","letter"] ["self","asker","least"] (zac zc9):=by walk_at "s"
theorem zhw{f:Addr}{fd:FuncData}(F:Fun K "begin" "Room.begin" zc9 f fd) (aT:At K Z) (M_Asker_begin:zeu Pg w K mg base Z) (M_Pile_write:zdn Pg w K mg base Z) (M_Room_asker_at:zbd Pg w K mg base Z):FOk Pg w K mg base 3 f fd ["self","asker","least"] (zd2 Z):=by
 refine ok3 F zea (λts G Q h=>?_) (λcdv A outer s H E hr=>?_)
 ·obtain⟨A,S,l,i,rfl,_⟩:=h; rfl
 ·refine⟨_,(qss (zev 3 zea.nd (zbD (zbD (qv 0) (M_Room_asker_at.mono (by decide:1<=2)) hr (qa (qv 1) qa0)) M_Asker_begin hr (qa (qv 2) qa0)))
   (qss (zb2 (zbD (zb9 (qv 0)) (M_Pile_write.mono (by decide:1<=2)) hr (qa (qv 3) qa0)))
   (zaG (zbY (zbP hr (qv 3) zax))))),λts G Q h=>?_⟩
  revert h;refine λx_0=>ex4 x_0 λA S l i h_0=>?_;clear x_0;have R:=h_0.2.1;have hi:=h_0.2.2.1;have hl:=h_0.2.2.2.1;have h:=h_0.2.2.2.2;obtain rfl:=h_0.1;clear h_0;simp[zaH,zaO,wOp,zas,wC,iI0,zad,wCB,zaf,zat,zaJ,ix3,ixA,zcq,zaj,zaV,zb3,zay,zaI,zah,za3];refine zai (R.at' .r trivial) rfl ?_;refine⟨_,_,_,_,_,_,.ref (A (.as i)),i,rfl,R.at' .r trivial,R.at' .la trivial,by simp[hi],?_⟩;refine zai (R.at' (.as i) hi) rfl ?_;refine⟨_,_,_,_,_,_,_,_,_,_,rfl,R.at' (.as i) hi,by lia,λd hd=>?_⟩;obtain⟨R1,F1⟩:=R.begin hi hd ((S.askers i).due i S.wishes.length l) ((S.askers i).due i S.wishes.length l+1);simp[zaH,zaO,wOp,zas,wC,iI0,zad,wCB,zaf,zat,zaJ,ix3,ixA,zcq,zaj,zaV,zb3,zay,zaI,zah,za3];have e0:M.upd A (.nt i) d .r=A .r:=by simp[zfw]
  refine zag (e0 ▸ R1.at' .r trivial) zgd aT.pile ?_;refine zai (R1.at' .p trivial) rfl ?_;refine⟨_,_,_,_,_,rfl,R1.at' .p trivial,R1.at' .pr trivial,R1.at' .pw trivial,R1.ne (s:=.pr) (t:=.pw) trivial trivial (by simp),hl,?_⟩;obtain⟨R2,F2⟩:=R1.wrote (.prepare ((S.askers i).due i S.wishes.length l)) rfl;exact h _ _ e0 R2 (F1.trans F2)
variable (Pg w K mg base Z)in
abbrev zdl:Prop:=zdW Pg w K mg base 3 Z.R "begin" ["self","asker","least"] (zd2 Z)
def ze3(Z:Cz):Sp3:=λts G Q=>∃ A S,∃ i:Nat,ts=[.ref (A .r),.int i]/\RoomAt Z G A S/\i < S.wishes.length/\∀ G',RoomAt Z G' A (S.fall i)->Fr G A S G' A (S.fall i)->Q .non G'
abbrev zdP:Stmt:=zau (top 27) 3
theorem zh2:FnScope ["self","asker"] ["self","asker"] (zac zdP):=by walk_at "s"
theorem zig{f:Addr}{fd:FuncData}(F:Fun K "fall" "Room.fall" zdP f fd) (aT:At K Z) (M_Asker_fall:zfi Pg w K mg base Z) (M_Room_asker_at:zbd Pg w K mg base Z):FOk Pg w K mg base 2 f fd ["self","asker"] (ze3 Z):=by
 refine ok3 F zh2 (λts G Q h=>?_) (λcdv A outer s H E hr=>?_)
 ·obtain⟨A,S,i,rfl,_⟩:=h; rfl
 ·refine⟨_,(zaG (zb2 (zbb (zbD (qv 0) M_Room_asker_at hr (qa (qv 1) qa0)) M_Asker_fall hr))),λts G Q h=>?_⟩;revert h;refine λx_0=>ex3 x_0 λA S i h_0=>?_;clear x_0;have R:=h_0.2.1;have hi:=h_0.2.2.1;have h:=h_0.2.2.2;obtain rfl:=h_0.1;clear h_0;simp[wOp,zas,wC,iI0,zad,wCB,zaf,zat,zaj,zay,zaq,zaI,zah];refine zai (R.at' .r trivial) rfl ?_;refine⟨_,_,_,_,_,_,.ref (A (.as i)),i,rfl,R.at' .r trivial,R.at' .la trivial,by simp[hi],?_⟩;refine zai (R.at' (.as i) hi) rfl ?_;exact⟨_,_,_,_,_,_,_,_,_,rfl,R.at' (.as i) hi,h _ (R.fall hi) (Fr.put (s:=.as i) hi λt=>Iff.rfl)⟩
variable (Pg w K mg base Z)in
abbrev zgp:Prop:=zdW Pg w K mg base 2 Z.R "fall" ["self","asker"] (ze3 Z)
def zcK(Z:Cz):Sp3:=λts G Q=>∃ A S,∃ i:Nat,ts=[.ref (A .r),.int i]/\RoomAt Z G A S/\i < S.many/\Q (oI (S.voters i).promised) G
abbrev zbV:Stmt:=zau (top 27) 5
theorem zfl:FnScope ["self","voter"] ["self","voter"] (zac zbV):=by walk_at "s"
theorem zfq{f:Addr}{fd:FuncData}(F:Fun K "promised" "Room.promised" zbV f fd) (aT:At K Z) (M_Room_voter_at:zbc Pg w K mg base Z) (M_Voter_promised:zcP Pg w K mg base Z):FOk Pg w K mg base 2 f fd ["self","voter"] (zcK Z):=by
 refine ok3 F zfl (λts G Q h=>?_) (λcdv A outer s H E hr=>?_)
 ·obtain⟨A,S,i,rfl,_⟩:=h; rfl
 ·refine⟨_,(zaG (zbY (zbb (zbD (qv 0) M_Room_voter_at hr (qa (qv 1) qa0)) M_Voter_promised hr))),λts G Q h=>?_⟩;revert h;refine λx_0=>ex3 x_0 λA S i h_0=>?_;clear x_0;have R:=h_0.2.1;have hi:=h_0.2.2.1;have h:=h_0.2.2.2;obtain rfl:=h_0.1;clear h_0;simp[zaO,wOp,zas,wC,iI0,zad,wCB,zaf,zat,zaj,zay,zaq,zah];refine zai (R.at' .r trivial) rfl ?_;refine⟨_,_,_,_,_,_,.ref (A (.vs i)),i,rfl,R.at' .r trivial,R.at' .lv trivial,by simp[hi],?_⟩;refine zai (R.at' (.vs i) hi) rfl ?_;exact⟨_,_,_,_,rfl,R.at' (.vs i) hi,h⟩
variable (Pg w K mg base Z)in
abbrev zdj:Prop:=zdW Pg w K mg base 2 Z.R "promised" ["self","voter"] (zcK Z)
def zd0(Z:Cz):Sp3:=λts G Q=>∃ A S,∃ i:Nat,ts=[.ref (A .r),.int i]/\RoomAt Z G A S/\i < S.many/\Q (oP (S.voters i).voted) G
abbrev zc7:Stmt:=zau (top 27) 6
theorem zhf:FnScope ["self","voter"] ["self","voter"] (zac zc7):=by walk_at "s"
theorem zhu{f:Addr}{fd:FuncData}(F:Fun K "voted" "Room.voted" zc7 f fd) (aT:At K Z) (M_Room_voter_at:zbc Pg w K mg base Z) (M_Voter_voted:zes Pg w K mg base Z):FOk Pg w K mg base 2 f fd ["self","voter"] (zd0 Z):=by
 refine ok3 F zhf (λts G Q h=>?_) (λcdv A outer s H E hr=>?_)
 ·obtain⟨A,S,i,rfl,_⟩:=h; rfl
 ·refine⟨_,(zaG (zbY (zbb (zbD (qv 0) M_Room_voter_at hr (qa (qv 1) qa0)) M_Voter_voted hr))),λts G Q h=>?_⟩;revert h;refine λx_0=>ex3 x_0 λA S i h_0=>?_;clear x_0;have R:=h_0.2.1;have hi:=h_0.2.2.1;have h:=h_0.2.2.2;obtain rfl:=h_0.1;clear h_0;simp[zaO,wOp,zas,wC,iI0,zad,wCB,zaf,zat,zaj,zay,zaq,zah];refine zai (R.at' .r trivial) rfl ?_;refine⟨_,_,_,_,_,_,.ref (A (.vs i)),i,rfl,R.at' .r trivial,R.at' .lv trivial,by simp[hi],?_⟩;refine zai (R.at' (.vs i) hi) rfl ?_;exact⟨_,_,_,_,rfl,R.at' (.vs i) hi,h⟩
variable (Pg w K mg base Z)in
abbrev zfg:Prop:=zdW Pg w K mg base 2 Z.R "voted" ["self","voter"] (zd0 Z)
def zbi(Z:Cz):Sp3:=λts G Q=>∃ A S,∃ i:Nat,ts=[.ref (A .r),.int i]/\RoomAt Z G A S/\i < S.wishes.length/\Q (oI (S.askers i).ballot) G
abbrev zbz:Stmt:=zau (top 27) 7
theorem zeD:FnScope ["self","asker"] ["self","asker"] (zac zbz):=by walk_at "s"
theorem zeN{f:Addr}{fd:FuncData}(F:Fun K "ballot_of" "Room.ballot_of" zbz f fd) (aT:At K Z) (M_Room_asker_at:zbd Pg w K mg base Z):FOk Pg w K mg base 2 f fd ["self","asker"] (zbi Z):=by
 refine ok3 F zeD (λts G Q h=>?_) (λcdv A outer s H E hr=>?_)
 ·obtain⟨A,S,i,rfl,_⟩:=h; rfl
 ·refine⟨_,(zaG (zbY (zb9 (zbD (qv 0) M_Room_asker_at hr (qa (qv 1) qa0))))),λts G Q h=>?_⟩;revert h;refine λx_0=>ex3 x_0 λA S i h_0=>?_;clear x_0;have R:=h_0.2.1;have hi:=h_0.2.2.1;have h:=h_0.2.2.2;obtain rfl:=h_0.1;clear h_0;simp[zaO,wOp,zas,wC,iI0,zad,wCB,zaf,zat,zaj,zb3,zay,zah];refine zai (R.at' .r trivial) rfl ?_;refine⟨_,_,_,_,_,_,.ref (A (.as i)),i,rfl,R.at' .r trivial,R.at' .la trivial,by simp[hi],?_⟩;exact zag (R.at' (.as i) hi) zcp aT.ballot h
variable (Pg w K mg base Z)in
abbrev zbF:Prop:=zdW Pg w K mg base 2 Z.R "ballot_of" ["self","asker"] (zbi Z)
def zaB(Z:Cz):Sp3:=λts G Q=>match ts with
 | [.int a,.int b]=>Q (.bl (decide (b < 2 * a))) G
 | _=>False
abbrev zbv:Stmt:=top 17
theorem zez:FnScope ["some","many"] ["some","many"] (zac zbv):=by walk_at "s"
theorem zeJ{f:Addr}{fd:FuncData}(F:Fun K "more_than_half" "more_than_half" zbv f fd) (aT:At K Z) :FOk Pg w K mg base 1 f fd ["some","many"] (zaB Z):=by
 refine ok3 F zez (λts G Q h=>?_) (λcdv A outer s H E hr=>?_)
 ·unfold zaB at h; split at h<;>first | rfl | exact h.elim
 ·refine⟨_,(zaG (zbY (qgt (zoh zax (qv 0)) (qv 1)))),λts G Q h=>?_⟩;unfold zaB at h;split at h
  case h_2=>exact h.elim
  simp[zaO,wOp,zas,wC,iI,iI0,zad,wCB,zaf,zat,zaj,zah];exact⟨.inl ⟨by decide,by decide⟩,h⟩
variable (Pg w K mg base Z)in
abbrev zbE:Prop:=zfI Pg w K mg base 1 "more_than_half" ["some","many"] (zaB Z)
theorem zgh{W:List Int}{m:Nat}{G0:Gp}{Q:List T->Gp->Prop}:∀ (j k:Nat) (A:Adr) (G:Gp),k+j=W.length->Bk (LvA k) (obj Z (P.new W m)) G0 A G ->
  (∀ A' G',(∀ t,LvA 0 t->A' t=A t)->Bk (LvA W.length) (obj Z (P.new W m)) G0 A' G'->Q ((List.range W.length).map λi=>T.ref (A' (.as i))) G') ->
  zeY (zeS 2 (zbf (zav 0) (zbf (zav 1) zeT))) zah (zbe Z.A (zbj Z) (zaf (zas 0) (zaf (wCB za6 (zaf (zas 3) zat)) (zaf (zas 1) (zaf (zas 2) zat))))) (λ_=>True)
   ((zbZ (W.map T.int)).drop k) [none,none,some (.int m),some (.tup (W.map T.int))] ((List.range k).map λi=>T.ref (A (.as i))) G Q
 | 0,k,A,G,e,B,h=>by
  have ek:k=W.length:=by lia
  subst ek
  have:(zbZ (W.map T.int)).drop W.length=[]:=List.drop_eq_nil_of_le (by simp[zbZ])
  rw[this]
  exact⟨trivial,h A G (λ_ _=>rfl) B⟩
 | j+1,k,A,G,e,B,h=>by
  have hk:k < W.length:=by lia
  rw[zmz hk]
  simp[zeY,zaH,zaS,zam,zaO,zg5,wOp,zas,wC,iI,iI0,zad,wCB,zaf,zat,za6,zaJ,ix3,ixA,zcq,zaj,zaV,zar,zbn,zbN,zhN,zcV,zfv,wOr,zfj,ziZ,zoA,ziW,ziX,zoC,zbJ,isN,zb3,zap,zay,zaq,zbe,zaI,ziR,zav,ziU,zcb,zgs,za1,iR1,iR2,zah,zoB,isInt,zga,zdU,mx3,mn3,zaN,wP0,wP1,zaC,ziS,zk5,zed,zbu,zce,zcX,zeS,zbf,zeT,ziY,zew,ziw,za3]
  intro x hx
  refine⟨x,_,_,_,_,rfl,zaa,λq d hq hd hqd=>?_⟩
  have n1:q≠x:=by rintro rfl; rw[zaa]at hq; cases hq
  have n2:d≠x:=by rintro rfl; rw[zaa]at hd; cases hd
  rw[zab n1]at hq
  rw[zab n2]at hd
  rw[zgK n1 n2]
  obtain⟨A',hA,hx',B'⟩:=B.asker hx hq hd n1 n2 hqd
  have ih:=zgh (Q:=Q) j (k+1) A' _ (by lia) B' λA2 G2 e2 B2=>h A2 G2 (λt ht=>(e2 t ht).trans (hA t (by cases t<;>simp[LvA]at ht ⊢))) B2
  have ea:((List.range (k+1)).map λi=>T.ref (A' (.as i)))=((List.range k).map λi=>T.ref (A (.as i)))++[.ref x]:=by
   rw[List.range_succ,List.map_append]
   congr 1
   ·refine List.map_congr_left λi hi=>?_;rw[hA (.as i) (List.mem_range.mp hi)]
   ·simp[hx']
  rw[ea]at ih;exact ih
theorem zfJ{W:List Int}{m:Nat}{G0:Gp}{Q:List T->Gp->Prop}:∀ (j k:Nat) (A:Adr) (G:Gp),k+j=m->Bk (LvV W.length k) (obj Z (P.new W m)) G0 A G ->
  (∀ A' G',(∀ t,LvA 0 t∨t=.la->A' t=A t)->Bk (LvV W.length m) (obj Z (P.new W m)) G0 A' G'->Q ((List.range m).map λi=>T.ref (A' (.vs i))) G') ->
  zeY (zav 0) zah (zbe Z.V (zbh Z) (zaf (zas 0) zat)) (λ_=>True) ((zcs 0 m).drop k) [none] ((List.range k).map λi=>T.ref (A (.vs i))) G Q
 | 0,k,A,G,e,B,h=>by
  have ek:k=m:=by lia
  subst ek
  have:(zcs 0 (k:Int)).drop k=[]:=List.drop_eq_nil_of_le (by simp[zcs])
  rw[this]
  exact⟨trivial,h A G (λ_ _=>rfl) B⟩
 | j+1,k,A,G,e,B,h=>by
  have hk:k < m:=by lia
  rw[zfC hk]
  simp[zeY,zaH,zaS,zam,zaO,zg5,wOp,zas,wC,iI,iI0,zad,wCB,zaf,zat,za6,zaJ,ix3,ixA,zcq,zaj,zaV,zar,zbn,zbN,zhN,zcV,zfv,wOr,zfj,ziZ,zoA,ziW,ziX,zoC,zbJ,isN,zb3,zap,zay,zaq,zbe,zaI,ziR,zav,ziU,zcb,zgs,za1,iR1,iR2,zah,zoB,isInt,zga,zdU,mx3,mn3,zaN,wP0,wP1,zaC,ziS,zk5,zed,zbu,zce,zcX,zeS,zbf,zeT,ziY,zew,ziw,za3]
  intro x hx
  refine⟨x,_,rfl,zaa,?_⟩
  rw[zbo]
  obtain⟨A',hA,hx',B'⟩:=B.voter hx
  have ih:=zfJ (Q:=Q) j (k+1) A' _ (by lia) B' λA2 G2 e2 B2=>h A2 G2 (λt ht=>(e2 t ht).trans (hA t (by cases t<;>simp[LvA,LvV]at ht ⊢))) B2
  have ea:((List.range (k+1)).map λi=>T.ref (A' (.vs i)))=((List.range k).map λi=>T.ref (A (.vs i)))++[.ref x]:=by
   rw[List.range_succ,List.map_append]
   congr 1
   ·refine List.map_congr_left λi hi=>?_;rw[hA (.vs i) (List.mem_range.mp hi)]
   ·simp[hx']
  rw[ea]at ih;exact ih
def zcM(Z:Cz):Sp3:=λts G Q=>∃ r W,∃ m:Nat,ts=[.ref r,.tup (W.map T.int),.int m]/\G r=some (.ins Z.R [])/\W.length<=1000/\m<=1000/\∀ A G',A .r=r->RoomAt Z G' A (P.new W m)->(∀ a o,a≠r->G a=some o->G' a=some o/\¬ own A (P.new W m) a)->Q .non G'
abbrev zaZ:Stmt:=zau (top 27) 0
theorem zfn:FnScope ["self","wishes","many"] ["self","wishes","many"] (zac zaZ):=by walk_at "s"
theorem zfs{f:Addr}{fd:FuncData}(F:Fun K "__init__" "Room.__init__" zaZ f fd) (aT:At K Z) (b_enumerate:mg "enumerate"=none) (b_len:mg "len"=none) (b_range:mg "range"=none) (N_Asker:zcT Pg w K mg base Z) (N_Pile:zdo Pg w K mg base Z) (N_Voter:zcR Pg w K mg base Z):FOk Pg w K mg base 3 f fd ["self","wishes","many"] (zcM Z):=by
 refine ok3 F zfn (λts G Q h=>?_) (λcdv A outer s H E hr=>?_)
 ·obtain⟨r,W,m,rfl,_⟩:=h; rfl
 ·refine⟨_,(qss (zaz (qv 0) (qv 2))
   (qss (zaz (qv 0) (zrK N_Pile hr))
   (qss (zaz (qv 0) (zh6 ["number","wish","many","wishes"] [none,none,some 2,some 1] (zgG (oN:=["self","wishes","many"]) (osc:=zac zaZ) rfl rfl (by decide +kernel)) (zlF b_enumerate (qa (qv 1) qa0)) (λ_ _ _ _=>(zo0 (n:=2) (qgs (zaT 0 (show List.Nodup (["number","wish","many","wishes"]:List Str)by decide +kernel)) (qgs (zaT 1 (show List.Nodup (["number","wish","many","wishes"]:List Str)by decide +kernel)) zsz)))) (λ_ _ _ _=>zi7) (λ_ _ _ _=>(zn5 N_Asker hr (qa (qv 0) (qa (zdA b_len (qa (qv 3) qa0)) (qa (qv 1) (qa (qv 2) qa0))))))))
   (zaG (zaz (qv 0) (zh6 ["number"] [none] (zgG (oN:=["self","wishes","many"]) (osc:=zac zaZ) rfl rfl (by decide +kernel)) (zi8 b_range (qa (qv 2) qa0)) (λ_ _ _ _=>(zaT 0 (show List.Nodup (["number"]:List Str)by decide +kernel))) (λ_ _ _ _=>zi7) (λ_ _ _ _=>(zn5 N_Voter hr (qa (qv 0) qa0))))))))),λts G Q h=>?_⟩
  revert h;refine λx_0=>ex3 x_0 λr W m h_0=>?_;clear x_0;have hr':=h_0.2.1;have hW:=h_0.2.2.1;have hm:=h_0.2.2.2.1;have h:=h_0.2.2.2.2;obtain rfl:=h_0.1;clear h_0;simp[zaH,zaS,wOp,zas,wC,iI0,zad,wCB,zaf,zat,za6,zaJ,zaj,zaV,zbN,zap,zbe,zav,iR1,zah,zbu,zeS,zbf,zeT];refine zan hr' aT.rmany rfl ?_;simp[zaH,zaS,wOp,zas,wC,iI0,zad,wCB,zaf,zat,za6,zaJ,zaj,zaV,zbN,zap,zbe,zav,iR1,zah,zbu,zeS,zbf,zeT];intro p hp;have np:p≠r:=by rintro rfl; rw[zaa]at hp; cases hp
  rw[zab np]at hp;refine⟨p,rfl,zaa,λq d hq hd hqd=>?_⟩;have n1:q≠p:=by rintro rfl; rw[zaa]at hq; cases hq
  have n2:d≠p:=by rintro rfl; rw[zaa]at hd; cases hd
  rw[zab n1]at hq;rw[zab n2]at hd;have n3:q≠r:=by rintro rfl; rw[zaa]at hq; cases hq
  have n4:d≠r:=by rintro rfl; rw[zaa]at hd; cases hd
  rw[zab n3]at hq;rw[zab n4]at hd;rw[zgK n1 n2];refine zan (by rw[zab (Ne.symm np),zab (Ne.symm n4),zab (Ne.symm n3)]; exact zaa) aT.pile rfl ?_;have eG:updG (updG (updG (updG (updG G r (GO.ins Z.R (zgR "many" (T.int m) []))) q (GO.lst [])) d (GO.dK [])) p (GO.ins Z.P (fP (T.ref q) (T.ref d)))) r (GO.ins Z.R (zgR "pile" (T.ref p) (zgR "many" (T.int m) []))) =
    updG (updG (updG (updG G r (GO.ins Z.R (zgR "pile" (T.ref p) (zgR "many" (T.int m) [])))) q (GO.lst [])) d (GO.dK [])) p (GO.ins Z.P (fP (T.ref q) (T.ref d))):=by
   funext b
   simp only[zg9];by_cases e1:b=r
   ·subst e1; simp[Ne.symm np,Ne.symm n3,Ne.symm n4]
   ·simp[e1]
  rw[eG];obtain⟨A0,ep,B0⟩:=Bk.pile (Z:=Z) (W:=W) (m:=m) (G0:=updG G r (GO.ins Z.R (zgR "pile" (T.ref p) (zgR "many" (T.int m) [])))) (p:=p) (q:=q) (d:=d) (by rw[zab np]; exact hp) (by rw[zab n3]; exact hq) (by rw[zab n4]; exact hd) n1 n2 hqd;simp only[zaH,zap,zaW,zpD,zaf,zas,zat,List.getElem?_cons_succ,List.getElem?_cons_zero];refine⟨by simp[zbZ]; lia,?_⟩;refine zgh W.length 0 A0 _ (by lia) B0 λA1 G1 a1 B1=>?_;intro la hla;have r1:G1 r=some (GO.ins Z.R (zgR "pile" (T.ref p) (zgR "many" (T.int m) []))):=B1.old r _ zaa;have nl:la≠r:=by rintro rfl; rw[r1]at hla; cases hla
  refine zan (by rw[zab (Ne.symm nl)]; exact r1) aT.askers rfl ?_;have B2:=(B1.la hla).rebase (u:=GO.ins Z.R (zgR "askers" (T.ref la) (zgR "pile" (T.ref p) (zgR "many" (T.int m) [])))) zaa;simp only[zap,zaW,iR1,zaf,zas,zat,List.getElem?_cons_succ,List.getElem?_cons_zero];refine⟨⟨by lia,by lia⟩,by simp[zcs]; lia,?_⟩;refine zfJ m 0 _ _ (by lia) B2 λA3 G3 a3 B3=>?_;intro lv hlv;have r3:G3 r=some (GO.ins Z.R (zgR "askers" (T.ref la) (zgR "pile" (T.ref p) (zgR "many" (T.int m) [])))):=B3.old r _ zaa;have nv:lv≠r:=by rintro rfl; rw[r3]at hlv; cases hlv
  refine zan (by rw[zab (Ne.symm nv)]; exact r3) aT.voters rfl ?_;obtain⟨R,F⟩:=B3.room hlv (r:=r) zaa;have e1:A3 .p=p:=(a3 .p (.inl trivial)).trans ((by simp[zfw]:M.upd A1 .la la .p=A1 .p).trans ((a1 .p trivial).trans ep));have e2:A3 .la=la:=(a3 .la (.inr rfl)).trans (by simp[zfw]);rw[e1,e2]at R F;refine h _ _ (by simp[zfw]) R λa o ha e=>?_;exact F a o ha (by rw[zab ha,zab ha]; exact e)
variable (Pg w K mg base Z)in
abbrev zdm:Prop:=zm4 Pg w K mg base 3 "Room" Z.R ["self","wishes","many"] (zcM Z)
def zdr(Z:Cz):Sp3:=λts G Q=>match ts with
 | [.int b,.int v,t]=>Q (.tup [.str "promise",.int b,.int v,t]) G
 | _=>False
abbrev zfP:Stmt:=top 12
theorem zkB:FnScope ["ballot","voter","last"] ["ballot","voter","last"] (zac zfP):=by walk_at "s"
theorem zkI{f:Addr}{fd:FuncData}(F:Fun K "promise" "promise" zfP f fd) (aT:At K Z) (g_PROMISE:∃ t,mg "PROMISE"=some (.str "promise" t)):FOk Pg w K mg base 1 f fd ["ballot","voter","last"] (zdr Z):=by
 refine ok3 F zkB (λts G Q h=>?_) (λcdv A outer s H E hr=>?_)
 ·unfold zdr at h; split at h<;>first | rfl | exact h.elim
 ·refine⟨_,(zaG (zbY (ziT (qa (znk g_PROMISE) (qa (qv 0) (qa (qv 1) (qa (qv 2) qa0))))))),λts G Q h=>?_⟩;unfold zdr at h;split at h
  case h_2=>exact h.elim
  simp[zam,zaO,wOp,zas,wC,iI0,zad,wCB,zaf,zat,zaj,zbn,zah];exact h
variable (Pg w K mg base Z)in
abbrev ziP:Prop:=zfI Pg w K mg base 1 "promise" ["ballot","voter","last"] (zdr Z)
def zjI(Z:Cz):Sp3:=λts G Q=>match ts with
 | [.int b,.int w]=>Q (zaK (.ask b w)) G
 | _=>False
abbrev zoQ:Stmt:=top 13
theorem zql:FnScope ["ballot","wish"] ["ballot","wish"] (zac zoQ):=by walk_at "s"
theorem zrb{f:Addr}{fd:FuncData}(F:Fun K "ask" "ask" zoQ f fd) (aT:At K Z) (g_ASK:∃ t,mg "ASK"=some (.str "ask" t)):FOk Pg w K mg base 1 f fd ["ballot","wish"] (zjI Z):=by
 refine ok3 F zql (λts G Q h=>?_) (λcdv A outer s H E hr=>?_)
 ·unfold zjI at h; split at h<;>first | rfl | exact h.elim
 ·refine⟨_,(zaG (zbY (ziT (qa (znk g_ASK) (qa (qv 0) (qa (qv 1) qa0)))))),λts G Q h=>?_⟩;unfold zjI at h;split at h
  case h_2=>exact h.elim
  simp[zam,zaO,wOp,zas,wC,iI0,zad,wCB,zaf,zat,zaj,zbn,zah];exact h
variable (Pg w K mg base Z)in
abbrev zrV:Prop:=zfI Pg w K mg base 1 "ask" ["ballot","wish"] (zjI Z)
def zha(Z:Cz):Sp3:=λts G Q=>match ts with
 | [.int b,.int v,.int w]=>Q (.tup [.str "vote",.int b,.int v,.int w]) G
 | _=>False
abbrev zlw:Stmt:=top 14
theorem zoP:FnScope ["ballot","voter","wish"] ["ballot","voter","wish"] (zac zlw):=by walk_at "s"
theorem zpl{f:Addr}{fd:FuncData}(F:Fun K "vote" "vote" zlw f fd) (aT:At K Z) (g_VOTE:∃ t,mg "VOTE"=some (.str "vote" t)):FOk Pg w K mg base 1 f fd ["ballot","voter","wish"] (zha Z):=by
 refine ok3 F zoP (λts G Q h=>?_) (λcdv A outer s H E hr=>?_)
 ·unfold zha at h; split at h<;>first | rfl | exact h.elim
 ·refine⟨_,(zaG (zbY (ziT (qa (znk g_VOTE) (qa (qv 0) (qa (qv 1) (qa (qv 2) qa0))))))),λts G Q h=>?_⟩;unfold zha at h;split at h
  case h_2=>exact h.elim
  simp[zam,zaO,wOp,zas,wC,iI0,zad,wCB,zaf,zat,zaj,zbn,zah];exact h
variable (Pg w K mg base Z)in
abbrev zox:Prop:=zfI Pg w K mg base 1 "vote" ["ballot","voter","wish"] (zha Z)
def zfA(Z:Cz):Sp3:=λts G Q=>match ts with
 | [.int b,.int n]=>0 < n/\Q (.int (b % n)) G
 | _=>False
abbrev zi3:Stmt:=top 21
theorem znd:FnScope ["ballot","askers"] ["ballot","askers"] (zac zi3):=by walk_at "s"
theorem znA{f:Addr}{fd:FuncData}(F:Fun K "owner" "owner" zi3 f fd) (aT:At K Z) :FOk Pg w K mg base 1 f fd ["ballot","askers"] (zfA Z):=by
 refine ok3 F znd (λts G Q h=>?_) (λcdv A outer s H E hr=>?_)
 ·unfold zfA at h; split at h<;>first | rfl | exact h.elim
 ·refine⟨_,(zaG (zbY (zpY (qv 0) (qv 1)))),λts G Q h=>?_⟩;unfold zfA at h;split at h
  case h_2=>exact h.elim
  simp[zaO,wOp,zas,wC,iI,iI0,zad,wCB,zaf,zat,zaj,zah];exact⟨h.1,h.2⟩
variable (Pg w K mg base Z)in
abbrev zmZ:Prop:=zfI Pg w K mg base 1 "owner" ["ballot","askers"] (zfA Z)
def zcm(Z:Cz):Sp3:=λts G Q=>∃ p pr wr L t,∃ k:Nat,ts=[.ref p,.int k]/\G p=some (.ins Z.P (fP (.ref pr) wr))/\G pr=some (.lst L)/\L[k]?=some t/\Q t G
abbrev zbA:Stmt:=zau (top 15) 3
theorem zeE:FnScope ["self","k"] ["self","k"] (zac zbA):=by walk_at "s"
theorem zeO{f:Addr}{fd:FuncData}(F:Fun K "letter_at" "Pile.letter_at" zbA f fd) (aT:At K Z) (b_len:mg "len"=none):FOk Pg w K mg base 1 f fd ["self","k"] (zcm Z):=by
 refine ok3 F zeE (λts G Q h=>?_) (λcdv A outer s H E hr=>?_)
 ·obtain⟨p,pr,wr,L,t,k,rfl,_⟩:=h; rfl
 ·refine⟨_,(qss (ze6 (PW.pt (zqr (zrW (qv 1) zax) (zqs (zrX (qv 1) (zdA b_len (qa (zb9 (qv 0)) qa0)))))) (zaG zlE) zaL)
   (zaG (zbY (zbP hr (zb9 (qv 0)) (qv 1))))),λts G Q h=>?_⟩
  revert h;refine λx_0=>ex6 x_0 λp pr wr L t k h_0=>?_;clear x_0;have hp:=h_0.2.1;have h1:=h_0.2.2.1;have ht:=h_0.2.2.2.1;have h:=h_0.2.2.2.2;obtain rfl:=h_0.1;clear h_0;obtain⟨hi,hi2⟩:=List.getElem?_eq_some_iff.mp ht;have e1:¬ ((k:Int) < 0):=by lia
  have e2:¬ ((L.length:Int)<=(k:Int)):=by lia
  simp[zaH,zaS,zam,zaO,wOp,zas,wC,iI0,zad,wCB,zaf,zat,za6,zaJ,ix3,ixA,zcq,zaj,wOr,zb3,zah,zcX,za3,e1];refine zag hp zkc aT.row ?_;simp[h1,e2];refine⟨hi,zag hp zkc aT.row ?_⟩;simp[h1];have e1:atI L (k:Int)=some t:=zcg ht;simpa [e1] using h
variable (Pg w K mg base Z)in
abbrev zcS:Prop:=zdW Pg w K mg base 1 Z.P "letter_at" ["self","k"] (zcm Z)
def zbs(Z:Cz):Sp3:=λts G Q=>∃ (a:Addr) (v:Nat) (V:M.Voter) (b w:Int),ts=[.ref a,.int b]/\G a=some (.ins Z.V (fV (.int v) (oI V.promised) (oP V.voted))) /\
 match zfu (.prepare b) v V with
 | some (y,V')=>Q (zaK y) (updG G a (.ins Z.V (fV (.int v) (oI V'.promised) (oP V'.voted))))
 | none=>Q .non G
abbrev za2:Stmt:=zau (top 25) 4
theorem zc3:FnScope ["self","ballot"] ["self","ballot"] (zac za2):=by walk_at "s"
theorem zde{f:Addr}{fd:FuncData}(F:Fun K "hear_prepare" "Voter.hear_prepare" za2 f fd) (aT:At K Z) (F_promise:ziP Pg w K mg base Z):FOk Pg w K mg base 2 f fd ["self","ballot"] (zbs Z):=by
 refine ok3 F zc3 (λts G Q h=>?_) (λcdv A outer s H E hr=>?_)
 ·obtain⟨a,v,V,b,w,rfl,_⟩:=h; rfl
 ·refine⟨_,(qss (ze6 (PW.pt (zoU (zjN (zb9 (qv 0)) zi6) (zsq (zrX (zb9 (qv 0)) (qv 1))))) (zaG (zbY zi6)) zaL)
   (qss (zaz (qv 0) (qv 1))
   (zaG (zbY (zaE F_promise hr (qa (qv 1) (qa (zb9 (qv 0)) (qa (zb9 (qv 0)) qa0)))))))),λts G Q h=>?_⟩
  revert h;refine λx_0=>ex5 x_0 λa v ⟨pr,vo⟩ b w h_0=>?_;clear x_0;have ha:=h_0.2.1;have h:=h_0.2.2;obtain rfl:=h_0.1;clear h_0;simp[zaH,zaS,zam,zaO,wOp,zas,wC,iI0,zad,wCB,zaf,zat,zaj,zaV,zar,zcV,zfv,zfj,zbJ,isN,zb3,zap,zah];refine zag ha zei aT.bound ?_;cases pr with
  | none =>
   simp[zfu,M.lt?,M.le?]at h;simp[oI,isN];refine zan ha aT.bound rfl ?_;simp[zaH,zaS,zam,zaO,wOp,zas,wC,iI0,zad,wCB,zaf,zat,zaj,zaV,zar,zcV,zfv,zfj,zbJ,isN,zb3,zap,zah];refine zag zaa zeh aT.vnumber ?_;refine zag zaa zjq aT.last ?_;exact h
  | some p =>
   simp[oI,isN];refine zag ha zei aT.bound ?_;simp only[zfu,M.lt?,M.le?]at h;by_cases c:b<=p
   ·have c':¬ p < b:=by lia
    simp[c']at h;simp[zaH,zaS,zam,zaO,wOp,zas,wC,iI0,zad,wCB,zaf,zat,zaj,zaV,zar,zcV,zfv,zfj,zbJ,isN,zb3,zap,zah,oI,c];exact h
   ·have c':p < b:=by lia
    simp[c']at h;simp[zaH,zaS,zam,zaO,wOp,zas,wC,iI0,zad,wCB,zaf,zat,zaj,zaV,zar,zcV,zfv,zfj,zbJ,isN,zb3,zap,zah,oI,c];refine zan ha aT.bound rfl ?_;simp[zaH,zaS,zam,zaO,wOp,zas,wC,iI0,zad,wCB,zaf,zat,zaj,zaV,zar,zcV,zfv,zfj,zbJ,isN,zb3,zap,zah];refine zag zaa zeh aT.vnumber ?_;refine zag zaa zjq aT.last ?_;exact h
variable (Pg w K mg base Z)in
abbrev zbI:Prop:=zdW Pg w K mg base 2 Z.V "hear_prepare" ["self","ballot"] (zbs Z)
def zcl(Z:Cz):Sp3:=λts G Q=>∃ (a:Addr) (v:Nat) (V:M.Voter) (b w:Int),ts=[.ref a,.int b,.int w]/\G a=some (.ins Z.V (fV (.int v) (oI V.promised) (oP V.voted))) /\
 match zfu (.ask b w) v V with
 | some (y,V')=>Q (zaK y) (updG G a (.ins Z.V (fV (.int v) (oI V'.promised) (oP V'.voted))))
 | none=>Q .non G
abbrev zbx:Stmt:=zau (top 25) 5
theorem zeB:FnScope ["self","ballot","wish"] ["self","ballot","wish"] (zac zbx):=by walk_at "s"
theorem zeL{f:Addr}{fd:FuncData}(F:Fun K "hear_ask" "Voter.hear_ask" zbx f fd) (aT:At K Z) (F_vote:zox Pg w K mg base Z):FOk Pg w K mg base 2 f fd ["self","ballot","wish"] (zcl Z):=by
 refine ok3 F zeB (λts G Q h=>?_) (λcdv A outer s H E hr=>?_)
 ·obtain⟨a,v,V,b,w,rfl,_⟩:=h; rfl
 ·refine⟨_,(qss (ze6 (PW.pt (zoU (zjN (zb9 (qv 0)) zi6) (zsq (ztA (zb9 (qv 0)) (qv 1))))) (zaG (zbY zi6)) zaL)
   (qss (zaz (qv 0) (qv 1))
   (qss (zaz (qv 0) (ziT (qa (qv 1) (qa (qv 2) qa0))))
   (zaG (zbY (zaE F_vote hr (qa (qv 1) (qa (zb9 (qv 0)) (qa (qv 2) qa0))))))))),λts G Q h=>?_⟩
  revert h;refine λx_0=>ex5 x_0 λa v ⟨pr,vo⟩ b w h_0=>?_;clear x_0;have ha:=h_0.2.1;have h:=h_0.2.2;obtain rfl:=h_0.1;clear h_0;simp[zaH,zaS,zam,zaO,wOp,zas,wC,iI0,zad,wCB,zaf,zat,zaj,zaV,zar,zbn,zcV,zfv,zfj,zbJ,isN,zb3,zap,zah];refine zag ha zei aT.bound ?_;cases pr with
  | none =>
   simp[zfu,M.lt?,M.le?]at h;simp[oI,isN];refine zan ha aT.bound rfl ?_;simp[zaH,zaS,zam,zaO,wOp,zas,wC,iI0,zad,wCB,zaf,zat,zaj,zaV,zar,zbn,zcV,zfv,zfj,zbJ,isN,zb3,zap,zah];refine zan zaa aT.last rfl ?_;rw[zbo];simp[zaH,zaS,zam,zaO,wOp,zas,wC,iI0,zad,wCB,zaf,zat,zaj,zaV,zar,zbn,zcV,zfv,zfj,zbJ,isN,zb3,zap,zah];refine zag zaa zeh aT.vnumber ?_;exact h
  | some p =>
   simp[oI,isN];refine zag ha zei aT.bound ?_;simp only[zfu,M.lt?,M.le?]at h;by_cases c:b < p
   ·have c':¬ p<=b:=by lia
    simp[c']at h;simp[zaH,zaS,zam,zaO,wOp,zas,wC,iI0,zad,wCB,zaf,zat,zaj,zaV,zar,zbn,zcV,zfv,zfj,zbJ,isN,zb3,zap,zah,oI,c];exact h
   ·have c':p<=b:=by lia
    simp[c']at h;simp[zaH,zaS,zam,zaO,wOp,zas,wC,iI0,zad,wCB,zaf,zat,zaj,zaV,zar,zbn,zcV,zfv,zfj,zbJ,isN,zb3,zap,zah,oI,c];refine zan ha aT.bound rfl ?_;simp[zaH,zaS,zam,zaO,wOp,zas,wC,iI0,zad,wCB,zaf,zat,zaj,zaV,zar,zbn,zcV,zfv,zfj,zbJ,isN,zb3,zap,zah];refine zan zaa aT.last rfl ?_;rw[zbo];simp[zaH,zaS,zam,zaO,wOp,zas,wC,iI0,zad,wCB,zaf,zat,zaj,zaV,zar,zbn,zcV,zfv,zfj,zbJ,isN,zb3,zap,zah];refine zag zaa zeh aT.vnumber ?_;exact h
variable (Pg w K mg base Z)in
abbrev zcQ:Prop:=zdW Pg w K mg base 2 Z.V "hear_ask" ["self","ballot","wish"] (zcl Z)
def zdZ(Z:Cz):Sp3:=λts G Q=>∃ (a:Addr) (v:Nat) (V:M.Voter) (x:M.Let),ts=[.ref a,zaK x]/\G a=some (.ins Z.V (fV (.int v) (oI V.promised) (oP V.voted))) /\
 match zfu x v V with
 | some (y,V')=>Q (zaK y) (updG G a (.ins Z.V (fV (.int v) (oI V'.promised) (oP V'.voted))))
 | none=>Q .non G
abbrev zc6:Stmt:=zau (top 25) 3
theorem zhe:FnScope ["self","letter"] ["self","letter"] (zac zc6):=by walk_at "s"
theorem zht{f:Addr}{fd:FuncData}(F:Fun K "hear" "Voter.hear" zc6 f fd) (aT:At K Z) (g_ASK:∃ t,mg "ASK"=some (.str "ask" t)) (g_PREPARE:∃ t,mg "PREPARE"=some (.str "prepare" t)) (M_Voter_hear_ask:zcQ Pg w K mg base Z) (M_Voter_hear_prepare:zbI Pg w K mg base Z):FOk Pg w K mg base 3 f fd ["self","letter"] (zdZ Z):=by
 refine ok3 F zhe (λts G Q h=>?_) (λcdv A outer s H E hr=>?_)
 ·obtain⟨a,v,V,x,rfl,_⟩:=h; rfl
 ·refine⟨_,(qss (ze6 (zjO hr (zbP hr (qv 1) zax) (znk g_PREPARE)) (zaG (zbY (zbD (qv 0) M_Voter_hear_prepare hr (qa (zbP hr (qv 1) zax) qa0)))) zaL)
   (qss (ze6 (zjO hr (zbP hr (qv 1) zax) (znk g_ASK)) (zaG (zbY (zbD (qv 0) M_Voter_hear_ask hr (qa (zbP hr (qv 1) zax) (qa (zbP hr (qv 1) zax) qa0))))) zaL)
   (zaG (zbY zi6)))),λts G Q h=>?_⟩
  revert h;refine λx_0=>ex4 x_0 λa v V x h_0=>?_;clear x_0;have ha:=h_0.2.1;have h:=h_0.2.2;obtain rfl:=h_0.1;clear h_0;cases x with
  | prepare b =>
   simp[zaH,zaS,zam,zaO,wOp,zas,wC,iI0,zad,wCB,zaf,zat,zaJ,ix3,ixA,zcq,zaj,zay,zah,za3,zaK,wD,toD,ok1,ok2,zgT,ok4,at0,at1,at2];refine zai ha rfl ?_;exact⟨a,v,V,b,0,rfl,ha,h⟩
  | ask b w =>
   simp[zaH,zaS,zam,zaO,wOp,zas,wC,iI0,zad,wCB,zaf,zat,zaJ,ix3,ixA,zcq,zaj,zay,zah,za3,zaK,wD,toD,ok1,ok2,zgT,ok4,at0,at1,at2];refine zai ha rfl ?_;exact⟨a,v,V,b,w,rfl,ha,h⟩
  | promise b u l =>
   simp[zaH,zaS,zam,zaO,wOp,zas,wC,iI0,zad,wCB,zaf,zat,zaJ,ix3,ixA,zcq,zaj,zay,zah,za3,zaK,wD,toD,ok1,ok2,zgT,ok4,at0,at1,at2];exact h
  | vote b u w =>
   simp[zaH,zaS,zam,zaO,wOp,zas,wC,iI0,zad,wCB,zaf,zat,zaJ,ix3,ixA,zcq,zaj,zay,zah,za3,zaK,wD,toD,ok1,ok2,zgT,ok4,at0,at1,at2];exact h
variable (Pg w K mg base Z)in
abbrev zff:Prop:=zdW Pg w K mg base 3 Z.V "hear" ["self","letter"] (zdZ Z)
def zbG(Z:Cz):Sp3:=λts G Q=>∃ a nu st w ma ba fr nt ak l,ts=[.ref a]/\G a=some (.ins Z.A (fA nu st (.int w) ma ba fr (.ref nt) ak))/\G nt=some (zdR l)/\l.length<=1000/\∀ G',Ext G G'->Q (.int (P.wishToAsk w l)) G'
abbrev zaU:Stmt:=zau (top 23) 5
theorem zbH:FnScope ["self","lasts"] ["self"] (zac zaU):=by walk_at "s"
theorem zdB{f:Addr}{fd:FuncData}(F:Fun K "wish_to_ask" "Asker.wish_to_ask" zaU f fd) (aT:At K Z) (b_len:mg "len"=none) (b_max:mg "max"=none):FOk Pg w K mg base 1 f fd ["self"] (zbG Z):=by
 refine ok3 F zbH (λts G Q h=>?_) (λcdv A outer s H E hr=>?_)
 ·obtain⟨a,nu,st,w,ma,ba,fr,nt,ak,l,rfl,_⟩:=h; rfl
 ·refine⟨_,(qss (zqv (zjQ 1 ["last"] [none] zbH.nd (zgG (oN:=["self","lasts"]) (osc:=zac zaU) rfl rfl (by decide +kernel)) (zoZ (zb9 (qv 0))) (λ_ _ _ _=>(zaT 0 (show List.Nodup (["last"]:List Str)by decide +kernel))) (λ_ _ _ _=>(zoX (zjN (qv 0) zi6))) (λ_ _ _ _=>(qv 0))))
   (qss (ze6 (zjO hr (zdA b_len (qa (qv 1) qa0)) zax) (zaG (zbY (zb9 (qv 0)))) zaL)
   (zaG (zbY (zbP hr (zoW hr b_max (qa (qv 1) qa0)) zax))))),λts G Q h=>?_⟩
  revert h;refine λx_0=>zrA x_0 λa nu st w ma ba fr nt ak l h_0=>?_;clear x_0;have ha:=h_0.2.1;have h1:=h_0.2.2.1;have hl:=h_0.2.2.2.1;have h:=h_0.2.2.2.2;obtain rfl:=h_0.1;clear h_0;simp[zaH,zaS,zam,zaO,wOp,zas,wC,iI0,zad,wCB,zaf,zat,za6,zaJ,ix3,ixA,zcq,zaj,zaV,zbN,zcV,zfj,zbJ,isN,zb3,zav,zah,zbu,za3];refine .inl ⟨nt,_,h1,?_⟩;simp[zaH,zaS,zam,zaO,wOp,zas,wC,iI0,zad,wCB,zaf,zat,za6,zaJ,ix3,ixA,zcq,zaj,zaV,zbN,zcV,zfj,zbJ,isN,zb3,zav,zah,zbu,za3,zaW,znS];refine zag ha zfG aT.noted ?_;simp[h1,zdR];intro ob;refine⟨by lia,?_⟩;have et:List.map ((λx:Key×T=>x.snd)∘λp:Nat×Option (Int×Int)=>(Sum.inl (p.fst:Int),oP p.snd)) l=l.map λp=>oP p.2:=rfl;rw[et];refine zdw (λt=>!isN t) id zaa _ [] (λx hx R k=>k _ (λR' r=>by simpa [zaH,zaS,zam,zaO,zg5,wOp,zas,wC,iI,iI0,zad,wCB,zaf,zat,za6,zaJ,ix3,ixA,zcq,zaj,zaV,zar,zbn,zbN,zhN,zcV,zfv,wOr,zfj,ziZ,zoA,ziW,ziX,zoC,zbJ,isN,zb3,zap,zay,zaq,zbe,zaI,ziR,zav,ziU,zcb,zgs,za1,iR1,iR2,zah,zoB,isInt,zga,zdU,mx3,mn3,zaN,wP0,wP1,zaC,ziS,zk5,zed,zbu,zce,zcX,zeS,zbf,zeT,ziY,zew,ziw,za3] using r) λ_ R' r=>by simpa [zaH,zaS,zam,zaO,zg5,wOp,zas,wC,iI,iI0,zad,wCB,zaf,zat,za6,zaJ,ix3,ixA,zcq,zaj,zaV,zar,zbn,zbN,zhN,zcV,zfv,wOr,zfj,ziZ,zoA,ziW,ziX,zoC,zbJ,isN,zb3,zap,zay,zaq,zbe,zaI,ziR,zav,ziU,zcb,zgs,za1,iR1,iR2,zah,zoB,isInt,zga,zdU,mx3,mn3,zaN,wP0,wP1,zaC,ziS,zk5,zed,zbu,zce,zcX,zeS,zbf,zeT,ziY,zew,ziw,za3] using r) ?_;rw[List.nil_append,zpu,List.map_id];intro d hd;have nd:d≠nt:=by rintro rfl; rw[zaa]at hd; cases hd
  rw[zab nd]at hd;refine⟨ob,by rw[zab (Ne.symm nd)]; exact zaa,?_⟩;have x1:Ext G (updG (updG (updG G nt (.dF ob (l.map λp=>(Sum.inl (p.1:Int),oP p.2)))) d (.lst ((P.lasts l).map pT))) nt (zdR l)):=λb o e=>by
   by_cases eb:b=nt
   ·subst eb; rw[zaa,<- h1,e]
   ·rw[zab eb,zab (neG e hd),zab eb]; exact e
  have hx:=h _ x1;have xa:=x1 _ _ ha;have gd:updG (updG (updG G nt (.dF ob (l.map λp=>(Sum.inl (p.1:Int),oP p.2)))) d (.lst ((P.lasts l).map pT))) nt (zdR l) d=some (.lst ((P.lasts l).map pT)):=by rw[zab nd]; exact zaa
  show zaH _ _ _ _ (updG _ nt (zdR l));generalize updG (updG (updG G nt (.dF ob (l.map λp=>(Sum.inl (p.1:Int),oP p.2)))) d (.lst ((P.lasts l).map pT))) nt (zdR l)=G3 at *;simp[zaH,zaS,zam,zaO,wOp,zas,wC,iI0,zad,wCB,zaf,zat,za6,zaJ,ix3,ixA,zcq,zaj,zaV,zbN,zcV,zfj,zbJ,isN,zb3,zav,zah,zbu,za3,gd,wD,toD,zn1];cases el:P.lasts l with
  | nil =>
   rw[zm6 el]at hx;simp;exact zag xa zpI aT.wish hx
  | cons q r =>
   rw[zk9 el]at hx;have n0:¬ ((r.length:Int)+1=0):=by lia
   simp[n0,zrd,gd,el];refine⟨q.1,q.2,r,⟨rfl,rfl⟩,?_⟩;simpa [zaH,zaS,zam,zaO,zg5,wOp,zas,wC,iI,iI0,zad,wCB,zaf,zat,za6,zaJ,ix3,ixA,zcq,zaj,zaV,zar,zbn,zbN,zhN,zcV,zfv,wOr,zfj,ziZ,zoA,ziW,ziX,zoC,zbJ,isN,zb3,zap,zay,zaq,zbe,zaI,ziR,zav,ziU,zcb,zgs,za1,iR1,iR2,zah,zoB,isInt,zga,zdU,mx3,mn3,zaN,wP0,wP1,zaC,ziS,zk5,zed,zbu,zce,zcX,zeS,zbf,zeT,ziY,zew,ziw,za3,pT,at1] using hx
variable (Pg w K mg base Z)in
abbrev zb1:Prop:=zdW Pg w K mg base 1 Z.A "wish_to_ask" ["self"] (zbG Z)
def zd3(Z:Cz):Sp3:=λts G Q=>∃ (a nt ak:Addr) (i n w fr:T) (wi:Int) (m:Nat) (bal:Option Int) (noted:List (Nat×Option (Int×Int))) (asked:List (Int×List Nat)) (b:Int) (v:Nat) (l:Option (Int×Int)),ts=[.ref a,zaK (.promise b v l)] /\
 G a=some (.ins Z.A (fA i n (.int wi) (.int m) (oI bal) fr (.ref nt) (.ref ak)))/\G nt=some (zdR noted)/\G ak=some (akO asked)/\nt≠ak/\(bal=some b->noted.length < 60)/\asked.length<=1000000 /\
 if bal=some b/\P.getL asked b=none then
  (if m < 2 * (P.putL noted v l).length then ∀ G',Ext (updG (updG G nt (zdR (P.putL noted v l))) ak (akO (P.putL asked b (P.sortN ((P.putL noted v l).map (·.1)))))) G'->Q (zaK (.ask b (P.wishToAsk wi (P.putL noted v l)))) G'
  else Q .non (updG G nt (zdR (P.putL noted v l))))
 else Q .non G
abbrev zdb:Stmt:=zau (top 23) 4
theorem zhh:FnScope ["self","letter"] ["self","letter"] (zac zdb):=by walk_at "s"
theorem zhy{f:Addr}{fd:FuncData}(F:Fun K "hear" "Asker.hear" zdb f fd) (aT:At K Z) (b_len:mg "len"=none) (b_sorted:mg "sorted"=none) (b_tuple:mg "tuple"=none) (F_ask:zrV Pg w K mg base Z) (F_more_than_half:zbE Pg w K mg base Z) (M_Asker_wish_to_ask:zb1 Pg w K mg base Z):FOk Pg w K mg base 2 f fd ["self","letter"] (zd3 Z):=by
 refine ok3 F zhh (λts G Q h=>?_) (λcdv A outer s H E hr=>?_)
 ·obtain⟨a,nt,ak,i,n,w,fr,wi,m,bal,noted,asked,b,v,l,rfl,_⟩:=h; rfl
 ·refine⟨_,(qss (ze6 (PW.pt (zqr (zqu hr (zbP hr (qv 1) zax) (zb9 (qv 0))) (zqs (zs6 hr (zbP hr (qv 1) zax) (zb9 (qv 0)))))) (zaG (zbY zi6)) zaL)
   (qss (zjP hr (zbP hr (qv 1) zax) (zb9 (qv 0)) (zbP hr (qv 1) zax))
   (qss (ze6 (zss (zsr (zaE F_more_than_half hr (qa (zdA b_len (qa (zb9 (qv 0)) qa0)) (qa (zb9 (qv 0)) qa0))))) (zaG (zbY zi6)) zaL)
   (qss (zjP hr (zhl b_tuple (qa (zoV b_sorted (qa (zb9 (qv 0)) qa0)) qa0)) (zb9 (qv 0)) (zb9 (qv 0)))
   (zaG (zbY (zaE F_ask hr (qa (zb9 (qv 0)) (qa (zbb (qv 0) M_Asker_wish_to_ask hr) qa0))))))))),λts G Q h=>?_⟩
  revert h;refine λx_0=>zsU x_0 λa nt ak i n w' fr wi m bal noted asked b v l h_0=>?_;clear x_0;have ha:=h_0.2.1;have h1:=h_0.2.2.1;have h2:=h_0.2.2.2.1;have hne:=h_0.2.2.2.2.1;have hl:=h_0.2.2.2.2.2.1;have hk:=h_0.2.2.2.2.2.2.1;have h:=h_0.2.2.2.2.2.2.2;obtain rfl:=h_0.1;clear h_0;have na:a≠nt:=zrY ha h1 (by simp[zdR]);have nk:a≠ak:=zrY ha h2 (by simp[akO]);have ln:=zjR noted v l;simp[zaH,zaS,zam,zaO,wOp,zas,wC,iI0,zad,wCB,zaf,zat,za6,zaJ,ix3,ixA,zcq,zaj,zaV,zar,zhN,zcV,wOr,zfj,zb3,zaq,ziR,ziU,zgs,za1,zah,za3,zaK,at1];refine zag ha zcp aT.ballot ?_;simp only[wD,toD,zjG,zrB];by_cases c1:bal=some b
  ·simp[c1];refine zag ha zkd aT.asked ?_;simp only[zp4,zs3 h2,zrQ h2];cases e2:P.getL asked b with
   | some vs =>
    simp[c1,e2]at h;simpa using h
   | none =>
    have hl':=hl c1;simp only[c1,e2,and_self,if_true]at h;simp only[Option.map_none,Option.isSome_none,id,Bool.false_eq_true,if_false,at2,at3];refine zag ha zfG aT.noted ?_;refine zpn h1 (by lia) ?_;generalize hN:P.putL noted v l=N at *;have ha1:updG G nt (zdR N) a=some (.ins Z.A (fA i n (.int wi) (.int m) (oI bal) fr (.ref nt) (.ref ak))):=by rw[zab na]; exact ha
    have h21:updG G nt (zdR N) ak=some (akO asked):=by rw[zab (Ne.symm hne)]; exact h2
    have h11:updG G nt (zdR N) nt=some (zdR N):=zaa;generalize updG G nt (zdR N)=G1 at *;refine zag ha1 zfG aT.noted ?_;simp only[h11,zdR,List.length_map];refine zag ha1 zpK aT.many ?_;simp only[zaB];by_cases c3:m < 2 * N.length
    ·have c3':(m:Int) < 2 * (N.length:Int):=by lia
     simp only[c3,if_true]at h;simp only[c3',decide_true,if_true];refine zag ha1 zfG aT.noted ?_;simp only[zqf,h11,zdR,znB];refine⟨by simp; lia,λp hp=>?_⟩;have np:p≠a:=Ne.symm (neG ha1 hp);have np2:p≠ak:=Ne.symm (neG h21 hp);have np3:p≠nt:=Ne.symm (neG h11 hp);rw[zoK];have ha2:∀ u,updG G1 p u a=some (.ins Z.A (fA i n (.int wi) (.int m) (oI bal) fr (.ref nt) (.ref ak))):=λu=>by rw[zab (Ne.symm np)]; exact ha1
     simp only[zaa];refine zag (ha2 _) zkd aT.asked ?_;refine zag (ha2 _) zcp aT.ballot ?_;have ev:T.tup (((P.sortN (N.map (·.1))).map λ(v:Nat)=>(v:Int)).map T.int)=vsT (P.sortN (N.map (·.1))):=by rw[List.map_map]; rfl
     rw[ev,c1];refine zrO (by rw[zab (Ne.symm np2)]; exact h21) hk ?_;have ha3:∀ u t,updG (updG G1 p u) ak t a=some (.ins Z.A (fA i n (.int wi) (.int m) (oI bal) fr (.ref nt) (.ref ak))):=λu t=>by rw[zab nk]; exact ha2 u
     have h13:∀ u t,updG (updG G1 p u) ak t nt=some (zdR N):=λu t=>by rw[zab hne,zab (Ne.symm np3)]; exact h11
     refine zag (ha3 _ _) zcp aT.ballot ?_;refine zai (ha3 _ _) rfl ?_;refine⟨_,_,_,_,_,_,_,_,_,_,rfl,ha3 _ _,h13 _ _,by lia,λG' x=>?_⟩;rw[c1];show Q (zaK (.ask b (P.wishToAsk wi N))) G';refine h G' λc o ec=>x c o ?_;by_cases e3:c=ak
     ·subst e3; rw[zaa]at ec ⊢; exact ec
     ·rw[zab e3]at ec ⊢;rw[zab (neG ec hp)]; exact ec
    ·have c3':¬ (m:Int) < 2 * (N.length:Int):=by lia
     simp only[c3,if_false]at h;simp[c3'];exact h
  ·have c2:¬ (bal=some b/\P.getL asked b=none):=λz=>c1 z.1;rw[if_neg c2]at h;simp[c1];exact h
variable (Pg w K mg base Z)in
abbrev zfh:Prop:=zdW Pg w K mg base 2 Z.A "hear" ["self","letter"] (zd3 Z)
theorem zgg{G1:Gp}{A:Adr}{S1:P.R}{y:M.Let}{Q:VK3}(aT:At K Z)(R1:RoomAt Z G1 A S1)(hl:S1.letters.length<=1000000)(h:∀ G',RoomAt Z G' A (S1.write y)->Fr G1 A S1 G' A (S1.write y)->Q .non G') :
  if isN (zaK y)=true then Q .non G1 else zmt K (.ref (A .r)) G1 "pile" λx G1=>zia x Z.P "write" G1 (zcu Z [x,zaK y] G1 λx G1=>Q .non G1):=by
 have e:isN (zaK y)=false:=by cases y<;>rfl
 rw[e,if_neg Bool.false_ne_true];refine zag (R1.at' .r trivial) zgd aT.pile ?_;refine zai (R1.at' .p trivial) rfl ?_;refine⟨_,_,_,_,_,rfl,R1.at' .p trivial,R1.at' .pr trivial,R1.at' .pw trivial,R1.ne (s:=.pr) (t:=.pw) trivial trivial (by simp),hl,?_⟩;obtain⟨R2,F2⟩:=R1.wrote y rfl;exact h _ R2 F2
theorem zqW{n:Nat}(h:0 < n)(b:Int):b % (n:Int)=(M.own n b:Int):=by
 unfold M.own;have:=Int.emod_nonneg b (b:=(n:Int)) (by lia);lia
def ze4(Z:Cz):Sp3:=λts G Q=>∃ (A:Adr) (S:P.R) (x:M.Let) (t:T) (v:Nat),ts=[.ref (A .r),zaK x,t]/\RoomAt Z G A S/\Fit S/\(ztb x->v < S.many/\t=.ref (A (.vs v))) /\
 ∀ G',RoomAt Z G' A (S.hear x v)->Fr G A S G' A (S.hear x v)->Q .non G'
abbrev zdQ:Stmt:=zau (top 27) 14
theorem zb7:FnScope ["self","letter","voter","answer"] ["self","letter","voter"] (zac zdQ):=by walk_at "s"
theorem zih{f:Addr}{fd:FuncData}(F:Fun K "come" "Room.come" zdQ f fd) (aT:At K Z) (b_len:mg "len"=none) (g_PROMISE:∃ t,mg "PROMISE"=some (.str "promise" t)) (g_VOTE:∃ t,mg "VOTE"=some (.str "vote" t)) (F_owner:zmZ Pg w K mg base Z) (M_Asker_hear:zfh Pg w K mg base Z) (M_Pile_write:zdn Pg w K mg base Z) (M_Voter_hear:zff Pg w K mg base Z):FOk Pg w K mg base 4 f fd ["self","letter","voter"] (ze4 Z):=by
 refine ok3 F zb7 (λts G Q h=>?_) (λcdv A outer s H E hr=>?_)
 ·obtain⟨A,S,x,t,v,rfl,_⟩:=h; rfl
 ·refine⟨_,(qss (zev 3 zb7.nd zi6)
   (qss (ze6 (zjO hr (zbP hr (qv 1) zax) (znk g_PROMISE)) (zaG (zev 3 zb7.nd (zbD (zbP hr (zb9 (qv 0)) (zaE (F_owner.mono (by decide:1<=3)) hr (qa (zbP hr (qv 1) zax) (qa (zdA b_len (qa (zb9 (qv 0)) qa0)) qa0)))) (M_Asker_hear.mono (by decide:2<=3)) hr (qa (qv 1) qa0)))) (zaG (ze6 (zqu hr (zbP hr (qv 1) zax) (znk g_VOTE)) (zaG (zev 3 zb7.nd (zbD (qv 2) M_Voter_hear hr (qa (qv 1) qa0)))) zaL)))
   (zaG (ze6 (zjN (qv 3) zi6) (zaG (zb2 (zbD (zb9 (qv 0)) (M_Pile_write.mono (by decide:1<=3)) hr (qa (qv 3) qa0)))) zaL)))),λts G Q h=>?_⟩
  revert h;refine λx_0=>ex5 x_0 λA S x t v h_0=>?_;clear x_0;have R:=h_0.2.1;have ft:=h_0.2.2.1;have hv:=h_0.2.2.2.1;have h:=h_0.2.2.2.2;obtain rfl:=h_0.1;clear h_0;simp[zaH,zaS,zam,wOp,zas,wC,iI0,zad,wCB,zaf,zat,za6,zaj,zaV,zar,zcV,zfj,zbJ,isN,zb3,zay,zaI,zah,za3];cases x with
  | prepare b =>
   obtain⟨hv',rfl⟩:=hv trivial;refine zaw (i:=0) rfl ?_;simp[wD,toD,zhP,ok1,ok2,zgT,ok4,s12,s13,s14,s23,s24,s34,s12.symm,s13.symm,s14.symm,s23.symm,s24.symm,s34.symm];refine zaw (i:=0) rfl ?_;simp[wD,toD,zhP,ok1,ok2,zgT,ok4,s12,s13,s14,s23,s24,s34,s12.symm,s13.symm,s14.symm,s23.symm,s24.symm,s34.symm];refine zai (R.at' (.vs v) hv') rfl ?_;refine⟨_,v,S.voters v,.prepare b,rfl,R.at' (.vs v) hv',?_⟩;rw[zit (x:=.prepare b) trivial]at h;cases eh:zfu (.prepare b) v (S.voters v)with
   | none =>
    simp only[eh]at h;simp;exact h G R Fr.refl
   | some q =>
    obtain⟨y,V'⟩:=q;simp only[eh]at h;obtain⟨R1,F1⟩:=R.setV hv' V';exact zgg aT R1 ft.ln λG' R2 F2=>h G' R2 (F1.trans F2)
  | ask b w =>
   obtain⟨hv',rfl⟩:=hv trivial;refine zaw (i:=0) rfl ?_;simp[wD,toD,zhP,ok1,ok2,zgT,ok4,s12,s13,s14,s23,s24,s34,s12.symm,s13.symm,s14.symm,s23.symm,s24.symm,s34.symm];refine zaw (i:=0) rfl ?_;simp[wD,toD,zhP,ok1,ok2,zgT,ok4,s12,s13,s14,s23,s24,s34,s12.symm,s13.symm,s14.symm,s23.symm,s24.symm,s34.symm];refine zai (R.at' (.vs v) hv') rfl ?_;refine⟨_,v,S.voters v,.ask b w,rfl,R.at' (.vs v) hv',?_⟩;rw[zit (x:=.ask b w) trivial]at h;cases eh:zfu (.ask b w) v (S.voters v)with
   | none =>
    simp only[eh]at h;simp;exact h G R Fr.refl
   | some q =>
    obtain⟨y,V'⟩:=q;simp only[eh]at h;obtain⟨R1,F1⟩:=R.setV hv' V';exact zgg aT R1 ft.ln λG' R2 F2=>h G' R2 (F1.trans F2)
  | promise b u l =>
   have ho:=zqW ft.n0 b;have hlt:=P.own_lt (b:=b) ft.n0;refine zaw (i:=0) rfl ?_;simp[wD,toD,zhP,ok1,ok2,zgT,ok4,s12,s13,s14,s23,s24,s34,s12.symm,s13.symm,s14.symm,s23.symm,s24.symm,s34.symm];refine zag (R.at' .r trivial) zej aT.askers ?_;refine zaw (i:=1) rfl ?_;refine zag (R.at' .r trivial) zej aT.askers ?_;simp[R.at' .la trivial,obj];refine⟨by have:=ft.n0; lia,?_⟩;rw[ho];refine zbC (R.at' .la trivial) (by simp[hlt]; rfl) ?_;refine zai (R.at' (.as _) hlt) rfl ?_;refine⟨_,_,_,_,_,.non,_,_,_,_,_,_,b,u,l,rfl,R.at' (.as _) hlt,R.at' (.nt _) hlt,R.at' (.ak _) hlt,R.ne (s:=.nt _) (t:=.ak _) hlt hlt (by simp),λz=>ft.nt _ b z,ft.ak _,?_⟩;simp only[P.R.hear,P.R.note]at h;by_cases c1:(S.askers (M.own S.wishes.length b)).ballot=some b/\P.getL (S.askers (M.own S.wishes.length b)).asked b=none
   ·rw[if_pos c1]at h ⊢;obtain⟨R1,F1⟩:=R.noted hlt (P.putL (S.askers (M.own S.wishes.length b)).noted u l);by_cases c2:S.many < 2 * (P.putL (S.askers (M.own S.wishes.length b)).noted u l).length
    ·rw[if_pos c2]at h ⊢;obtain⟨R2,F2⟩:=R1.asked hlt (P.putL (S.askers (M.own S.wishes.length b)).asked b (P.sortN ((P.putL (S.askers (M.own S.wishes.length b)).noted u l).map (·.1))));rw[zoO,zlu]at R2 F2;intro G3 x3;have R3:=R2.ext x3;exact zgg aT R3 ft.ln λG' R4 F4=>h G' R4 ((F1.trans F2).trans ((Fr.ext x3).trans F4))
    ·rw[if_neg c2]at h ⊢;simp;exact h _ R1 F1
   ·rw[if_neg c1]at h ⊢;simp;exact h G R Fr.refl
  | vote b u w =>
   refine zaw (i:=0) rfl ?_;simp[wD,toD,zhP,ok1,ok2,zgT,ok4,s12,s13,s14,s23,s24,s34,s12.symm,s13.symm,s14.symm,s23.symm,s24.symm,s34.symm];refine zaw (i:=0) rfl ?_;simp[wD,toD,zhP,ok1,ok2,zgT,ok4,s12,s13,s14,s23,s24,s34,s12.symm,s13.symm,s14.symm,s23.symm,s24.symm,s34.symm];exact h G R Fr.refl
variable (Pg w K mg base Z)in
abbrev zgq:Prop:=zdW Pg w K mg base 4 Z.R "come" ["self","letter","voter"] (ze4 Z)
def zd1(Z:Cz):Sp3:=λts G Q=>∃ (A:Adr) (S:P.R) (k v:Nat),ts=[.ref (A .r),.int k,.int v]/\RoomAt Z G A S/\Fit S/\k < S.letters.length/\v < S.many /\
 ∀ G',RoomAt Z G' A (S.bring k v)->Fr G A S G' A (S.bring k v)->Q .non G'
abbrev zc8:Stmt:=zau (top 27) 4
theorem zd9:FnScope ["self","k","voter","letter"] ["self","k","voter"] (zac zc8):=by walk_at "s"
theorem zhv{f:Addr}{fd:FuncData}(F:Fun K "bring" "Room.bring" zc8 f fd) (aT:At K Z) (M_Pile_letter_at:zcS Pg w K mg base Z) (M_Room_come:zgq Pg w K mg base Z) (M_Room_voter_at:zbc Pg w K mg base Z):FOk Pg w K mg base 5 f fd ["self","k","voter"] (zd1 Z):=by
 refine ok3 F zd9 (λts G Q h=>?_) (λcdv A outer s H E hr=>?_)
 ·obtain⟨A,S,k,v,rfl,_⟩:=h; rfl
 ·refine⟨_,(qss (zev 3 zd9.nd (zbD (zb9 (qv 0)) (M_Pile_letter_at.mono (by decide:1<=4)) hr (qa (qv 1) qa0)))
   (zaG (zb2 (zbD (qv 0) M_Room_come hr (qa (qv 3) (qa (zbD (qv 0) (M_Room_voter_at.mono (by decide:1<=4)) hr (qa (qv 2) qa0)) qa0)))))),λts G Q h=>?_⟩
  revert h;refine λx_0=>ex4 x_0 λA S k v h_0=>?_;clear x_0;have R:=h_0.2.1;have ft:=h_0.2.2.1;have hk:=h_0.2.2.2.1;have hv:=h_0.2.2.2.2.1;have h:=h_0.2.2.2.2.2;obtain rfl:=h_0.1;clear h_0;have el:S.letters[k]?=some S.letters[k]:=lGe hk;have eb:S.bring k v=S.hear S.letters[k] v:=by unfold P.R.bring; rw[el]
  rw[eb]at h;simp[zaH,wOp,zas,wC,iI0,zad,wCB,zaf,zat,zaj,zaV,zb3,zay,zaI,zah];refine zag (R.at' .r trivial) zgd aT.pile ?_;refine zai (R.at' .p trivial) rfl ?_;refine⟨_,_,_,_,zaK S.letters[k],k,rfl,R.at' .p trivial,R.at' .pr trivial,by rw[List.getElem?_map,el]; rfl,?_⟩;refine zai (R.at' .r trivial) rfl ?_;refine zai (R.at' .r trivial) rfl ?_;refine⟨_,_,_,_,_,_,.ref (A (.vs v)),v,rfl,R.at' .r trivial,R.at' .lv trivial,by simp[hv],?_⟩;exact⟨A,S,S.letters[k],_,v,rfl,R,ft,λ_=>⟨hv,rfl⟩,h⟩
variable (Pg w K mg base Z)in
abbrev zdk:Prop:=zdW Pg w K mg base 5 Z.R "bring" ["self","k","voter"] (zd1 Z)
def zc0(Z:Cz):Sp3:=λts G Q=>∃ (L:List M.Let) (m:Nat),ts=[.tup (L.map zaK),.int m]/\L.length<=100000/\(P.won L m).length < 64/\∀ G',Ext G G'->Q (.tup ((za0 (P.won L m)).map pT)) G'
abbrev zbp:Stmt:=top 18
theorem za9:FnScope ["letters","many","counts","letter","pair"] ["letters","many"] (zac zbp):=by walk_at "s"
theorem zfV{f:Addr}{fd:FuncData}(F:Fun K "chosen_pairs" "chosen_pairs" zbp f fd) (aT:At K Z) (b_sorted:mg "sorted"=none) (b_tuple:mg "tuple"=none) (g_VOTE:∃ t,mg "VOTE"=some (.str "vote" t)) (F_more_than_half:zbE Pg w K mg base Z):FOk Pg w K mg base 2 f fd ["letters","many"] (zc0 Z):=by
 refine ok3 F za9 (λts G Q h=>?_) (λcdv A outer s H E hr=>?_)
 ·obtain⟨L,m,rfl,_⟩:=h; rfl
 ·refine⟨_,(qss (zev 2 za9.nd zlG)
   (qss (zkF (zdd (qv 0)) (zaT 3 za9.nd) (zaG (ze6 (zjO hr (zbP hr (qv 3) zax) (znk g_VOTE)) (qss (zev 4 za9.nd (ziT (qa (zbP hr (qv 3) zax) (qa (zbP hr (qv 3) zax) qa0))))
   (zaG (zjP hr (zgr (zsA hr (qv 2) (qv 4) zax) zax) (qv 2) (qv 4)))) zaL)))
   (zaG (zqv (zbY (zhl b_tuple (qa (zni b_sorted (qa (zh6 ["pair","many","counts"] [none,some 1,some 2] (zgG (oN:=["letters","many","counts","letter","pair"]) (osc:=zac zbp) rfl rfl (by decide +kernel)) (zqC (qv 2)) (λ_ _ _ _=>(zaT 0 (show List.Nodup (["pair","many","counts"]:List Str)by decide +kernel))) (λ_ _ _ _=>(zoX (zsr (zaE F_more_than_half hr (qa (zbP hr (qv 2) (qv 0)) (qa (qv 1) qa0)))))) (λ_ _ _ _=>(qv 0))) qa0)) qa0))))))),λts G Q h=>?_⟩
  obtain⟨L,m,rfl,hL,h64,h⟩:=h;simp[zaH,zaS,zam,zaO,wOp,zas,wC,iI0,zad,wCB,zaf,zat,zaj,zaV,zar,zbn,zbN,zhN,zcV,ziR,zav,ziU,zcb,zgs,za1,zah,zbu,zce,zew,zaW];intro d hd;refine zba (J:=λr τ G1=>∃ L1 L2 o3 o4,L=L1++L2/\r=L2.map zaK/\τ=[some (.tup (L.map zaK)),some (.int m),some (.ref d),o3,o4]/\G1=updG G d (cO (P.counts L1))) (λr τ G1 j=>trivial) (λτ G1 j=>?_) (λx r τ G1 N hN j=>?_) _ _ _ ⟨[],L,_,_,rfl,rfl,rfl,rfl⟩
  ·revert j;refine λx_0=>ex4 x_0 λL1 L2 o3 o4 h_0=>?_;clear x_0;have eL:=h_0.1;have er:=h_0.2.1;obtain rfl:=h_0.2.2.1;obtain rfl:=h_0.2.2.2;clear h_0;have e2:L2=[]:=by simpa using er.symm
   subst e2;rw[List.append_nil]at eL;subst eL;cases hcn:P.counts L with
   | nil =>
    have hw:P.won L m=[]:=by simp[P.won,hcn]
    rw[hw]at h;refine .inl ⟨d,[],zaa,?_⟩;simp[zaH,zaS,zam,zaO,wOp,zas,wC,iI0,zad,wCB,zaf,zat,zaJ,ix3,ixA,zcq,zaj,zaV,zar,zbn,zbN,zhN,zcV,ziR,zav,ziU,zcb,zgs,za1,zah,zbu,zce,zew,ziw,za3,zaW,zru,zaa,zeY,zbu,cO];intro ob l hl;rw[zbo]at hl ⊢;have n1:l≠d:=by rintro rfl; rw[zaa]at hl; cases hl
    rw[zab n1]at hl;simp only[zm9,zaa];refine⟨[],rfl,by simp,by decide,λq hq=>?_⟩;have n2:q≠l:=by rintro rfl; rw[zaa]at hq; cases hq
    rw[zab n2]at hq;have n3:q≠d:=by rintro rfl; rw[zaa]at hq; cases hq
    rw[zab n3]at hq
    try simp only[zaa]
    refine⟨ob,by rw[zab (Ne.symm n3),zab (Ne.symm n1)]; exact zaa,?_⟩;refine h _ λa o e=>?_;have e1:=neG e hd;rw[zab e1,zab (neG e hq),zab (neG e hl),zab e1];exact e
   | cons y r =>
    have hne:P.counts L≠[]:=by rw[hcn]; simp
    have hlen:(P.counts L).length<=1000000:=by have:=zg0 L; lia
    rw[<- hcn];rw[zrM hne];clear hcn;refine .inr ⟨d,_,zaa,?_⟩;simp[zaH,zaS,zam,zaO,wOp,zas,wC,iI0,zad,wCB,zaf,zat,zaj,zaV,zar,zbn,zbN,zhN,zcV,ziR,zav,ziU,zcb,zgs,za1,zah,zbu,zce,zew,zaW,zru,zaa];intro ob;rw[zbo];refine⟨hlen,?_⟩;have et:List.map ((λkv:LK×T=>lkT kv.1)∘λp:(Int×Int)×Int=>(pK p.1,T.int p.2)) (P.counts L)=(P.counts L).map λp=>pT p.1:=rfl;rw[et];refine zdw (zoz L m) id zaa _ [] (λx hx R k=>k _ (λR' r=>?_) λ_ R' r=>by simpa [zaH,zaS,zam,zaO,zg5,wOp,zas,wC,iI,iI0,zad,wCB,zaf,zat,za6,zaJ,ix3,ixA,zcq,zaj,zaV,zar,zbn,zbN,zhN,zcV,zfv,wOr,zfj,ziZ,zoA,ziW,ziX,zoC,zbJ,isN,zb3,zap,zay,zaq,zbe,zaI,ziR,zav,ziU,zcb,zgs,za1,iR1,iR2,zah,zoB,isInt,zga,zdU,mx3,mn3,zaN,wP0,wP1,zaC,ziS,zk5,zed,zbu,zce,zcX,zeS,zbf,zeT,ziY,zew,ziw,za3] using r) ?_
    ·obtain⟨p,hp,rfl⟩:=List.mem_map.mp hx;have hg:=zrL (G:=updG G d (.dG ob ((P.counts L).map λp=>(pK p.1,T.int p.2)))) zaa p.1;have hv:=P.getL_mem (P.counts_nodup L) (show(p.1,p.2)∈P.counts L from hp);have e:zoz L m (pT p.1)=decide ((m:Int) < 2 * p.2):=by
      have:zlQ (pT p.1)=some p.1:=rfl;simp only[zoz,this,hv,Option.getD_some]
     rw[e]at r;rw[hv]at hg;simp[zaH,zaS,zam,zaO,wOp,zas,wC,iI0,zad,wCB,zaf,zat,zaj,zaV,zar,zbn,zbN,zhN,zcV,ziR,zav,ziU,zcb,zgs,za1,zah,zbu,zce,zew,zaW];refine zpz hg ?_;simp only[zaB];exact r
    ·rw[List.nil_append,zr5,List.map_id];intro l hl;have n1:l≠d:=by rintro rfl; rw[zaa]at hl; cases hl
     rw[zab n1]at hl;simp only[zm9,zaa];refine⟨P.won L m,rfl,P.won_nodup L m,h64,λq hq=>?_⟩;have n2:q≠l:=by rintro rfl; rw[zaa]at hq; cases hq
     rw[zab n2]at hq;have n3:q≠d:=by rintro rfl; rw[zaa]at hq; cases hq
     rw[zab n3]at hq
     try simp only[zaa]
     refine⟨ob,by rw[zab (Ne.symm n3),zab (Ne.symm n1)]; exact zaa,?_⟩;refine h _ λa o e=>?_;have e1:=neG e hd;rw[zab e1,zab (neG e hq),zab (neG e hl),zab e1];exact e
  ·revert j;refine λx_1=>ex4 x_1 λL1 L2 o3 o4 h_1=>?_;clear x_1;have eL:=h_1.1;have er:=h_1.2.1;obtain rfl:=h_1.2.2.1;obtain rfl:=h_1.2.2.2;clear h_1;cases L2 with
   | nil=>simp at er
   | cons y L2 =>
    simp only[List.map_cons,List.cons.injEq]at er;obtain⟨rfl,rfl⟩:=er;have hc:P.counts (L1++[y])=P.tally (P.counts L1) y:=by simp[P.counts]
    have go:∀ o4',N [some (.tup (L.map zaK)),some (.int m),some (.ref d),some (zaK y),o4'] (updG G d (cO (P.tally (P.counts L1) y))):=λo4'=>hN _ _ ⟨L1++[y],L2,_,_,by simp[eL],rfl,rfl,by rw[hc]⟩;simp[zaH,zaS,zam,zaO,wOp,zas,wC,iI0,zad,wCB,zaf,zat,zaj,zaV,zar,zbn,zbN,zhN,zcV,ziR,zav,ziU,zcb,zgs,za1,zah,zbu,zce,zew,zaW,zf5];refine zaw (i:=0) (zpt y) ?_;cases y with
    | vote b v w =>
     simp[wD,toD,zhP,ok1,ok2,zgT,ok4,s12,s13,s14,s23,s24,s34,s12.symm,s13.symm,s14.symm,s23.symm,s24.symm,s34.symm,kindOf,zji];refine zaw (i:=1) rfl ?_;refine zaw (i:=3) rfl ?_;have hlen:(P.counts L1).length<=1000000:=by
      have:=zg0 L1;have:L1.length<=L.length:=by rw[eL]; simp
      lia
     refine zpk zaa ?_;refine zrx (k:=(b,w)) zaa ?_;simp;refine zsY (q:=(b,w)) zaa hlen ?_;rw[zbo];exact go _
    | prepare b=>simp[wD,toD,zhP,ok1,ok2,zgT,ok4,s12,s13,s14,s23,s24,s34,s12.symm,s13.symm,s14.symm,s23.symm,s24.symm,s34.symm,kindOf]; exact go _
    | promise b v l=>simp[wD,toD,zhP,ok1,ok2,zgT,ok4,s12,s13,s14,s23,s24,s34,s12.symm,s13.symm,s14.symm,s23.symm,s24.symm,s34.symm,kindOf]; exact go _
    | ask b w=>simp[wD,toD,zhP,ok1,ok2,zgT,ok4,s12,s13,s14,s23,s24,s34,s12.symm,s13.symm,s14.symm,s23.symm,s24.symm,s34.symm,kindOf]; exact go _
variable (Pg w K mg base Z)in
abbrev zdK:Prop:=zfI Pg w K mg base 2 "chosen_pairs" ["letters","many"] (zc0 Z)
def zdF(Z:Cz):Sp3:=λts G Q=>∃ A S n,ts=[.ref (A .r)]/\RoomAt Z G A S/\P.Ok n S/\n < 64/\∀ G',Ext G G'->Q (.tup ((za0 (P.won S.letters S.many)).map pT)) G'
abbrev zcB:Stmt:=zau (top 27) 10
theorem zgw:FnScope ["self"] ["self"] (zac zcB):=by walk_at "s"
theorem zgC{f:Addr}{fd:FuncData}(F:Fun K "chosen" "Room.chosen" zcB f fd) (aT:At K Z) (F_chosen_pairs:zdK Pg w K mg base Z) (M_Pile_letters:zcj Pg w K mg base Z):FOk Pg w K mg base 3 f fd ["self"] (zdF Z):=by
 refine ok3 F zgw (λts G Q h=>?_) (λcdv A outer s H E hr=>?_)
 ·obtain⟨A,S,n,rfl,_⟩:=h; rfl
 ·refine⟨_,(zaG (zbY (zaE F_chosen_pairs hr (qa (zbb (zb9 (qv 0)) (M_Pile_letters.mono (by decide:1<=2)) hr) (qa (zb9 (qv 0)) qa0))))),λts G Q h=>?_⟩;revert h;refine λx_0=>ex3 x_0 λA S n h_0=>?_;clear x_0;have R:=h_0.2.1;have ok:=h_0.2.2.1;have hn:=h_0.2.2.2.1;have h:=h_0.2.2.2.2;obtain rfl:=h_0.1;clear h_0;simp[zaO,wOp,zas,wC,iI0,zad,wCB,zaf,zat,zaj,zar,zb3,zaq,zah];refine zag (R.at' .r trivial) zgd aT.pile ?_;refine zai (R.at' .p trivial) rfl ?_;refine⟨_,_,_,_,rfl,R.at' .p trivial,R.at' .pr trivial,?_⟩;refine zag (R.at' .r trivial) zpH aT.rmany ?_;have h1:=ok.ln;have h2:=P.won_few ok;exact⟨_,_,rfl,by lia,by lia,h⟩
variable (Pg w K mg base Z)in
abbrev zcI:Prop:=zdW Pg w K mg base 3 Z.R "chosen" ["self"] (zdF Z)
def ze2(Z:Cz):Sp3:=λts G Q=>∃ (ns:List Int) (k:Nat),ts=[.fro (ns.map T.int),.int k]/\Q (.int (cellI ns k)) G
abbrev zdO:Stmt:=top 29
theorem zh1:FnScope ["_law_script","_law_k"] ["_law_script","_law_k"] (zac zdO):=by walk_at "s"
theorem zif{f:Addr}{fd:FuncData}(F:Fun K "_law_cell" "_law_cell" zdO f fd) (aT:At K Z) (b_len:mg "len"=none):FOk Pg w K mg base 1 f fd ["_law_script","_law_k"] (ze2 Z):=by
 refine ok3 F zh1 (λts G Q h=>?_) (λcdv A outer s H E hr=>?_)
 ·obtain⟨ns,k,rfl,_⟩:=h; rfl
 ·refine⟨_,(qss (ze6 (zrW (qv 1) (zdA b_len (qa (qv 0) qa0))) (zaG (zbY (zbP hr (qv 0) (qv 1)))) zaL)
   (zaG (zbY zax))),λts G Q h=>?_⟩
  obtain⟨ns,k,rfl,h⟩:=h;simp[zaH,zaS,zam,zaO,wOp,zas,wC,iI0,zad,wCB,zaf,zat,za6,zaJ,ix3,ixA,zcq,zaj,zah,za3];by_cases c:k < ns.length
  ·have e1:atI (ns.map T.int) (k:Int)=some (.int ns[k]):=zcg (by simp[c]);simp only[c,if_true,e1];simpa [c,cellI] using h
  ·simp only[c,if_false];have:ns.length<=k:=by lia
   simpa [this,cellI] using h
variable (Pg w K mg base Z)in
abbrev zcH:Prop:=zfI Pg w K mg base 1 "_law_cell" ["_law_script","_law_k"] (ze2 Z)
def zdM(Z:Cz):Sp3:=λts G Q=>∃ c p m,ts=[.int c,.int p,.int m]/\0 < p/\0 < m/\Q (.int (mix c p m)) G
abbrev zeG:Stmt:=top 30
theorem zi2:FnScope ["_law_cell_here","_law_prime","_law_many_here"] ["_law_cell_here","_law_prime","_law_many_here"] (zac zeG):=by walk_at "s"
theorem zja{f:Addr}{fd:FuncData}(F:Fun K "_law_mix" "_law_mix" zeG f fd) (aT:At K Z) :FOk Pg w K mg base 1 f fd ["_law_cell_here","_law_prime","_law_many_here"] (zdM Z):=by
 refine ok3 F zi2 (λts G Q h=>?_) (λcdv A outer s H E hr=>?_)
 ·obtain⟨c,p,m,rfl,_⟩:=h; rfl
 ·refine⟨_,(zaG (zbY (zpY (zpY (zoh (qv 0) zax) (qv 1)) (qv 2)))),λts G Q h=>?_⟩;revert h;refine λx_0=>ex3 x_0 λc p m h_0=>?_;clear x_0;have h1:=h_0.2.1;have h2:=h_0.2.2.1;have h:=h_0.2.2.2;obtain rfl:=h_0.1;clear h_0;simp[zaO,wOp,zas,wC,iI,iI0,zad,wCB,zaf,zat,zaj,zah];exact⟨.inr ⟨by decide,by decide⟩,h1,h2,h⟩
variable (Pg w K mg base Z)in
abbrev zbT:Prop:=zfI Pg w K mg base 1 "_law_mix" ["_law_cell_here","_law_prime","_law_many_here"] (zdM Z)
noncomputable def zbq(ns:List Int):List Int:=(List.range (1+mix (cellI ns 0) 9973 4).toNat).map λ(k:Nat)=>(cellI ns 1+31 * (k:Int)) % 10 ^ 9 - 99 * ((k:Int) % 2)
def zdD(Z:Cz):Sp3:=λts G Q=>∃ ns:List Int,ts=[.fro (ns.map T.int)]/\∀ G',Ext G G'->Q (.tup ((zbq ns).map T.int)) G'
abbrev zbM:Stmt:=top 31
theorem zdI:FnScope ["_law_script","_law_many_here"] ["_law_script"] (zac zbM):=by walk_at "s"
theorem zgA{f:Addr}{fd:FuncData}(F:Fun K "_law_wishes" "_law_wishes" zbM f fd) (aT:At K Z) (b_range:mg "range"=none) (b_tuple:mg "tuple"=none) (F__law_cell:zcH Pg w K mg base Z) (F__law_mix:zbT Pg w K mg base Z):FOk Pg w K mg base 2 f fd ["_law_script"] (zdD Z):=by
 refine ok3 F zdI (λts G Q h=>?_) (λcdv A outer s H E hr=>?_)
 ·obtain⟨ns,rfl,_⟩:=h; rfl
 ·refine⟨_,(qss (zev 1 zdI.nd (zgr zax (zaE F__law_mix hr (qa (zaE F__law_cell hr (qa (qv 0) (qa zax qa0))) (qa zax (qa zax qa0))))))
   (zaG (zbY (zhl b_tuple (qa (zh6 ["_law_k","_law_script"] [none,some 0] (zgG (oN:=["_law_script","_law_many_here"]) (osc:=zac zbM) rfl rfl (by decide +kernel)) (zi8 b_range (qa (qv 1) qa0)) (λ_ _ _ _=>(zaT 0 (show List.Nodup (["_law_k","_law_script"]:List Str)by decide +kernel))) (λ_ _ _ _=>zi7) (λ_ _ _ _=>(zpX (zpY (zgr (zaE F__law_cell hr (qa (qv 1) (qa zax qa0))) (zoh zax (qv 0))) (ztB zax zax)) (zoh zax (zpY (qv 0) zax))))) qa0))))),λts G Q h=>?_⟩
  obtain⟨ns,rfl,h⟩:=h;simp[zaH,zaS,zam,zaO,wOp,zas,wC,iI,iI0,zad,wCB,zaf,zat,zaJ,zaj,zaV,zar,zbN,zav,zgs,za1,iR1,zah,zbu];refine⟨ns,0,rfl,?_⟩;refine⟨_,_,_,rfl,by decide,by decide,?_⟩;have hm:=zbk (cellI ns 0) 9973 4 (by decide);simp[zaH,zaS,zam,zaO,wOp,zas,wC,iI,iI0,zad,wCB,zaf,zat,zaJ,zaj,zaV,zar,zbN,zav,zgs,za1,iR1,zah,zbu,zaW];refine⟨by lia,by simp[zcs]; lia,?_⟩;refine zem (λx=>match x with | .int k=>.int ((cellI ns 1+31 * k) % 10 ^ 9 - 99 * (k % 2)) | _=>.non) trivial _ (λx hx R r=>?_) ?_
  ·obtain⟨k,_,rfl⟩:=List.mem_map.mp hx;refine⟨ns,1,rfl,?_⟩;simp[zaH,zaS,zam,zaO,wOp,zas,wC,iI,iI0,zad,wCB,zaf,zat,zaJ,zaj,zaV,zar,zbN,zav,zgs,za1,iR1,zah,zbu];exact⟨.inl ⟨by decide,by decide⟩,⟨by decide,by decide,by decide⟩,.inl ⟨by decide,by decide⟩,by simpa using r⟩
  ·intro d hd;simp only[zaa];have e:(zcs 0 (1+mix (cellI ns 0) 9973 4)).map (λx=>match x with | T.int k=>T.int ((cellI ns 1+31 * k) % 10 ^ 9 - 99 * (k % 2)) | _=>.non)=(zbq ns).map T.int:=by
    simp[zcs,zbq]
   rw[e];exact h _ (Ext.new hd)
variable (Pg w K mg base Z)in
abbrev zer:Prop:=zfI Pg w K mg base 2 "_law_wishes" ["_law_script"] (zdD Z)
theorem zla(ns:List Int):0 < (zbq ns).length/\(zbq ns).length<=4:=by
 have:=zbk (cellI ns 0) 9973 4 (by decide);simp[zbq]; lia
noncomputable def zjg:List Nat:=[3,3,5,1,4,2,3,7,6,5]
noncomputable def manyOf(ns:List Int):Nat:=zjg.getD (mix (cellI ns 0) 9967 10).toNat 0
theorem zl3(ns:List Int):zjg[(mix (cellI ns 0) 9967 10).toNat]?=some (manyOf ns)/\1<=manyOf ns/\manyOf ns<=7:=by
 have h:=zbk (cellI ns 0) 9967 10 (by decide);have hl:(mix (cellI ns 0) 9967 10).toNat < 10:=by lia
 unfold manyOf;generalize (mix (cellI ns 0) 9967 10).toNat=i at hl;have key:∀ i,i < 10->zjg[i]?=some (zjg.getD i 0)/\1<=zjg.getD i 0/\zjg.getD i 0<=7:=by decide
 exact key i hl
def ze1(Z:Cz):Sp3:=λts G Q=>∃ ns:List Int,ts=[.fro (ns.map T.int)]/\Q (.int (manyOf ns)) G
abbrev zdN:Stmt:=top 32
theorem zh0:FnScope ["_law_script"] ["_law_script"] (zac zdN):=by walk_at "s"
theorem zid{f:Addr}{fd:FuncData}(F:Fun K "_law_many" "_law_many" zdN f fd) (aT:At K Z) (F__law_cell:zcH Pg w K mg base Z) (F__law_mix:zbT Pg w K mg base Z):FOk Pg w K mg base 2 f fd ["_law_script"] (ze1 Z):=by
 refine ok3 F zh0 (λts G Q h=>?_) (λcdv A outer s H E hr=>?_)
 ·obtain⟨ns,rfl,_⟩:=h; rfl
 ·refine⟨_,(zaG (zbY (zbP hr (ziT (t:=(zaf (wC (T.int 3)) (zaf (wC (T.int 3)) (zaf (wC (T.int 5)) (zaf (wC (T.int 1)) (zaf (wC (T.int 4)) (zaf (wC (T.int 2)) (zaf (wC (T.int 3)) (zaf (wC (T.int 7)) (zaf (wC (T.int 6)) (zaf (wC (T.int 5)) zat))))))))))) (by(iterate 10 refine qaI ?_); exact qa0)) (zaE F__law_mix hr (qa (zaE F__law_cell hr (qa (qv 0) (qa zax qa0))) (qa zax (qa zax qa0))))))),λts G Q h=>?_⟩;obtain⟨ns,rfl,h⟩:=h;simp[zam,zaO,wOp,zas,wC,iI0,zad,wCB,zaf,zat,zaj,zar,zbn,zah];refine⟨ns,0,rfl,?_⟩;refine⟨_,_,_,rfl,by decide,by decide,?_⟩;have hm:=zbk (cellI ns 0) 9967 10 (by decide);obtain⟨i,hi⟩:=Int.eq_ofNat_of_zero_le hm.1;have ha:=(zl3 ns).1;rw[hi]at ha ⊢;refine zaw (i:=i) (v:=.int (manyOf ns)) ?_ h;show(zjg.map λ(k:Nat)=>T.int k)[i]?=_;rw[List.getElem?_map];simp at ha;rw[ha]; rfl
variable (Pg w K mg base Z)in
abbrev zgm:Prop:=zfI Pg w K mg base 2 "_law_many" ["_law_script"] (ze1 Z)
theorem zik{α β:Type}(f:α->β):∀ (l:List α) (i:Nat),(l.map f).eraseIdx i=(l.eraseIdx i).map f
 | [],_=>rfl
 | _::_,0=>rfl
 | x::r,i+1=>by simp[zik f r i]
noncomputable abbrev vsI(vs:List Nat):List T:=vs.map λ(v:Nat)=>T.int v
def zb4(Z:Cz):Sp3:=λts G Q=>∃ (c:Int) (m k:Nat),ts=[.int c,.int m,.int k]/\k<=m/\m<=1000/\∀ G' l,Ext G G'->G l=none->G' l=some (.lst (vsI (someL c m k)))->Q (.ref l) G'
abbrev zcx:Stmt:=top 33
theorem ze5:FnScope ["_law_cell_here","_law_many_here","_law_size","_law_left"] ["_law_cell_here","_law_many_here","_law_size"] (zac zcx):=by walk_at "s"
theorem zib{f:Addr}{fd:FuncData}(F:Fun K "_law_some" "_law_some" zcx f fd) (aT:At K Z) (b_list:mg "list"=none) (b_range:mg "range"=none) (F__law_mix:zbT Pg w K mg base Z):FOk Pg w K mg base 2 f fd ["_law_cell_here","_law_many_here","_law_size"] (zb4 Z):=by
 refine ok3 F ze5 (λts G Q h=>?_) (λcdv A outer s H E hr=>?_)
 ·obtain⟨c,m,k,rfl,_⟩:=h; rfl
 ·refine⟨_,(qss (zev 3 ze5.nd (zqA b_list b_range (qa (qv 1) qa0)))
   (zaG (zbY (zh6 ["_law_k","_law_left","_law_cell_here","_law_many_here"] [none,some 3,some 0,some 1] (zgG (oN:=["_law_cell_here","_law_many_here","_law_size","_law_left"]) (osc:=zac zcx) rfl rfl (by decide +kernel)) (zi8 b_range (qa (qv 2) qa0)) (λ_ _ _ _=>(zaT 0 (show List.Nodup (["_law_k","_law_left","_law_cell_here","_law_many_here"]:List Str)by decide +kernel))) (λ_ _ _ _=>zi7) (λ_ _ _ _=>(zqw (qv 1) (qa (zaE F__law_mix hr (qa (zgr (qv 2) (zoh zax (qv 0))) (qa zax (qa (zpX (qv 3) (qv 0)) qa0)))) qa0))))))),λts G Q h=>?_⟩
  revert h;refine λx_0=>ex3 x_0 λc m k h_0=>?_;clear x_0;have hk:=h_0.2.1;have hm:=h_0.2.2.1;have h:=h_0.2.2.2;obtain rfl:=h_0.1;clear h_0;simp[zaH,zaS,zaO,wOp,zas,wC,iI,iI0,zad,wCB,zaf,zat,zaj,zaV,zar,zbN,zav,zgs,za1,iR1,zah,zbu,wLR,zr7,zaW];refine⟨by lia,λl0 hl0=>?_⟩;refine⟨by lia,by simp[zcs]; lia,?_⟩;refine ziD (J:=λr acc G1=>∃ j,j<=k/\r=(zcs 0 k).drop j/\acc=vsI (zgS c m j).2/\G1=updG G l0 (.lst (vsI (zgS c m j).1))) (λr acc G1 j=>trivial) (λacc G1 j=>?_) (λx r acc G1 N hN j=>?_) _ _ _ ⟨0,by lia,rfl,rfl,rfl⟩
  ·obtain⟨j,hj,er,rfl,rfl⟩:=j;have ej:j=k:=by
    have:=congrArg List.length er;simp[zcs]at this;lia
   subst ej;intro l hl;have nl:l≠l0:=by rintro rfl; rw[zaa]at hl; cases hl
   rw[zab nl]at hl;exact h _ l ((Ext.new hl0).trans (Ext.new (by rw[zab nl]; exact hl))) hl zaa
  ·obtain⟨j,hj,er,rfl,rfl⟩:=j;have hjk:j < k:=by
    have:=congrArg List.length er;simp[zcs]at this;lia
   rw[zfC hjk]at er;cases er
   have hp:=zho (c:=c) (m:=m) (j:=j) (by lia);have hl1:=(zfE (c:=c) (m:=m) (j:=j) (by lia)).1;simp[zaH,zaS,zaO,wOp,zas,wC,iI,iI0,zad,wCB,zaf,zat,zaj,zaV,zar,zbN,zav,zgs,za1,iR1,zah,zbu,wLR,zr7,zaW];refine zdu zaa ?_;refine⟨.inl ⟨by decide,by decide⟩,_,_,_,rfl,by decide,by lia,?_⟩;have hx:mix (c+5 * (j:Int)) 9883 ((m:Int) - (j:Int))=(popIx c m j:Int):=by
    have:=zbk (c+5 * (j:Int)) 9883 ((m:Int) - (j:Int)) (by lia);unfold popIx; lia
   rw[hx];simp only[zsG,zaa];refine⟨by lia,by simp[hl1]; lia,by simp[hl1]; lia,?_⟩;rw[zbo];refine hN _ _ ⟨j+1,by lia,rfl,?_,?_⟩
   ·have hlt:popIx c m j < (zgS c m j).1.length:=by lia
    simp[zgS,hlt]
   ·simp[zgS,zik]
variable (Pg w K mg base Z)in
abbrev zdV:Prop:=zfI Pg w K mg base 2 "_law_some" ["_law_cell_here","_law_many_here","_law_size"] (zb4 Z)
def zex(Z:Cz):Sp3:=λts G Q=>∃ (n:Nat) (r dn:Addr) (A:Adr) (S:P.R) (k:Nat) (a:Ac),ts=[.ref r,zpS a,.ref dn]/\Hs Z n dn r G A S k/\a.fits S/\k<=900000/\n<=1000 /\
 ∀ G' A' S',Hs Z (n+a.cost) dn r G' A' S' (k+1)->Mv dn [a] G A S G' A' S'->Q .non G'
abbrev zfR:Stmt:=top 34
theorem zkD:FnScope ["_law_room","_law_act","_law_done"] ["_law_room","_law_act","_law_done"] (zac zfR):=by walk_at "s"
theorem zkK{f:Addr}{fd:FuncData}(F:Fun K "_law_do" "_law_do" zfR f fd) (aT:At K Z) (M_Room_begin:zdl Pg w K mg base Z) (M_Room_bring:zdk Pg w K mg base Z) (M_Room_fall:zgp Pg w K mg base Z):FOk Pg w K mg base 6 f fd ["_law_room","_law_act","_law_done"] (zex Z):=by
 refine ok3 F zkD (λts G Q h=>?_) (λcdv A outer s H E hr=>?_)
 ·obtain⟨n,r,dn,A,S,k,a,rfl,_⟩:=h; rfl
 ·refine⟨_,(qss (ze6 (zjO hr (zbP hr (qv 1) zax) zk4) (zaG (zb2 (zbD (qv 0) (M_Room_begin.mono (by decide:3<=5)) hr (qa (zbP hr (qv 1) zax) (qa (zbP hr (qv 1) zax) qa0))))) (zaG (ze6 (zjO hr (zbP hr (qv 1) zax) zk4) (zaG (zb2 (zbD (qv 0) (M_Room_fall.mono (by decide:2<=5)) hr (qa (zbP hr (qv 1) zax) qa0)))) (zaG (zb2 (zbD (qv 0) M_Room_bring hr (qa (zbP hr (qv 1) zax) (qa (zbP hr (qv 1) zax) qa0))))))))
   (zaG (zb2 (zhm (qv 2) (qa (qv 1) qa0))))),λts G Q h=>?_⟩
  revert h;refine λx_0=>ex7 x_0 λn r dn A S k a h_0=>?_;clear x_0;have f:=h_0.2.2.1;have hk:=h_0.2.2.2.1;have hn:=h_0.2.2.2.2.1;have h:=h_0.2.2.2.2.2;obtain rfl:=h_0.1;obtain⟨R,ok,rfl,⟨ds,hds,hl⟩,nd⟩:=h_0.2.1;clear h_0;have hf:=okN ok hn;cases a with
  | begin i l =>
   simp[zaH,zaS,zam,wOp,zas,wC,iI0,zad,wCB,zaf,zat,zaj,zay,zaI,zah,ziS,zpS];refine zaw (i:=0) rfl ?_;simp[wD,toD,zhP,zq9,zq8,zq7,zm2,zm1,zm0,zm2.symm,zm1.symm,zm0.symm];refine zai (R.at' .r trivial) rfl ?_;refine zaw (i:=1) rfl ?_;refine zaw (i:=2) rfl ?_;refine⟨A,S,l,i,rfl,R,f.1,hf.ln,λA' G' ea R' F=>?_⟩;have g:=F dn _ nd hds;refine zdu g.1 (zgi g.1 (by lia) ?_);obtain⟨h1,h2⟩:=zmB (a:=.begin i l) f R' F ea ok hds hl nd;exact h _ _ _ h1 h2
  | fall i =>
   simp[zaH,zaS,zam,wOp,zas,wC,iI0,zad,wCB,zaf,zat,zaj,zay,zaI,zah,ziS,zpS];refine zaw (i:=0) rfl ?_;simp[wD,toD,zhP,zq9,zq8,zq7,zm2,zm1,zm0,zm2.symm,zm1.symm,zm0.symm];refine zaw (i:=0) rfl ?_;simp[wD,toD,zhP,zq9,zq8,zq7,zm2,zm1,zm0,zm2.symm,zm1.symm,zm0.symm];refine zai (R.at' .r trivial) rfl ?_;refine zaw (i:=1) rfl ?_;refine⟨A,S,i,rfl,R,f,λG' R' F=>?_⟩;have g:=F dn _ nd hds;refine zdu g.1 (zgi g.1 (by lia) ?_);obtain⟨h1,h2⟩:=zmB (a:=.fall i) f R' F rfl ok hds hl nd;exact h _ _ _ h1 h2
  | bring b v =>
   simp[zaH,zaS,zam,wOp,zas,wC,iI0,zad,wCB,zaf,zat,zaj,zay,zaI,zah,ziS,zpS];refine zaw (i:=0) rfl ?_;simp[wD,toD,zhP,zq9,zq8,zq7,zm2,zm1,zm0,zm2.symm,zm1.symm,zm0.symm];refine zaw (i:=0) rfl ?_;simp[wD,toD,zhP,zq9,zq8,zq7,zm2,zm1,zm0,zm2.symm,zm1.symm,zm0.symm];refine zai (R.at' .r trivial) rfl ?_;refine zaw (i:=1) rfl ?_;refine zaw (i:=2) rfl ?_;refine⟨A,S,b,v,rfl,R,hf,f.1,f.2,λG' R' F=>?_⟩;have g:=F dn _ nd hds;refine zdu g.1 (zgi g.1 (by lia) ?_);obtain⟨h1,h2⟩:=zmB (a:=.bring b v) f R' F rfl ok hds hl nd;exact h _ _ _ h1 h2
variable (Pg w K mg base Z)in
abbrev zgn:Prop:=zfI Pg w K mg base 6 "_law_do" ["_law_room","_law_act","_law_done"] (zex Z)
noncomputable def isK(kd:Str)(b:Int)(x:M.Let):Bool:=PyData.eqv (.tuple [.str (kindOf x),.int x.bal]) (.tuple [.str kd,.int b])
noncomputable def zko(L:List M.Let)(kd:Str)(b:Int)(vs:List Nat)(i:Nat):List Ac:=match L[i]? with
 | some x=>if isK kd b x=true then vs.map (Ac.bring i)else[]
 | none=>[]
noncomputable def zk2(L:List M.Let)(kd:Str)(b:Int)(vs:List Nat)(j:Nat):List Ac:=(List.range j).flatMap (zko L kd b vs)
noncomputable abbrev zjB(L:List M.Let)(kd:Str)(b:Int)(vs:List Nat):List Ac:=zk2 L kd b vs L.length
theorem zg2(L:List M.Let)(kd:Str)(b:Int)(vs:List Nat)(j:Nat):zk2 L kd b vs (j+1)=zk2 L kd b vs j++zko L kd b vs j:=by
 unfold zk2; rw[List.range_succ,List.flatMap_append]; simp
def za8(Z:Cz):Sp3:=λts G Q=>∃ (n:Nat) (r dn vl:Addr) (A:Adr) (S:P.R) (k:Nat) (kd:Str) (b:Int) (vs:List Nat),ts=[.ref r,.str kd,.int b,.ref vl,.ref dn]/\Hs Z n dn r G A S k/\n<=1000/\k<=500000/\PyData.strOk kd=true /\
 G vl=some (.lst (vsI vs))/\vl≠dn/\¬ own A S vl/\(∀ v∈vs,v < S.many)/\vs.length<=7/\∀ G' A' S',Hs Z n dn r G' A' S' (k+112000)->Mv dn (zjB S.letters kd b vs) G A S G' A' S'->Q .non G'
abbrev zc5:Stmt:=top 35
theorem zbL:FnScope ["_law_room","_law_kind","_law_ballot","_law_voters","_law_done","_law_k","_law_letter","_law_voter"] ["_law_room","_law_kind","_law_ballot","_law_voters","_law_done"] (zac zc5):=by walk_at "s"
theorem zhs{f:Addr}{fd:FuncData}(F:Fun K "_law_bring" "_law_bring" zc5 f fd) (aT:At K Z) (b_enumerate:mg "enumerate"=none) (F__law_do:zgn Pg w K mg base Z) (M_Room_letters:zaX Pg w K mg base Z):FOk Pg w K mg base 7 f fd ["_law_room","_law_kind","_law_ballot","_law_voters","_law_done"] (za8 Z):=by
 refine ok3 F zbL (λts G Q h=>?_) (λcdv A outer s H E hr=>?_)
 ·obtain⟨n,r,dn,vl,A,S,k,kd,b,vs,rfl,_⟩:=h; rfl
 ·refine⟨_,(zaG (zkF (zlF b_enumerate (qa (zbb (qv 0) (M_Room_letters.mono (by decide:2<=6)) hr) qa0)) (zo0 (n:=2) (qgs (zaT 5 zbL.nd) (qgs (zaT 6 zbL.nd) zsz))) (zaG (ze6 (zjO hr (zlD (qv 6) qp0 (qp1 zax)) (ziT (qa (qv 1) (qa (qv 2) qa0)))) (zaG (zkF (zdd (qv 3)) (zaT 7 zbL.nd) (zaG (zb2 (zaE F__law_do hr (qa (qv 0) (qa (ziT (qa zk4 (qa (qv 5) (qa (qv 7) qa0)))) (qa (qv 4) qa0)))))))) zaL)))),λts G Q h=>?_⟩;revert h;refine λx_0=>zrA x_0 λn r dn vl A S k kd b vs h_0=>?_;clear x_0;have H:=h_0.2.1;have hn:=h_0.2.2.1;have hk:=h_0.2.2.2.1;have hkd:=h_0.2.2.2.2.1;have hvl:=h_0.2.2.2.2.2.1;have nvd:=h_0.2.2.2.2.2.2.1;have nvo:=h_0.2.2.2.2.2.2.2.1;have hvs:=h_0.2.2.2.2.2.2.2.2.1;have hvl7:=h_0.2.2.2.2.2.2.2.2.2.1;have h:=h_0.2.2.2.2.2.2.2.2.2.2;obtain rfl:=h_0.1;clear h_0;have hln:=H.ok.ln;simp[zaS,zam,wOp,zas,wC,iI0,zad,wCB,zaf,zat,zaj,zar,zbn,zaq,zaI,zav,zah,zaN,wP0,wP1,zaC,zce,zeS,zbf,zeT];refine zai (H.er ▸ H.R.at' .r trivial) rfl ?_;refine⟨A,S,by rw[H.er],H.R,?_⟩;simp[zaS,zam,wOp,zas,wC,iI0,zad,wCB,zaf,zat,zaj,zar,zbn,zaq,zaI,zav,zah,zaN,wP0,wP1,zaC,zce,zeS,zbf,zeT,zpD];refine zba (J:=λq τ G1=>∃ j A1 S1 as o5 o6 o7,q=(zbZ (S.letters.map zaK)).drop j/\j<=S.letters.length/\τ=[some (.ref r),some (.str kd),some (.int b),some (.ref vl),some (.ref dn),o5,o6,o7]/\Hs Z n dn r G1 A1 S1 (k+j * 7)/\Mv dn as G A S G1 A1 S1/\as=zk2 S.letters kd b vs j)
   (λq τ G1 j=>trivial) (λτ G1 j=>?_) (λx q τ G1 N hN j=>?_) _ _ _ ⟨0,A,S,[],_,_,_,rfl,by lia,rfl,H,Mv.refl,rfl⟩
  ·revert j;refine λx_1=>ex7 x_1 λj A1 S1 as o5 o6 o7 h_1=>?_;clear x_1;have er:=h_1.1;have hj:=h_1.2.1;have H1:=h_1.2.2.2.1;have M1:=h_1.2.2.2.2.1;have ea:=h_1.2.2.2.2.2;obtain rfl:=h_1.2.2.1;clear h_1;have ej:j=S.letters.length:=by
    have:=congrArg List.length er;simp[zbZ]at this;lia
   subst ej;subst ea;exact h _ _ _ (H1.more (by lia)) M1
  ·revert j;refine λx_2=>ex7 x_2 λj A1 S1 as o5 o6 o7 h_2=>?_;clear x_2;have er:=h_2.1;have hj:=h_2.2.1;have H1:=h_2.2.2.2.1;have M1:=h_2.2.2.2.2.1;have ea:=h_2.2.2.2.2.2;obtain rfl:=h_2.2.2.1;clear h_2;have hjl:j < S.letters.length:=by
    have:=congrArg List.length er;simp[zbZ]at this;lia
   rw[zkR (by simpa using hjl)]at er;cases er
   have ex:(S.letters.map zaK).getD j .non=.tup (zji S.letters[j]):=by simp[hjl,zf5]
   rw[ex];simp[zaS,zam,wOp,zas,wC,iI0,zad,wCB,zaf,zat,zaj,zar,zbn,zaq,zaI,zav,zah,zaN,wP0,wP1,zaC,zce,zeS,zbf,zeT];rw[ztd];simp only[wD,toD,zdJ,zlT,hkd,if_true,Option.map_some,Option.bind_some];generalize hcc:PyData.eqv _ _=c;have hat:zko S.letters kd b vs j=if c=true then vs.map (Ac.bring j)else[]:=by
    unfold zko; rw[List.getElem?_eq_getElem hjl]; rw[<- hcc]; rfl
   cases c with
   | false =>
    simp;exact hN _ _ ⟨j+1,A1,S1,as,_,_,_,rfl,by lia,rfl,H1.more (by lia),M1,by rw[zg2,hat,ea]; simp⟩
   | true =>
    simp;have hv1:=M1.fr vl _ nvd nvo hvl;simp only[zk3,zce,zas,List.getElem?_cons_succ,List.getElem?_cons_zero,hv1.1];refine zba (J:=λq τ G2=>∃ i A2 S2 bs o7,q=(vsI vs).drop i/\i<=vs.length/\τ=[some (.ref r),some (.str kd),some (.int b),some (.ref vl),some (.ref dn),some (.int j),some (.tup (zji S.letters[j])),o7]/\Hs Z n dn r G2 A2 S2 (k+j * 7+i)/\Mv dn bs G A S G2 A2 S2/\bs=zk2 S.letters kd b vs j++(vs.take i).map (Ac.bring j))
     (λq τ G2 i=>?_) (λτ G2 i=>?_) (λx q τ G2 N2 hN2 i=>?_) _ _ _ ⟨0,A1,S1,as,_,rfl,by lia,rfl,H1,M1,by rw[ea]; simp⟩
    ·revert i;refine λx_3=>ex5 x_3 λi A2 S2 bs o7 h_3=>?_;clear x_3;have er:=h_3.1;have hi:=h_3.2.1;have H2:=h_3.2.2.2.1;have M2:=h_3.2.2.2.2.1;have eb:=h_3.2.2.2.2.2;obtain rfl:=h_3.2.2.1;clear h_3;exact(M2.fr vl _ nvd nvo hvl).1
    ·revert i;refine λx_4=>ex5 x_4 λi A2 S2 bs o7 h_4=>?_;clear x_4;have er:=h_4.1;have hi:=h_4.2.1;have H2:=h_4.2.2.2.1;have M2:=h_4.2.2.2.2.1;have eb:=h_4.2.2.2.2.2;obtain rfl:=h_4.2.2.1;clear h_4;have ei:i=vs.length:=by
      have:=congrArg List.length er;simp at this;lia
     subst ei;exact hN _ _ ⟨j+1,A2,S2,bs,_,_,_,rfl,by lia,rfl,H2.more (by lia),M2,by rw[zg2,hat,eb]; simp⟩
    ·revert i;refine λx_5=>ex5 x_5 λi A2 S2 bs o7 h_5=>?_;clear x_5;have er:=h_5.1;have hi:=h_5.2.1;have H2:=h_5.2.2.2.1;have M2:=h_5.2.2.2.2.1;have eb:=h_5.2.2.2.2.2;obtain rfl:=h_5.2.2.1;clear h_5;have hil:i < vs.length:=by
      have:=congrArg List.length er;simp at this;lia
     have e2:(vsI vs).drop i=.int (vs[i]:Int)::(vsI vs).drop (i+1):=by rw[List.drop_eq_getElem_cons (by simpa using hil)]; simp
     rw[e2]at er;cases er
     simp[zaS,zam,wOp,zas,wC,iI0,zad,wCB,zaf,zat,zaj,zar,zbn,zaq,zaI,zav,zah,zaN,wP0,wP1,zaC,zce,zeS,zbf,zeT];have hj2:j < S2.letters.length:=nLl hjl M2.gr.l.length_le;refine⟨n,r,dn,A2,S2,_,.bring j vs[i],rfl,H2,⟨hj2,by rw[M2.gr.m]; exact hvs _ (List.getElem_mem hil)⟩,by lia,hn,λG3 A3 S3 H3 M3=>?_⟩;exact hN2 _ _ ⟨i+1,A3,S3,_,_,rfl,by lia,rfl,H3.more (by lia),M2.trans M3,by
      rw[eb,List.take_succ_eq_append_getElem hil,List.map_append,List.append_assoc]; rfl⟩
variable (Pg w K mg base Z)in
abbrev zfe:Prop:=zfI Pg w K mg base 7 "_law_bring" ["_law_room","_law_kind","_law_ballot","_law_voters","_law_done"] (za8 Z)
noncomputable def zoR(S:P.R)(as:List Ac):P.R:=as.foldl (λS a=>a.run S) S
theorem zhj{S S':P.R}{as:List Ac}(x:Runs S as S'):S'=zoR S as:=by
 induction x with
 | nil=>rfl
 | cons f _ ih=>rw[ih]; rfl
noncomputable def zkw(S:P.R)(c l:Int)(i sz:Nat):List Ac :=
 let S2:=S.begin i l
 let b:=(S2.askers i).ballot.getD 0
 let a2:=zjB S2.letters "prepare" b (someL (c+1) S.many sz)
 let S3:=zoR S2 a2
 let a3:=zjB S3.letters "promise" b [0]
 let S4:=zoR S3 a3
 [.begin i l]++([]++(a2++([]++(a3++([]++zjB S4.letters "ask" b (someL (c+2) S.many (mix c 9907 (S.many+1)).toNat))))))
theorem zh8{n:Nat}{r dn:Addr}{A:Adr}{S:P.R}{c l:Int}{i sz:Nat}{Q:VK3}{G:Gp}(H:Hs Z n dn r G A S 0)(hn:n<=900)(hm:1<=S.many)(hin:i < S.wishes.length)(hl:0<=l)(hsz:sz<=S.many)
  (h:∀ G' A' S',Hs Z (n+1) dn r G' A' S' 400000->Mv dn (zkw S c l i sz) G A S G' A' S'->Q .non G') :
  zex Z [T.ref r,T.tup [T.str "begin",T.int i,T.int l],T.ref dn] G λx G1=>zia (T.ref r) Z.R "ballot_of" G1 (zbi Z [T.ref r,T.int i] G1 λx G1 =>
   zb4 Z [T.int (c+1),T.int S.many,T.int sz] G1 λx_1 G1=>za8 Z [T.ref r,T.str "prepare",x,x_1,T.ref dn] G1 λx_2 G1=>∀ p:Addr,G1 p=none ->
   za8 Z [T.ref r,T.str "promise",x,T.ref p,T.ref dn] (updG G1 p (GO.lst [T.int 0])) λx_3 G1=>zdM Z [T.int c,T.int 9907,T.int (S.many+1)] G1 λx_4 G1 =>
   zb4 Z [T.int (c+2),T.int S.many,x_4] G1 λx_5 G1=>za8 Z [T.ref r,T.str "ask",x,x_5,T.ref dn] G1 λx G1=>Q T.non G1):=by
 have hm7:=H.ok.m;refine⟨n,r,dn,A,S,0,.begin i l,rfl,H,⟨hin,hl⟩,by lia,by lia,λG2 A2 S2 H2 M2=>?_⟩;refine zai (H2.er ▸ H2.R.at' .r trivial) rfl ?_;have g2:=M2.gr;have e2:S2=S.begin i l:=by
  cases M2.ex with
  | cons f r=>cases r; rfl
 refine⟨A2,S2,i,by rw[H2.er],H2.R,by rw[g2.w]; exact hin,?_⟩;obtain⟨b,hb⟩:∃ b,(S2.askers i).ballot=some b:=⟨(S.askers i).due i S.wishes.length l,by rw[e2]; simp[P.R.begin,P.R.setA,P.R.write,M.upd,P.As.begin]⟩;rw[hb];have nodn:∀ {G:Gp} {A:Adr} {S:P.R} {k n:Nat} {q:Addr},Hs Z n dn r G A S k->G q=none->q≠dn:=λH hq=>by
  obtain⟨ds,e,_⟩:=H.dl;exact Ne.symm (neG e hq)
 refine⟨c+1,S.many,sz,rfl,hsz,by lia,λG3 l3 x3 hl3 hv3=>?_⟩;refine⟨n+1,r,dn,l3,A2,S2,1,"prepare",b,someL (c+1) S.many sz,rfl,H2.ext x3,by lia,by lia,ok1,hv3,nodn H2 hl3,H2.R.free hl3,λv hv=>by rw[g2.m]; exact zfB hsz v hv,by rw[zd5 hsz]; lia,λG4 A4 S4 H4 M4=>?_⟩;have g4:=g2.trans M4.gr;intro p hp;refine⟨n+1,r,dn,p,A4,S4,_,"promise",b,[0],rfl,H4.ext (Ext.new hp),by lia,by lia,ok2,zaa,nodn H4 hp,H4.R.free hp,λv hv=>by rw[g4.m]; have:=List.mem_singleton.mp hv; lia,by decide,λG5 A5 S5 H5 M5=>?_⟩;have g5:=g4.trans M5.gr;refine⟨c,9907,_,rfl,by decide,by lia,?_⟩;have hz:=zbk c 9907 (S.many+1) (by lia);obtain⟨z,hzz⟩:=Int.eq_ofNat_of_zero_le hz.1;rw[hzz];have hzm:z<=S.many:=by lia
 refine⟨c+2,S.many,z,rfl,hzm,by lia,λG6 l6 x6 hl6 hv6=>?_⟩;refine⟨n+1,r,dn,l6,A5,S5,_,"ask",b,someL (c+2) S.many z,rfl,H5.ext x6,by lia,by lia,zgT,hv6,nodn H5 hl6,H5.R.free hl6,λv hv=>by rw[g5.m]; exact zfB hzm v hv,by rw[zd5 hzm]; lia,λG7 A7 S7 H7 M7=>?_⟩;have ez:(mix c 9907 (S.many+1)).toNat=z:=by rw[hzz]; rfl
 have ea:zkw S c l i sz=[Ac.begin i l]++([]++(zjB S2.letters "prepare" b (someL (c+1) S.many sz)++([]++(zjB S4.letters "promise" b [0]++([]++zjB S5.letters "ask" b (someL (c+2) S.many z)))))):=by
  have eb:((S.begin i l).askers i).ballot.getD 0=b:=by rw[<- e2,hb]; rfl
  rw[zhj M5.ex,zhj M4.ex,<- ez,e2];show _=_;unfold zkw;simp only[eb]
 refine h _ _ _ (H7.more (by lia)) ?_;rw[ea];exact M2.trans ((Mv.ext x3).trans (M4.trans ((Mv.ext (Ext.new hp)).trans (M5.trans ((Mv.ext x6).trans M7)))))
noncomputable def zen(t:Int)(L:List M.Let):List Int:=L.map λx=>x.bal+1 - 3 * (if t=2 then 1 else 0)
noncomputable def zs2(tt:Int):T->T
 | .tup (_::.int b::_)=>.int (b+1 - 3 * (if tt=2 then 1 else 0))
 | _=>.non
theorem zkk(tt:Int)(x:M.Let):zs2 tt (zaK x)=.int (x.bal+1 - 3 * (if tt=2 then 1 else 0)):=by cases x<;>rfl
theorem zn8(tt:Int)(L:List M.Let):(L.map zaK).map (zs2 tt)=(zen tt L).map T.int:=by
 unfold zen; rw[List.map_map,List.map_map];exact List.map_congr_left λx _=>zkk tt x
noncomputable def zhp(S:P.R)(c:Int):List Ac :=
 if mix c 9949 9=0 then[.fall (mix c 9941 S.wishes.length).toNat]
 else if mix c 9949 9=1/\S.letters≠[]then (someL c S.many (mix c 9929 (S.many+1)).toNat).map (Ac.bring (mix c 9931 S.letters.length).toNat)
 else zkw S c (bestL (λa b=>decide (a < b)) 0 (zen (mix c 9949 9) S.letters)) (mix c 9941 S.wishes.length).toNat (if mix c 9949 9=3 then (mix c 9923 (S.many+1)).toNat else S.many / 2+1)
def ze0(Z:Cz):Sp3:=λts G Q=>∃ (n:Nat) (r dn:Addr) (A:Adr) (S:P.R) (c:Int),ts=[.ref r,.int c,.int S.wishes.length,.int S.many,.ref dn]/\Hs Z n dn r G A S 0/\n<=900/\1<=S.many /\
 ∀ G' A' S',Hs Z (n+1) dn r G' A' S' 400000->Mv dn (zhp S c) G A S G' A' S'->Q .non G'
abbrev zcy:Stmt:=top 36
theorem zaA:FnScope ["_law_room","_law_cell_here","_law_askers","_law_many_here","_law_done","_law_letters","_law_asker","_law_turn","_law_k","_law_voter","_law_least","_law_size","_law_ballot"] ["_law_room","_law_cell_here","_law_askers","_law_many_here","_law_done"] (zac zcy):=by walk_at "s"
theorem zic{f:Addr}{fd:FuncData}(F:Fun K "_law_play" "_law_play" zcy f fd) (aT:At K Z) (b_int:mg "int"=none) (b_len:mg "len"=none) (b_max:mg "max"=none) (F__law_bring:zfe Pg w K mg base Z) (F__law_do:zgn Pg w K mg base Z) (F__law_mix:zbT Pg w K mg base Z) (F__law_some:zdV Pg w K mg base Z) (M_Room_ballot_of:zbF Pg w K mg base Z) (M_Room_letters:zaX Pg w K mg base Z):FOk Pg w K mg base 8 f fd ["_law_room","_law_cell_here","_law_askers","_law_many_here","_law_done"] (ze0 Z):=by
 refine ok3 F zaA (λts G Q h=>?_) (λcdv A outer s H E hr=>?_)
 ·obtain⟨n,r,dn,A,S,c,rfl,_⟩:=h; rfl
 ·refine⟨_,(qss (zev 5 zaA.nd (zbb (qv 0) (M_Room_letters.mono (by decide:2<=7)) hr))
   (qss (zev 6 zaA.nd (zaE (F__law_mix.mono (by decide:1<=7)) hr (qa (qv 1) (qa zax (qa (qv 2) qa0)))))
   (qss (zev 7 zaA.nd (zaE (F__law_mix.mono (by decide:1<=7)) hr (qa (qv 1) (qa zax (qa zax qa0)))))
   (zaG (ze6 (zjO hr (qv 7) zax) (zaG (zb2 (zaE (F__law_do.mono (by decide:6<=7)) hr (qa (qv 0) (qa (ziT (qa zk4 (qa (qv 6) qa0))) (qa (qv 4) qa0)))))) (zaG (ze6 (PW.pt (zoU (zjO hr (qv 7) zax) (zsq (zsr (qv 5))))) (qss (zev 8 zaA.nd (zaE (F__law_mix.mono (by decide:1<=7)) hr (qa (qv 1) (qa zax (qa (zdA b_len (qa (qv 5) qa0)) qa0)))))
   (zaG (zkF (zdd (zaE (F__law_some.mono (by decide:2<=7)) hr (qa (qv 1) (qa (qv 3) (qa (zaE (F__law_mix.mono (by decide:1<=7)) hr (qa (qv 1) (qa zax (qa (zgr (qv 3) zax) qa0)))) qa0))))) (zaT 9 zaA.nd) (zaG (zb2 (zaE (F__law_do.mono (by decide:6<=7)) hr (qa (qv 0) (qa (ziT (qa zk4 (qa (qv 8) (qa (qv 9) qa0)))) (qa (qv 4) qa0))))))))) (qss (zev 10 zaA.nd (zoW hr b_max (qa (zsC (znj (qa zax qa0)) (zh6 ["_law_letter","_law_turn"] [none,some 7] (zgG (oN:=["_law_room","_law_cell_here","_law_askers","_law_many_here","_law_done","_law_letters","_law_asker","_law_turn","_law_k","_law_voter","_law_least","_law_size","_law_ballot"]) (osc:=zac zcy) rfl rfl (by decide +kernel)) (zdd (qv 5)) (λ_ _ _ _=>(zaT 0 (show List.Nodup (["_law_letter","_law_turn"]:List Str)by decide +kernel))) (λ_ _ _ _=>zi7) (λ_ _ _ _=>(zpX (zgr (zbP hr (qv 0) zax) zax) (zoh zax (zsw b_int (qa (qeq hr (qv 1) zax) qa0))))))) qa0)))
   (qss (zev 11 zaA.nd (zgr (zsB (qv 3) zax) zax))
   (qss (ze6 (zjO hr (qv 7) zax) (zaG (zev 11 zaA.nd (zaE (F__law_mix.mono (by decide:1<=7)) hr (qa (qv 1) (qa zax (qa (zgr (qv 3) zax) qa0)))))) zaL)
   (qss (zb2 (zaE (F__law_do.mono (by decide:6<=7)) hr (qa (qv 0) (qa (ziT (qa zk4 (qa (qv 6) (qa (qv 10) qa0)))) (qa (qv 4) qa0)))))
   (qss (zev 12 zaA.nd (zbD (qv 0) (M_Room_ballot_of.mono (by decide:2<=7)) hr (qa (qv 6) qa0)))
   (qss (zb2 (zaE F__law_bring hr (qa (qv 0) (qa zk4 (qa (qv 12) (qa (zaE (F__law_some.mono (by decide:2<=7)) hr (qa (zgr (qv 1) zax) (qa (qv 3) (qa (qv 11) qa0)))) (qa (qv 4) qa0)))))))
   (qss (zb2 (zaE F__law_bring hr (qa (qv 0) (qa zk4 (qa (qv 12) (qa (znj (qa zax qa0)) (qa (qv 4) qa0)))))))
   (zaG (zb2 (zaE F__law_bring hr (qa (qv 0) (qa zk4 (qa (qv 12) (qa (zaE (F__law_some.mono (by decide:2<=7)) hr (qa (zgr (qv 1) zax) (qa (qv 3) (qa (zaE (F__law_mix.mono (by decide:1<=7)) hr (qa (qv 1) (qa zax (qa (zgr (qv 3) zax) qa0)))) qa0)))) (qa (qv 4) qa0)))))))))))))))))))))),λts G Q h=>?_⟩
  revert h;refine λx_0=>ex6 x_0 λn r dn A S c h_0=>?_;clear x_0;have H:=h_0.2.1;have hn:=h_0.2.2.1;have hm:=h_0.2.2.2.1;have h:=h_0.2.2.2.2;obtain rfl:=h_0.1;clear h_0;have n0:=H.ok.good.n0;have hm7:=H.ok.m;have hln:=H.ok.ln;have ha:=zbk c 9941 S.wishes.length (by lia);obtain⟨i,hi⟩:=Int.eq_ofNat_of_zero_le ha.1;have hin:i < S.wishes.length:=by lia
  simp[zaH,zaS,zam,wOp,zas,wC,iI,iI0,zad,wCB,zaf,zat,za6,zaj,zaV,zar,zbn,zbN,zhN,zcV,zfv,zay,zaq,zaI,zav,zah,zbu,zce,zaW];refine zai (H.er ▸ H.R.at' .r trivial) rfl ?_;refine⟨A,S,by rw[H.er],H.R,?_⟩;refine⟨c,9941,_,rfl,by decide,by lia,?_⟩;rw[hi];refine⟨c,9949,9,rfl,by decide,by decide,?_⟩;generalize ht:mix c 9949 9=t;simp only[wD,toD,zn1];by_cases t0:t=0
  ·simp[t0];refine⟨n,r,dn,A,S,0,.fall i,rfl,H,hin,by lia,by lia,λG' A' S' H' M'=>?_⟩;refine h _ _ _ ((H'.up (by simp[Ac.cost])).more (by lia)) ?_;have ea:zhp S c=[Ac.fall i]:=by unfold zhp; rw[if_pos (by rw[ht,t0]),hi]; rfl
   rw[ea]; exact M'
  ·simp[t0];by_cases t1:t=1/\S.letters≠[]
   ·obtain⟨t1,L0⟩:=t1;subst t1;have hlp:0 < S.letters.length:=List.length_pos_iff.mpr L0;simp[L0];refine⟨c,9931,_,rfl,by decide,by lia,?_⟩;have hk:=zbk c 9931 S.letters.length (by lia);obtain⟨kk,hkk⟩:=Int.eq_ofNat_of_zero_le hk.1;rw[hkk];have hkl:kk < S.letters.length:=by lia
    have hz:=zbk c 9929 (S.many+1) (by lia);obtain⟨sz,hsz⟩:=Int.eq_ofNat_of_zero_le hz.1;simp[zaH,zaS,zam,wOp,zas,wC,iI,iI0,zad,wCB,zaf,zat,za6,zaj,zaV,zar,zbn,zbN,zhN,zcV,zfv,zay,zaq,zaI,zav,zah,zbu,zce,zaW,zk3];refine⟨c,9929,_,rfl,by decide,by lia,?_⟩;rw[hsz];have hszm:sz<=S.many:=by lia
    refine⟨c,S.many,sz,rfl,hszm,by lia,λG3 l3 x3 hl3 hv3=>?_⟩;have hvl:=zd5 (c:=c) hszm;have n3:l3≠dn:=by
     obtain⟨ds,e,_⟩:=H.dl;exact Ne.symm (neG e hl3)
    have o3:=H.R.free hl3;simp only[hv3];refine zba (J:=λq τ G2=>∃ j A2 S2 bs o9,q=(vsI (someL c S.many sz)).drop j/\j<=sz/\τ=[some (.ref r),some (.int c),some (.int S.wishes.length),some (.int S.many),some (.ref dn),some (.tup (S.letters.map zaK)),some (.int i),some (.int 1),some (.int kk),o9,none,none,none]/\Hs Z n dn r G2 A2 S2 j/\Mv dn bs G A S G2 A2 S2/\bs=((someL c S.many sz).take j).map (Ac.bring kk)/\G2 l3=some (.lst (vsI (someL c S.many sz)))/\¬ own A2 S2 l3)
     (λq τ G2 j=>?_) (λτ G2 j=>?_) (λx q τ G2 N hN j=>?_) _ _ _ ⟨0,A,S,[],_,rfl,by lia,rfl,H.ext x3,Mv.ext x3,rfl,hv3,o3⟩
    ·revert j;refine λx_1=>ex5 x_1 λj A2 S2 bs o9 h_1=>?_;clear x_1;have er:=h_1.1;have hj:=h_1.2.1;have H2:=h_1.2.2.2.1;have M2:=h_1.2.2.2.2.1;have eb:=h_1.2.2.2.2.2.1;have v2:=h_1.2.2.2.2.2.2.1;have o2:=h_1.2.2.2.2.2.2.2;obtain rfl:=h_1.2.2.1;clear h_1;exact v2
    ·revert j;refine λx_2=>ex5 x_2 λj A2 S2 bs o9 h_2=>?_;clear x_2;have er:=h_2.1;have hj:=h_2.2.1;have H2:=h_2.2.2.2.1;have M2:=h_2.2.2.2.2.1;have eb:=h_2.2.2.2.2.2.1;have v2:=h_2.2.2.2.2.2.2.1;have o2:=h_2.2.2.2.2.2.2.2;obtain rfl:=h_2.2.2.1;clear h_2;have ej:j=sz:=by
      have:=congrArg List.length er;simp at this;lia
     refine h _ _ _ ((H2.up (by lia)).more (by lia)) ?_;have ea:zhp S c=bs:=by
      unfold zhp;rw[if_neg (by rw[ht]; decide),if_pos ⟨ht,L0⟩,hsz,hkk,eb,ej,List.take_of_length_le (by rw[hvl]; exact Nat.le_refl _)];rfl
     rw[ea]; exact M2
    ·revert j;refine λx_3=>ex5 x_3 λj A2 S2 bs o9 h_3=>?_;clear x_3;have er:=h_3.1;have hj:=h_3.2.1;have H2:=h_3.2.2.2.1;have M2:=h_3.2.2.2.2.1;have eb:=h_3.2.2.2.2.2.1;have v2:=h_3.2.2.2.2.2.2.1;have o2:=h_3.2.2.2.2.2.2.2;obtain rfl:=h_3.2.2.1;clear h_3;have hjl:j < (someL c S.many sz).length:=by
      have:=congrArg List.length er;simp at this;lia
     have e2:(vsI (someL c S.many sz)).drop j=.int ((someL c S.many sz)[j]:Int)::(vsI (someL c S.many sz)).drop (j+1):=by rw[List.drop_eq_getElem_cons (by simpa using hjl)]; simp
     rw[e2]at er;cases er
     simp[zaH,zaS,zam,wOp,zas,wC,iI,iI0,zad,wCB,zaf,zat,za6,zaj,zaV,zar,zbn,zbN,zhN,zcV,zfv,zay,zaq,zaI,zav,zah,zbu,zce,zaW];have hk2:kk < S2.letters.length:=nLl hkl M2.gr.l.length_le;refine⟨n,r,dn,A2,S2,_,.bring kk (someL c S.many sz)[j],rfl,H2,⟨hk2,by rw[M2.gr.m]; exact zfB hszm _ (List.getElem_mem hjl)⟩,by lia,by lia,λG4 A4 S4 H4 M4=>?_⟩;have f4:=M4.fr l3 _ n3 o2 v2;exact hN _ _ ⟨j+1,A4,S4,_,_,rfl,by lia,rfl,H4,M2.trans M4,by rw[eb,List.take_succ_eq_append_getElem hjl,List.map_append]; rfl,f4.1,f4.2⟩
   ·have e1:∀ X Y:Prop,Y->(if t=1 then if S.letters=[]then Y else X else Y):=λX Y y=>by
     by_cases c1:t=1
     ·rw[if_pos c1];have:S.letters=[]:=by
       by_cases c2:S.letters=[]
       ·exact c2
       ·exact absurd ⟨c1,c2⟩ t1
      rw[if_pos this]; exact y
     ·rw[if_neg c1]; exact y
    refine e1 _ _ λp1 hp1=>⟨by lia,?_⟩;refine zem (zs2 t) trivial _ (λx hx R r=>?_) ?_
    ·obtain⟨y,hy,rfl⟩:=List.mem_map.mp hx;rw[zkk]at r;simp[zaH,zaS,zam,wOp,zas,wC,iI,iI0,zad,wCB,zaf,zat,za6,zaj,zaV,zar,zbn,zbN,zhN,zcV,zfv,zay,zaq,zaI,zav,zah,zbu,zce,zaW,zf5];refine zaw (i:=1) (zmb y) ?_;simp only[wD,toD,zn1,zsR];by_cases c2:t=2
     ·simp[c2]at r ⊢;exact⟨.inl ⟨by decide,by decide⟩,r⟩
     ·simp[c2]at r ⊢;exact⟨.inl ⟨by decide,by decide⟩,r⟩
    ·rw[zn8];intro p2 hp2;have n21:p2≠p1:=by rintro rfl; rw[zaa]at hp2; cases hp2
     rw[zab n21]at hp2;have gg1:updG (updG G p1 (.lst [T.int 0])) p2 (.lst ((zen t S.letters).map T.int)) p1=some (.lst [T.int 0]):=by rw[zab (Ne.symm n21)]; exact zaa
     have gg2:updG (updG G p1 (.lst [T.int 0])) p2 (.lst ((zen t S.letters).map T.int)) p2=some (.lst ((zen t S.letters).map T.int)):=zaa;have x2:Ext G (updG (updG G p1 (.lst [T.int 0])) p2 (.lst ((zen t S.letters).map T.int))):=(Ext.new hp1).trans (Ext.new (by rw[zab n21]; exact hp2));generalize updG (updG G p1 (.lst [T.int 0])) p2 (.lst ((zen t S.letters).map T.int))=G2 at *;simp only[zpZ,gg1,gg2];refine⟨by simp[zen]; lia,λp3 hp3=>?_⟩;have x3:=x2.trans (Ext.new (o:=.lst ([T.int 0]++(zen t S.letters).map T.int)) hp3);simp only[zrd,zaa];refine .inr ⟨0,zen t S.letters,rfl,?_⟩;have hl0:0<=bestL (λa b=>decide (a < b)) 0 (zen t S.letters):=zhL (λa b hab=>by have:=of_decide_eq_true hab; lia) _ _;have ex:∃ ds,G dn=some (.lst ds):=by
      obtain⟨ds,e,_⟩:=H.dl;exact⟨ds,e⟩
     have H3:=H.ext x3;refine⟨⟨by decide,by decide⟩,?_⟩;by_cases t3:t=3
     ·rw[if_pos t3];refine⟨c,9923,_,rfl,by decide,by lia,?_⟩;have hz:=zbk c 9923 (S.many+1) (by lia);obtain⟨sz,hsz⟩:=Int.eq_ofNat_of_zero_le hz.1;rw[hsz];refine zh8 H3 hn hm hin hl0 (by lia) λG' A' S' H' M'=>h _ _ _ H' ?_;have ea:zhp S c=zkw S c (bestL (λa b=>decide (a < b)) 0 (zen t S.letters)) i sz:=by
       unfold zhp;rw[if_neg (by rw[ht]; exact t0),if_neg (by rw[ht]; exact t1),if_pos (by rw[ht]; exact t3),ht,hi,hsz]; rfl
      rw[ea];exact(Mv.ext x3).trans M'
     ·rw[if_neg t3];have e:(S.many:Int) / 2+1=((S.many / 2+1:Nat):Int):=by lia
      rw[e];refine zh8 H3 hn hm hin hl0 (by lia) λG' A' S' H' M'=>h _ _ _ H' ?_;have ea:zhp S c=zkw S c (bestL (λa b=>decide (a < b)) 0 (zen t S.letters)) i (S.many / 2+1):=by
       unfold zhp;rw[if_neg (by rw[ht]; exact t0),if_neg (by rw[ht]; exact t1),if_neg (by rw[ht]; exact t3),ht,hi]; rfl
      rw[ea];exact(Mv.ext x3).trans M'
variable (Pg w K mg base Z)in
abbrev zgl:Prop:=zfI Pg w K mg base 8 "_law_play" ["_law_room","_law_cell_here","_law_askers","_law_many_here","_law_done"] (ze0 Z)
abbrev zbQ(p a v r t u:Addr):Cz:={ P:=p,A:=a,V:=v,R:=r,T:=t,xA:=u }
abbrev zoo:Str:="_law_shown.<locals>.<lambda>"
abbrev zpv:Pos:=⟨265,50,265,85⟩
abbrev zio:Str:="_law_come.<locals>.<lambda>"
abbrev zjj:Pos:=⟨261,50,261,79⟩
noncomputable def zsQ(kd:Str)(b:Int):T->Bool
 | .tup (.str k::.int c::_)=>PyData.eqv (.tuple [.str k,.int c]) (.tuple [.str kd,.int b])
 | _=>false
theorem zj8(kd:Str)(b:Int)(x:M.Let):zsQ kd b (zaK x)=isK kd b x:=by cases x<;>rfl
theorem zjp(kd:Str)(b:Int)(L:List M.Let):((L.map zaK).filter (zsQ kd b)).map id=(L.filter (isK kd b)).map zaK:=by
 rw[List.map_id,List.filter_map]
 congr 1
 exact List.filter_congr λx _=>zj8 kd b x
def zb5(Z:Cz):Sp3:=λts G Q=>∃ (n:Nat) (A:Adr) (S:P.R) (kd:Str) (b:Int) (vl:Addr) (vs:List Nat),ts=[.ref (A .r),.str kd,.int b,.ref vl]/\RoomAt Z G A S/\P.Ok n S/\n<=60/\PyData.strOk kd=true/\G vl=some (.lst (vsI vs))/\¬ own A S vl/\(∀ v∈vs,v < S.many)/\G Z.xA=some (.tab zio zjj) /\
 ∀ G',RoomAt Z G' A (S.come (srtL (S.letters.filter (isK kd b))) vs)->Fr G A S G' A (S.come (srtL (S.letters.filter (isK kd b))) vs)->Q .non G'
abbrev zcz:Stmt:=top 37
theorem zb6:FnScope ["_law_room","_law_kind","_law_ballot","_law_voters","_law_some_here","_law_letter","_law_voter"] ["_law_room","_law_kind","_law_ballot","_law_voters"] (zac zcz):=by walk_at "s"
theorem zie{f c:Addr}{fd:FuncData}(F:Fun K "_law_come" "_law_come" zcz f fd) (hC:fd.code=.ref c) (hT:W.CodeHd base c Z.xA) (hB:base.BuiltinsAt mg Z.xA) (aT:At K Z) (b_sorted:mg "sorted"=none) (M_Room_bring:zdk Pg w K mg base Z) (M_Room_letters:zaX Pg w K mg base Z):FOk Pg w K mg base 6 f fd ["_law_room","_law_kind","_law_ballot","_law_voters"] (zb5 Z):=by
 refine zs9 F hC zb6 (λts G Q h=>?_) (λA outer s H E hr=>?_)
 ·obtain⟨n,A,S,kd,b,vl,vs,rfl,_⟩:=h; rfl
 ·refine⟨_,(qss (zjQ 4 ["_law_letter","_law_kind","_law_ballot"] [none,some 1,some 2] zb6.nd (zgG (oN:=["_law_room","_law_kind","_law_ballot","_law_voters","_law_some_here","_law_letter","_law_voter"]) (osc:=zac zcz) rfl rfl (by decide +kernel)) (zdd (zbb (qv 0) (M_Room_letters.mono (by decide:2<=5)) hr)) (λ_ _ _ _=>(zaT 0 (show List.Nodup (["_law_letter","_law_kind","_law_ballot"]:List Str)by decide +kernel))) (λ_ _ _ _=>(zoX (zjO hr (zlD (qv 0) qp0 (qp1 zax)) (ziT (qa (qv 1) (qa (qv 2) qa0)))))) (λ_ _ _ _=>(qv 0)))
   (zaG (zkF (zdd (zog (qual:=zio) ⟨rfl,hT,hB⟩ hr b_sorted (qa (qv 4) qa0))) (zaT 5 zb6.nd) (zaG (zkF (zdd (qv 3)) (zaT 6 zb6.nd) (zaG (zb2 (zbD (qv 0) M_Room_bring hr (qa (ztC hr (zbb (qv 0) (M_Room_letters.mono (by decide:2<=5)) hr) (qa (qv 5) qa0)) (qa (qv 6) qa0)))))))))),λts G Q h=>?_⟩
  revert h;refine λx_0=>ex7 x_0 λn A S kd b vl vs h_0=>?_;clear x_0;have R:=h_0.2.1;have okS:=h_0.2.2.1;have hn:=h_0.2.2.2.1;have hkd:=h_0.2.2.2.2.1;have gvl:=h_0.2.2.2.2.2.1;have nvl:=h_0.2.2.2.2.2.2.1;have hvs:=h_0.2.2.2.2.2.2.2.1;have gT:=h_0.2.2.2.2.2.2.2.2.1;have h:=h_0.2.2.2.2.2.2.2.2.2;obtain rfl:=h_0.1;clear h_0;have hm7:=okS.m;have hln:=okS.ln;simp[zaH,zaS,zam,wOp,zas,wC,iI0,zad,wCB,zaf,zat,zaj,zaV,zbn,zbN,zay,zaq,zaI,zav,zah,zaN,wP0,wP1,zaC,zbu,zce,zaW,zlb,zk3,zr9];refine zai (R.at' .r trivial) rfl ?_;refine⟨A,S,rfl,R,?_⟩;refine⟨by simp; lia,?_⟩;refine zdw (zsQ kd b) id trivial _ [] (λx hx R' k=>k _ (λR2 r=>?_) λ_ R2 r=>by simpa [zaH,zaS,zam,zaO,zg5,wOp,zas,wC,iI,iI0,zad,wCB,zaf,zat,za6,zaJ,ix3,ixA,zcq,zaj,zaV,zar,zbn,zbN,zhN,zcV,zfv,wOr,zfj,ziZ,zoA,ziW,ziX,zoC,zbJ,isN,zb3,zap,zay,zaq,zbe,zaI,ziR,zav,ziU,zcb,zgs,za1,iR1,iR2,zah,zoB,isInt,zga,zdU,mx3,mn3,zaN,wP0,wP1,zaC,ziS,zk5,zed,zbu,zce,zcX,zeS,zbf,zeT,ziY,zew,ziw,za3] using r) ?_
  ·obtain⟨y,hy,rfl⟩:=List.mem_map.mp hx;rw[zj8]at r;simp[zaH,zaS,zam,wOp,zas,wC,iI0,zad,wCB,zaf,zat,zaj,zaV,zbn,zbN,zay,zaq,zaI,zav,zah,zaN,wP0,wP1,zaC,zbu,zce,zaW,zf5];rw[ztd];simp only[wD,toD,zdJ,zlT,hkd,if_true,Option.map_some,Option.bind_some];exact r
  ·rw[List.nil_append,zjp];intro d hd;obtain⟨F,eF⟩:∃ F,F=S.letters.filter (isK kd b):=⟨_,rfl⟩;rw[<- eF]at h ⊢;have nd:(zaQ (F.map zaK)).Nodup:=eF ▸ zf9 okS.good _;have hF:∀ x∈srtL F,x∈S.letters:=λx hx=>(List.mem_filter.mp (eF ▸ (zhT F).mem_iff.mp hx)).1;clear eF
   try simp only[zaJ,zaa]
   refine⟨by rw[zab (neG gT hd)]; exact gT,λu hu=>by obtain⟨x,_,rfl⟩:=List.mem_map.mp hu; exact zjY x,nd,λl hl=>?_⟩;rw[zfz];have x1:Ext G (updG (updG G d (.lst (F.map zaK))) l (.lst ((srtL F).map zaK))):=(Ext.new hd).trans (Ext.new hl);have gl:updG (updG G d (.lst (F.map zaK))) l (.lst ((srtL F).map zaK)) l=some (.lst ((srtL F).map zaK)):=zaa;have nl:¬ own A S l:=(R.ext (Ext.new hd)).free hl;clear hl;generalize updG (updG G d (.lst (F.map zaK))) l (.lst ((srtL F).map zaK))=G1 at x1 gl ⊢;generalize srtL F=Ls at h hF gl ⊢
   try simp only[gl]
   refine zba (J:=λq τ G2=>∃ (j:Nat) (o5 o6:Option T),q=(Ls.map zaK).drop j/\j<=Ls.length/\τ=[some (.ref (A .r)),some (.str kd),some (.int b),some (.ref vl),some (.ref d),o5,o6]/\RoomAt Z G2 A (S.come (Ls.take j) vs)/\P.Ok n (S.come (Ls.take j) vs)/\P.Grow S (S.come (Ls.take j) vs)/\Fr G A S G2 A (S.come (Ls.take j) vs)/\G2 l=some (.lst (Ls.map zaK))/\¬ own A (S.come (Ls.take j) vs) l)
    (λq τ G2 j=>?_) (λτ G2 j=>?_) (λx q τ G2 N hN j=>?_) _ _ _ ⟨0,_,_,rfl,Nat.zero_le _,rfl,R.ext x1,okS,P.Grow.refl _,Fr.ext x1,gl,nl⟩
   ·revert j;refine λx_1=>ex3 x_1 λj o5 o6 h_1=>?_;clear x_1;have g:=h_1.2.2.2.2.2.2.2.1;clear h_1;exact g
   ·revert j;refine λx_2=>ex3 x_2 λj o5 o6 h_2=>?_;clear x_2;have eq:=h_2.1;have hj:=h_2.2.1;have R2:=h_2.2.2.2.1;have ok2:=h_2.2.2.2.2.1;have gr2:=h_2.2.2.2.2.2.1;have F2:=h_2.2.2.2.2.2.2.1;have g2:=h_2.2.2.2.2.2.2.2.1;have n2:=h_2.2.2.2.2.2.2.2.2;obtain rfl:=h_2.2.2.1;clear h_2;have ej:j=Ls.length:=by
     have:=congrArg List.length eq;simp at this;lia
    subst ej;rw[List.take_length]at R2 F2;exact h _ R2 F2
   ·revert j;refine λx_3=>ex3 x_3 λj o5 o6 h_3=>?_;clear x_3;have eq:=h_3.1;have hj:=h_3.2.1;have R2:=h_3.2.2.2.1;have ok2:=h_3.2.2.2.2.1;have gr2:=h_3.2.2.2.2.2.1;have F2:=h_3.2.2.2.2.2.2.1;have g2:=h_3.2.2.2.2.2.2.2.1;have n2:=h_3.2.2.2.2.2.2.2.2;obtain rfl:=h_3.2.2.1;clear h_3;have hjl:j < Ls.length:=by
     have:=congrArg List.length eq;simp at this;lia
    rw[List.drop_eq_getElem_cons (by simpa using hjl),List.getElem_map]at eq;cases eq
    have ec:S.come (Ls.take (j+1)) vs=(S.come (Ls.take j) vs).heard Ls[j] vs:=by
     rw[List.take_succ_eq_append_getElem hjl]; unfold P.R.come; rw[List.foldl_append]; rfl
    have hx:=hF _ (List.getElem_mem hjl);generalize S.come (Ls.take j) vs=S1 at R2 ok2 gr2 F2 n2 ec;simp[zaH,zaS,zam,wOp,zas,wC,iI0,zad,wCB,zaf,zat,zaj,zaV,zbn,zbN,zay,zaq,zaI,zav,zah,zaN,wP0,wP1,zaC,zbu,zce,zaW];have v2:=F2 vl _ nvl gvl;simp only[zk3,zce,zas,List.getElem?_cons_succ,List.getElem?_cons_zero,v2.1];refine zba (J:=λq τ G3=>∃ (i:Nat) (o6:Option T),q=(vsI vs).drop i/\i<=vs.length/\τ=[some (.ref (A .r)),some (.str kd),some (.int b),some (.ref vl),some (.ref d),some (zaK Ls[j]),o6]/\RoomAt Z G3 A (S1.heard Ls[j] (vs.take i))/\P.Ok n (S1.heard Ls[j] (vs.take i))/\P.Grow S (S1.heard Ls[j] (vs.take i))/\Fr G A S G3 A (S1.heard Ls[j] (vs.take i))/\G3 l=some (.lst (Ls.map zaK))/\¬ own A (S1.heard Ls[j] (vs.take i)) l)
     (λq τ G3 i=>?_) (λτ G3 i=>?_) (λx q τ G3 N2 hN2 i=>?_) _ _ _ ⟨0,_,rfl,Nat.zero_le _,rfl,R2,ok2,gr2,F2,g2,n2⟩
    ·obtain⟨i,o6,_,_,_,R3,_,_,F3,_⟩:=i;exact(F3 vl _ nvl gvl).1
    ·obtain⟨i,o6,eq,hi,rfl,R3,ok3,gr3,F3,g3,n3⟩:=i;have ei:i=vs.length:=by
      have:=congrArg List.length eq;simp at this;lia
     subst ei;rw[List.take_length,<- ec]at R3 ok3 gr3 F3 n3;exact hN _ _ ⟨j+1,_,_,rfl,by lia,rfl,R3,ok3,gr3,F3,g3,n3⟩
    ·obtain⟨i,o6,eq,hi,rfl,R3,ok3,gr3,F3,g3,n3⟩:=i;have hil:i < vs.length:=by
      have:=congrArg List.length eq;simp at this;lia
     have e2:(vsI vs).drop i=.int (vs[i]:Int)::(vsI vs).drop (i+1):=by rw[List.drop_eq_getElem_cons (by simpa using hil)]; simp
     rw[e2]at eq;cases eq
     have eh:S1.heard Ls[j] (vs.take (i+1))=(S1.heard Ls[j] (vs.take i)).hear Ls[j] vs[i]:=by
      rw[List.take_succ_eq_append_getElem hil]; unfold P.R.heard; rw[List.foldl_append]; rfl
     generalize S1.heard Ls[j] (vs.take i)=S3 at R3 ok3 gr3 F3 n3 eh;simp[zaH,zaS,zam,wOp,zas,wC,iI0,zad,wCB,zaf,zat,zaj,zaV,zbn,zbN,zay,zaq,zaI,zav,zah,zaN,wP0,wP1,zaC,zbu,zce,zaW,zr9];refine zai (R3.at' .r trivial) rfl ?_;refine zai (R3.at' .r trivial) rfl ?_;refine⟨A,S3,rfl,R3,?_⟩;obtain⟨k,hk1,hk2⟩:=zpC (gr3.l.subset hx) G3;refine⟨k,hk1,?_⟩;have hkl:k < S3.letters.length:=(List.getElem?_eq_some_iff.mp hk2).1;have hv:vs[i] < S3.many:=by rw[gr3.m]; exact hvs _ (List.getElem_mem hil)
     have eb:S3.bring k vs[i]=S3.hear Ls[j] vs[i]:=by unfold P.R.bring; rw[hk2]
     refine⟨A,S3,k,vs[i],rfl,R3,okN ok3 (by lia),hkl,hv,λG4 R4 F4=>?_⟩;have ok4:=ok3.bring k hv;have gr4:=gr3.trans (P.Grow.bring S3 k vs[i]);have l4:=F4 l _ n3 g3;rw[eb,<- eh]at R4 F4 ok4 gr4 l4;exact hN2 _ _ ⟨i+1,_,rfl,by lia,rfl,R4,ok4,gr4,F3.trans F4,l4.1,l4.2⟩
variable (Pg w K mg base Z)in
abbrev zgo:Prop:=zfI Pg w K mg base 6 "_law_come" ["_law_room","_law_kind","_law_ballot","_law_voters"] (zb5 Z)
def zdC(Z:Cz):Sp3:=λts G Q=>∃ qs:List (Int×Int),ts=[.tup (qs.map pT)]/\Q (oI (zhQ qs)) G
abbrev zcw:Stmt:=top 19
theorem zgu:FnScope ["pairs"] ["pairs"] (zac zcw):=by walk_at "s"
theorem zgz{f:Addr}{fd:FuncData}(F:Fun K "chosen_wish" "chosen_wish" zcw f fd) (aT:At K Z) (b_len:mg "len"=none):FOk Pg w K mg base 1 f fd ["pairs"] (zdC Z):=by
 refine ok3 F zgu (λts G Q h=>?_) (λcdv A outer s H E hr=>?_)
 ·obtain⟨qs,rfl,_⟩:=h; rfl
 ·refine⟨_,(qss (ze6 (zjO hr (zdA b_len (qa (qv 0) qa0)) zax) (zaG (zbY zi6)) zaL)
   (zaG (zbY (zbP hr (zbP hr (qv 0) zax) zax)))),λts G Q h=>?_⟩
  obtain⟨qs,rfl,h⟩:=h;cases qs with
  | nil =>
   simp[zaH,zaS,zam,zaO,wOp,zas,wC,iI0,zad,wCB,zaf,zat,za6,zaj,zah,wD,toD,zn1];exact h
  | cons q r =>
   have e:¬ ((r.length:Int)+1=0):=by lia
   simp[zaH,zaS,zam,zaO,wOp,zas,wC,iI0,zad,wCB,zaf,zat,za6,zaj,zah,wD,toD,zn1,e];refine zaw (i:=0) rfl ?_;exact zaw (i:=1) rfl h
variable (Pg w K mg base Z)in
abbrev zeq:Prop:=zfI Pg w K mg base 1 "chosen_wish" ["pairs"] (zdC Z)
def zdG(Z:Cz):Sp3:=λts G Q=>∃ A S n,ts=[.ref (A .r)]/\RoomAt Z G A S/\P.Ok n S/\n < 64/\∀ G',Ext G G'->Q (oI (zhQ (za0 (P.won S.letters S.many)))) G'
abbrev zcC:Stmt:=zau (top 27) 11
theorem zgx:FnScope ["self"] ["self"] (zac zcC):=by walk_at "s"
theorem zgD{f:Addr}{fd:FuncData}(F:Fun K "choice" "Room.choice" zcC f fd) (aT:At K Z) (F_chosen_wish:zeq Pg w K mg base Z) (M_Room_chosen:zcI Pg w K mg base Z):FOk Pg w K mg base 4 f fd ["self"] (zdG Z):=by
 refine ok3 F zgx (λts G Q h=>?_) (λcdv A outer s H E hr=>?_)
 ·obtain⟨A,S,n,rfl,_⟩:=h; rfl
 ·refine⟨_,(zaG (zbY (zaE (F_chosen_wish.mono (by decide:1<=3)) hr (qa (zbb (qv 0) M_Room_chosen hr) qa0)))),λts G Q h=>?_⟩;revert h;refine λx_0=>ex3 x_0 λA S n h_0=>?_;clear x_0;have R:=h_0.2.1;have okS:=h_0.2.2.1;have hn:=h_0.2.2.2.1;have h:=h_0.2.2.2.2;obtain rfl:=h_0.1;clear h_0;simp[zaO,wOp,zas,wC,iI0,zad,wCB,zaf,zat,zaj,zar,zaq,zah];refine zai (R.at' .r trivial) rfl ?_;exact⟨A,S,n,rfl,R,okS,hn,λG' x=>⟨_,rfl,h G' x⟩⟩
variable (Pg w K mg base Z)in
abbrev zet:Prop:=zdW Pg w K mg base 4 Z.R "choice" ["self"] (zdG Z)
noncomputable def shV(S:P.R)(v:Nat):T:=.tup [oI (S.voters v).promised,oP (S.voters v).voted]
noncomputable def zoL(S:P.R)(v:Nat):PyData:=.tuple [oD (S.voters v).promised,oPD (S.voters v).voted]
noncomputable def pD(q:Int×Int):PyData:=.tuple [.int q.1,.int q.2]
noncomputable def zn6(S:P.R):List T:=(List.range S.wishes.length).map λi=>oI (S.askers i).ballot
noncomputable def zpW(S:P.R)(l1 l2:Addr)(k:Nat):List T:=[.ref l1,.tup ((za0 (P.won S.letters S.many)).map pT),oI (zhQ (za0 (P.won S.letters S.many))),.ref l2]++(List.range k).map (shV S)
structure Sh(G:Gp)(p l1 l2:Addr)(S:P.R)(k:Nat):Prop where
 a:G p=some (.lst (zpW S l1 l2 k))
 b:G l1=some (.lst ((srtL S.letters).map zaK))
 c:G l2=some (.lst (zn6 S))
theorem Sh.ext{G G':Gp}{p l1 l2:Addr}{S:P.R}{k:Nat}(s:Sh G p l1 l2 S k)(x:Ext G G'):Sh G' p l1 l2 S k:=⟨x _ _ s.a,x _ _ s.b,x _ _ s.c⟩
def zbK(Z:Cz):Sp3:=λts G Q=>∃ (n:Nat) (A:Adr) (S:P.R),ts=[.ref (A .r),.int S.wishes.length,.int S.many]/\RoomAt Z G A S/\P.Ok n S/\n < 64/\S.wishes.length<=1000/\G Z.T=some (.tab zoo zpv) /\
 ∀ G' p l1 l2,Ext G G'->G p=none->G l1=none->G l2=none->Sh G' p l1 l2 S S.many->Q (.ref p) G'
abbrev zb8:Stmt:=top 38
theorem zcv:FnScope ["_law_room","_law_askers","_law_many_here","_law_found","_law_voter"] ["_law_room","_law_askers","_law_many_here"] (zac zb8):=by walk_at "s"
theorem zhr{f c:Addr}{fd:FuncData}(F:Fun K "_law_shown" "_law_shown" zb8 f fd) (hC:fd.code=.ref c) (hT:W.CodeHd base c Z.T) (hB:base.BuiltinsAt mg Z.T) (aT:At K Z) (b_range:mg "range"=none) (b_sorted:mg "sorted"=none) (M_Room_ballot_of:zbF Pg w K mg base Z) (M_Room_choice:zet Pg w K mg base Z) (M_Room_chosen:zcI Pg w K mg base Z) (M_Room_letters:zaX Pg w K mg base Z) (M_Room_promised:zdj Pg w K mg base Z) (M_Room_voted:zfg Pg w K mg base Z):FOk Pg w K mg base 5 f fd ["_law_room","_law_askers","_law_many_here"] (zbK Z):=by
 refine zs9 F hC zcv (λts G Q h=>?_) (λA outer s H E hr=>?_)
 ·obtain⟨n,A,S,rfl,_⟩:=h; rfl
 ·refine⟨_,(qss (zev 3 zcv.nd (znj (qa (zog (qual:=zoo) ⟨rfl,hT,hB⟩ hr b_sorted (qa (zbb (qv 0) (M_Room_letters.mono (by decide:2<=4)) hr) qa0)) (qa (zbb (qv 0) (M_Room_chosen.mono (by decide:3<=4)) hr) (qa (zbb (qv 0) M_Room_choice hr) qa0)))))
   (qss (zb2 (zhm (qv 3) (qa (zh6 ["_law_asker","_law_room"] [none,some 0] (zgG (oN:=["_law_room","_law_askers","_law_many_here","_law_found","_law_voter"]) (osc:=zac zb8) rfl rfl (by decide +kernel)) (zi8 b_range (qa (qv 1) qa0)) (λ_ _ _ _=>(zaT 0 (show List.Nodup (["_law_asker","_law_room"]:List Str)by decide +kernel))) (λ_ _ _ _=>zi7) (λ_ _ _ _=>(zbD (qv 1) (M_Room_ballot_of.mono (by decide:2<=4)) hr (qa (qv 0) qa0)))) qa0)))
   (qss (zkF (zi8 b_range (qa (qv 2) qa0)) (zaT 4 zcv.nd) (zaG (zb2 (zhm (qv 3) (qa (ziT (qa (zbD (qv 0) (M_Room_promised.mono (by decide:2<=4)) hr (qa (qv 4) qa0)) (qa (zbD (qv 0) (M_Room_voted.mono (by decide:2<=4)) hr (qa (qv 4) qa0)) qa0))) qa0)))))
   (zaG (zbY (qv 3)))))),λts G Q h=>?_⟩
  revert h;refine λx_0=>ex3 x_0 λn A S h_0=>?_;clear x_0;have R:=h_0.2.1;have okS:=h_0.2.2.1;have hn:=h_0.2.2.2.1;have hw:=h_0.2.2.2.2.1;have gT:=h_0.2.2.2.2.2.1;have h:=h_0.2.2.2.2.2.2;obtain rfl:=h_0.1;clear h_0;have hm7:=okS.m;simp[zaH,zaS,zam,zaO,wOp,zas,wC,iI0,zad,wCB,zaf,zat,zaj,zaV,zbn,zbN,zay,zaq,zaI,zav,iR1,zah,ziS,zbu,zaW,zlb,zk3];refine zai (R.at' .r trivial) rfl ?_;refine⟨A,S,rfl,R,?_⟩;refine⟨gT,λu hu=>by obtain⟨x,_,rfl⟩:=List.mem_map.mp hu; exact zjY x,zeR okS.good,λl1 hl1=>?_⟩;rw[zfz];have x1:=Ext.new (o:=.lst ((srtL S.letters).map zaK)) hl1;have g1:updG G l1 (.lst ((srtL S.letters).map zaK)) l1=some (.lst ((srtL S.letters).map zaK)):=zaa;generalize updG G l1 (.lst ((srtL S.letters).map zaK))=G1 at x1 g1;have R1:=R.ext x1;refine zai (R1.at' .r trivial) rfl ?_;refine⟨A,S,n,rfl,R1,okS,hn,λG2 x2=>?_⟩;have R2:=R1.ext x2;refine zai (R2.at' .r trivial) rfl ?_;refine⟨A,S,n,rfl,R2,okS,hn,λG3 x3=>?_⟩;intro p hp;have x03:=(x1.trans x2).trans x3;have gone:∀ {G':Gp},Ext G G'->∀ a,G' a=none->G a=none:=λ{G'} x a e=>by
   cases q:G a with
   | none=>rfl
   | some o=>rw[x a o q]at e; cases e
  have R3:=R2.ext x3;have hl13:G3 l1=some (.lst ((srtL S.letters).map zaK)):=x3 _ _ (x2 _ _ g1);have n1p:l1≠p:=neG hl13 hp;refine zdu zaa ?_;have x4:=Ext.new (o:=.lst [T.ref l1,T.tup ((za0 (P.won S.letters S.many)).map pT),oI (zhQ (za0 (P.won S.letters S.many)))]) hp;have R4:=R3.ext x4;refine⟨by lia,by simp[zcs]; lia,?_⟩;refine zem (λx=>match x with | .int k=>oI (S.askers k.toNat).ballot | _=>.non) trivial _ (λx hx R' r=>?_) ?_
  ·obtain⟨v,hv,rfl⟩:=List.mem_map.mp hx;have hv':v < S.wishes.length:=by simpa using hv
   simp[zaH,zaS,zam,zaO,wOp,zas,wC,iI0,zad,wCB,zaf,zat,zaj,zaV,zbn,zbN,zay,zaq,zaI,zav,iR1,zah,ziS,zbu,zaW];refine zai (R4.at' .r trivial) rfl ?_;refine⟨A,S,v,by simp,R4,hv',?_⟩;simpa using r
  ·intro l2 hl2;have e2:(zcs 0 (S.wishes.length:Int)).map (λx=>match x with | T.int k=>oI (S.askers k.toNat).ballot | _=>.non)=zn6 S:=by simp[zcs,zn6]
   rw[e2];have n2p:l2≠p:=λz=>by rw[z,zaa]at hl2; cases hl2
   have hl23:G3 l2=none:=by rw[zab n2p]at hl2; exact hl2
   have n12:l1≠l2:=neG hl13 hl23;have gp5:updG (updG G3 p (.lst [T.ref l1,T.tup ((za0 (P.won S.letters S.many)).map pT),oI (zhQ (za0 (P.won S.letters S.many)))])) l2 (.lst (zn6 S)) p=some (.lst [T.ref l1,T.tup ((za0 (P.won S.letters S.many)).map pT),oI (zhQ (za0 (P.won S.letters S.many)))]):=by rw[zab n2p.symm]; exact zaa
   refine zgi gp5 (by simp) ?_;refine⟨by lia,?_⟩;refine zba (J:=λq τ G6=>∃ (k:Nat) (o4:Option T),q=(zcs 0 (S.many:Int)).drop k/\k<=S.many/\τ=[some (.ref (A .r)),some (.int S.wishes.length),some (.int S.many),some (.ref p),o4]/\(∀ a o,a≠p->G3 a=some o->G6 a=some o)/\Sh G6 p l1 l2 S k)
    (λq τ G6 j=>trivial) (λτ G6 j=>?_) (λx q τ G6 N hN j=>?_) _ _ _ ⟨0,_,rfl,by lia,rfl,λa o na e=>?_,⟨?_,?_,?_⟩⟩
   ·obtain⟨k,o4,eq,hk,rfl,kp,sh⟩:=j;have ek:k=S.many:=by
     have:=List.drop_eq_nil_iff.mp eq.symm;simp[zcs]at this; lia
    subst ek;simp[zaH,zaS,zam,zaO,wOp,zas,wC,iI0,zad,wCB,zaf,zat,zaj,zaV,zbn,zbN,zay,zaq,zaI,zav,iR1,zah,ziS,zbu,zaW];exact h G6 p l1 l2 (λa o e=>kp a o (neG (x03 a o e) hp) (x03 a o e)) (gone x03 p hp) hl1 (gone x03 l2 hl23) sh
   ·obtain⟨k,o4,eq,hk,rfl,kp,sh⟩:=j;have hkm:k < S.many:=by
     have:=congrArg List.length eq;simp[zcs]at this; lia
    have hkl:k < (zcs 0 (S.many:Int)).length:=by simpa [zcs] using hkm
    have ex:(zcs 0 (S.many:Int))[k]=.int k:=by simp[zcs]
    rw[List.drop_eq_getElem_cons hkl,ex]at eq;cases eq
    have R6:RoomAt Z G6 A S:=⟨λs hs=>kp _ _ (neG (R3.at' s hs) hp) (R3.at' s hs),R.inj⟩;simp[zaH,zaS,zam,zaO,wOp,zas,wC,iI0,zad,wCB,zaf,zat,zaj,zaV,zbn,zbN,zay,zaq,zaI,zav,iR1,zah,ziS,zbu,zaW];refine zdu sh.a ?_;refine zai (R6.at' .r trivial) rfl ?_;refine⟨A,S,k,rfl,R6,hkm,?_⟩;dsimp only;refine zai (R6.at' .r trivial) rfl ?_;refine⟨A,S,k,rfl,R6,hkm,?_⟩;dsimp only;refine zgi sh.a (by simp[zpW]; lia) ?_;refine hN _ _ ⟨k+1,_,rfl,by lia,rfl,λa o na e=>by rw[zab na]; exact kp a o na e,⟨?_,?_,?_⟩⟩
    ·rw[zaa]; simp[zpW,List.range_succ,shV]
    ·rw[zab n1p]; exact sh.b
    ·rw[zab n2p]; exact sh.c
   ·have na2:a≠l2:=neG e hl23;rw[zab na,zab na2,zab na]; exact e
   ·rw[zaa]; simp[zpW]
   ·rw[zab n1p,zab n12,zab n1p]; exact hl13
   ·rw[zab n2p]; exact zaa
variable (Pg w K mg base Z)in
abbrev zfd:Prop:=zfI Pg w K mg base 5 "_law_shown" ["_law_room","_law_askers","_law_many_here"] (zbK Z)
theorem zeg{G:Gp}{Q:VK3}{us:List T}(k:Q (.int us.length) G):za6 [.tup us] G Q:=k
theorem zlj(G:Gp)(n:Nat)(qs:List (Int×Int)):toD G (n+2) (.tup (qs.map pT))=some (.tuple (qs.map pD)):=by
 simp only[toD];rw[zdy (g:=pT) (k:=pD) (λx=>by simp[pT,pD,toD,zdJ]) qs];rfl
noncomputable def shD(S:P.R)(k:Nat):PyData:=.list ([.list ((srtL S.letters).map zj3),.tuple ((za0 (P.won S.letters S.many)).map pD),oD (zhQ (za0 (P.won S.letters S.many))),.list ((List.range S.wishes.length).map λi=>oD (S.askers i).ballot)]++(List.range k).map (zoL S))
theorem zkl{f:T->Option PyData}:∀ {xs ys:List T} {ds es:List PyData},zdJ f xs=some ds->zdJ f ys=some es->zdJ f (xs++ys)=some (ds++es)
 | [],ys,ds,es,h,h'=>by cases h; exact h'
 | x::xs,ys,ds,es,h,h'=>by
  unfold zdJ at h
  split at h
  ·rename_i d ds1 e1 e2
   cases h
   simp only[List.cons_append,zdJ,e1,zkl e2 h']
  ·cases h
theorem zoc{G:Gp}{p l1 l2:Addr}{S:P.R}{k:Nat}(s:Sh G p l1 l2 S k):toD G 20 (.ref p)=some (shD S k):=by
 have a1:=zlk (n:=18) s.b λx=>zdq G 16 x;have a2:=zlk (n:=18) (g:=λi=>oI (S.askers i).ballot) (k:=λi=>oD (S.askers i).ballot) (l:=List.range S.wishes.length) s.c λv=>zjG _ _ _;have a3:=zlj G 17 (za0 (P.won S.letters S.many));have a4:zdJ (toD G 19) ((List.range k).map (shV S))=some ((List.range k).map (zoL S)):=zdy (g:=shV S) (k:=zoL S) (λv=>by simp[shV,zoL,toD,zdJ,zjG,zod]) _;show(match G p with | some (.lst ts)=>(zdJ (toD G 19) ts).map PyData.list | _=>none)=_;rw[s.a];show(zdJ (toD G 19) (zpW S l1 l2 k)).map PyData.list=_;unfold zpW;rw[zkl (ds:=[.list ((srtL S.letters).map zj3),.tuple ((za0 (P.won S.letters S.many)).map pD),oD (zhQ (za0 (P.won S.letters S.many))),.list ((List.range S.wishes.length).map λi=>oD (S.askers i).ballot)]) (by simp only[zdJ,a1,a2,a3,zjG]) a4];rfl
theorem zke{G:Gp}{x y:T}{d:PyData}{Q:VK3}(h1:toD G 20 x=some d)(h2:toD G 20 y=some d)(q:Q (.bl true) G):wD PyData.eqv x y G Q:=by
 simp only[wD,h1,h2];rw[zjF 20 x d h1];exact q
theorem Sh.fr{G G':Gp}{A A':Adr}{S0 S1 S:P.R}{p l1 l2:Addr}{k:Nat}(s:Sh G p l1 l2 S k)(F:Fr G A S0 G' A' S1)(op:¬ own A S0 p)(o1:¬ own A S0 l1)(o2:¬ own A S0 l2):Sh G' p l1 l2 S k :=
 ⟨(F _ _ op s.a).1,(F _ _ o1 s.b).1,(F _ _ o2 s.c).1⟩
structure Lr(Z:Cz)(W:List Int)(m:Nat)(p:Addr)(ls:List T)(r1 r2:Addr)(n:Nat)(G:Gp)(A:Adr)(S:P.R)(B:Adr)(U:P.R):Prop where
 two:Two Z G A S B U
 e1:A .r=r1
 e2:B .r=r2
 k1:P.Ok n S
 k2:P.Ok n U
 w1:S.wishes=W
 m1:S.many=m
 w2:U.wishes=W
 m2:U.many=m
 gp:G p=some (.lst ls)
 o1:¬ own A S p
 o2:¬ own B U p
 t1:G Z.T=some (.tab zoo zpv)
 t2:G Z.xA=some (.tab zio zjj)
section
variable {W:List Int}{m n n':Nat}{p r1 r2:Addr}{ls:List T}{G G':Gp}{A A' B:Adr}{S S' U:P.R}
theorem Lr.ext(h:Lr Z W m p ls r1 r2 n G A S B U)(x:Ext G G'):Lr Z W m p ls r1 r2 n G' A S B U :=
 { h with two:=h.two.ext x,gp:=x _ _ h.gp,t1:=x _ _ h.t1,t2:=x _ _ h.t2 }
theorem Lr.swap(h:Lr Z W m p ls r1 r2 n G A S B U):Lr Z W m p ls r2 r1 n G B U A S :=
 ⟨h.two.swap,h.e2,h.e1,h.k2,h.k1,h.w2,h.m2,h.w1,h.m1,h.gp,h.o2,h.o1,h.t1,h.t2⟩
theorem Lr.move(h:Lr Z W m p ls r1 r2 n G A S B U)(F:Fr G A S G' A' S')(R':RoomAt Z G' A' S')(eA:A' .r=A .r)(g:P.Grow S S')(hn:n<=n')(k':P.Ok n' S'):Lr Z W m p ls r1 r2 n' G' A' S' B U :=
 ⟨h.two.moveF F R',eA.trans h.e1,h.e2,k',h.k2.mono hn,g.w.trans h.w1,g.m.trans h.m1,h.w2,h.m2,(F _ _ h.o1 h.gp).1,(F _ _ h.o1 h.gp).2,h.o2,(F _ _ (h.two.R1.notab h.t1) h.t1).1,(F _ _ (h.two.R1.notab h.t2) h.t2).1⟩
theorem Lr.play{dn:Addr}{as:List Ac}{k:Nat}(h:Lr Z W m p ls r1 r2 n G A S B U)(hdn:G dn=none)(hn:n<=n')(H:Hs Z n' dn r1 G' A' S' k)(M:Mv dn as (updG G dn (.lst [])) A S G' A' S'):Lr Z W m p ls r1 r2 n' G' A' S' B U:=by
 have x:=Ext.new (o:=.lst []) hdn;have h':=h.ext x;have fd1:=h.two.R1.free hdn;have fd2:=h.two.R2.free hdn;have fp:=M.fr _ _ (neG h.gp hdn) h.o1 h'.gp;exact⟨h'.two.move M.fr H.R fd2,H.er,h.e2,H.ok,h.k2.mono hn,M.gr.w.trans h.w1,M.gr.m.trans h.m1,h.w2,h.m2,fp.1,fp.2,h.o2,(M.fr _ _ (neG h.t1 hdn) (h.two.R1.notab h.t1) h'.t1).1,(M.fr _ _ (neG h.t2 hdn) (h.two.R1.notab h.t2) h'.t2).1⟩
theorem Lr.hs(h:Lr Z W m p ls r1 r2 n G A S B U){dn:Addr}(hdn:G dn=none):Hs Z n dn r1 (updG G dn (.lst [])) A S 0 :=
 ⟨(h.ext (Ext.new (o:=.lst []) hdn)).two.R1,h.k1,h.e1,⟨[],zaa,nLr _⟩,h.two.R1.free hdn⟩
theorem Lr.come(h:Lr Z W m p ls r1 r2 n G A S B U){xs:List M.Let}{vs:List Nat}(hx:∀ x∈xs,x∈S.letters)(hv:∀ v∈vs,v < m)(R':RoomAt Z G' A (S.come xs vs))(F:Fr G A S G' A (S.come xs vs)):Lr Z W m p ls r1 r2 n G' A (S.come xs vs) B U:=by
 obtain⟨k,g⟩:=h.k1.comeL hx (λv hv'=>by rw[h.m1]; exact hv v hv');exact h.move F R' rfl g (nLr _) k
end
theorem zpB{kd:Str}{b:Int}{x:M.Let}(h:isK kd b x=true)(hk:kd="prepare"∨kd="ask"):P.toV x:=by
 unfold isK at h;rcases hk with rfl | rfl<;>cases x<;>simp[kindOf,zsV,zmy,zmx,zhP,s12,s13,s14,s23,s24,s34,s12.symm,s13.symm,s14.symm,s23.symm,s24.symm,s34.symm]at h<;>trivial
theorem zlq{S U:P.R}(a:P.Al S U)(g:P.Good S)(kd:Str)(b:Int):srtL (U.letters.filter (isK kd b))=srtL (S.letters.filter (isK kd b)) :=
 (zln (a.l.filter _) (zf9 g _)).symm
theorem zhC{S:P.R}{kd:Str}{b:Int}{x:M.Let}(h:x∈srtL (S.letters.filter (isK kd b))):x∈S.letters/\isK kd b x=true:=by
 have:=List.mem_filter.mp ((zhT _).mem_iff.mp h);exact this
theorem zqj{S U:P.R}(a:P.Al S U)(g:P.Good S)(k:Nat):shD U k=shD S k:=by
 have e1:srtL U.letters=srtL S.letters:=(zln a.l (zeR g)).symm;have e2:za0 (P.won U.letters U.many)=za0 (P.won S.letters S.many):=by
  rw[a.m]; exact(zhb (P.won_perm a.l _) (P.won_nodup _ _)).symm
 have e3:zoL U=zoL S:=by funext v; unfold zoL; rw[a.v]
 unfold shD;rw[e1,e2,e3,a.w,a.a]
noncomputable def zs1:T->T
 | .tup (_::.int b::_)=>.int (b+1)
 | _=>.non
noncomputable def zeZ(L:List M.Let):List Int:=L.map λx=>x.bal+1
theorem zkj(x:M.Let):zs1 (zaK x)=.int (x.bal+1):=by cases x<;>rfl
theorem zn7(L:List M.Let):(L.map zaK).map zs1=(zeZ L).map T.int:=by
 unfold zeZ; rw[List.map_map,List.map_map];exact List.map_congr_left λx _=>zkj x
theorem Lr.shown{W:List Int}{m n:Nat}{p r1 r2:Addr}{G:Gp}{A B:Adr}{S U:P.R}(D:Lr Z W m p [.ref r1,.ref r2] r1 r2 n G A S B U)(al:P.Al S U)(hn:n < 64)(hW:W.length<=1000){K:T->T->Gp->Prop}
  (h:∀ x y G' d,Ext G G'->toD G' 20 x=some d->toD G' 20 y=some d->K x y G') :
  ixA (.ref p) (.int 0) G λx G1=>za6 [.tup (W.map T.int)] G1 λx1 G1=>zbK Z [x,x1,.int m] G1 λx G1=>ixA (.ref p) (.int 1) G1 λx2 G1=>za6 [.tup (W.map T.int)] G1 λx3 G1=>zbK Z [x2,x3,.int m] G1 λy G2=>K x y G2:=by
 refine zbC (i:=0) D.gp rfl ?_;refine zeg ?_;refine⟨n,A,S,by rw[D.e1,D.w1,D.m1,List.length_map],D.two.R1,D.k1,hn,by rw[D.w1]; exact hW,D.t1,λG1 q1 a1 b1 x1 _ _ _ sh1=>?_⟩;have D1:=D.ext x1;refine zbC (i:=1) D1.gp rfl ?_;refine zeg ?_;refine⟨n,B,U,by rw[D.e2,D.w2,D.m2,List.length_map],D1.two.R2,D.k2,hn,by rw[D.w2]; exact hW,D1.t1,λG2 q2 a2 b2 x2 _ _ _ sh2=>?_⟩;have e1:=zoc (sh1.ext x2);have e2:=zoc sh2;rw[zqj al D.k1.good,al.m]at e2;exact h _ _ _ _ (x1.trans x2) e1 e2
theorem zkb{g:TG3}{tb:TS3}{S:Gp->Prop}{ts:List T}{D:Ends3}{τ:St3}{G:Gp}(h:∀ D',D'=D->zms g tb S ts D' τ G):zms g tb S ts D τ G:=h D rfl
theorem zmI(ts:List T)(n:Nat):zkU ts none (some (n:Int))=ts.take n:=by
 unfold zkU;rw[HT.sIx_none,HT.sIx_nat,List.drop_zero,Nat.sub_zero];by_cases h:n<=ts.length
 ·rw[Nat.min_eq_left h]
 ·rw[Nat.min_eq_right (by lia),List.take_of_length_le (Nat.le_refl _),List.take_of_length_le (by lia)]
theorem Lr.comes{W:List Int}{m n:Nat}{p r1 r2 lo:Addr}{ls:List T}{G:Gp}{A B:Adr}{S U:P.R}{ol:List Nat}{a fi se x y:Nat}{e1 e2:Int}{kd:Str}{b:Int}{K:VK3}(D:Lr Z W m p ls r1 r2 n G A S B U)(hn:n<=60)(hkd:PyData.strOk kd=true)(g:G lo=some (.lst (vsI ol)))(o1:¬ own A S lo)(ho:ol.length<=7)(hv:∀ v∈ol,v < m)
  (i1:e1=(fi:Int)) (i2:e2=(se:Int)) (hx:ol[fi]?=some x) (hy:ol[se]?=some y)
  (h:∀ G',Lr Z W m p ls r1 r2 n G' A (S.come (srtL (S.letters.filter (isK kd b))) (ol.take a++[x,y])) B U->G' lo=some (.lst (vsI ol))->K .non G') :
  (match G lo with
  | some (.lst ts)=>∀ p1:Addr,G p1=none->ixA (.ref lo) (.int e1) (updG G p1 (.lst (zkU ts none (some (a:Int))))) λx G1=>zrU 2 a/\ixA (.ref lo) (.int e2) G1 λx1 G1=>∀ p2:Addr,G1 p2=none ->
    zpZ (.ref p1) (.ref p2) (updG G1 p2 (.lst [x,x1])) λx G1=>zb5 Z [.ref r1,.str kd,.int b,x] G1 K
  | _=>False):=by
 subst i1 i2;simp only[g];intro p1 hp1;rw[zmI];have ev:(vsI ol).take a=vsI (ol.take a):=List.map_take.symm;rw[ev];have x1:=Ext.new (o:=.lst (vsI (ol.take a))) hp1;have g1:updG G p1 (.lst (vsI (ol.take a))) p1=some (.lst (vsI (ol.take a))):=zaa;generalize updG G p1 (.lst (vsI (ol.take a)))=G1 at x1 g1 ⊢;refine zbC (i:=fi) (v:=.int x) (x1 _ _ g) (by rw[List.getElem?_map,hx]; rfl) ?_;refine⟨.inl ⟨by decide,by decide⟩,?_⟩;refine zbC (i:=se) (v:=.int y) (x1 _ _ g) (by rw[List.getElem?_map,hy]; rfl) ?_;intro p2 hp2;have x2:=x1.trans (Ext.new (o:=.lst [T.int x,T.int y]) hp2);have h1:updG G1 p2 (.lst [T.int x,T.int y]) p1=some (.lst (vsI (ol.take a))):=Ext.new hp2 _ _ g1;have h2:updG G1 p2 (.lst [T.int x,T.int y]) p2=some (.lst [T.int x,T.int y]):=zaa;generalize updG G1 p2 (.lst [T.int x,T.int y])=G2 at x2 h1 h2 ⊢;simp only[zpZ,h1,h2];refine⟨by simp; lia,λp3 hp3=>?_⟩;have e3:vsI (ol.take a)++[T.int x,T.int y]=vsI (ol.take a++[x,y]):=by simp
 rw[e3];have x3:=x2.trans (Ext.new (o:=.lst (vsI (ol.take a++[x,y]))) hp3);have h3:updG G2 p3 (.lst (vsI (ol.take a++[x,y]))) p3=some (.lst (vsI (ol.take a++[x,y]))):=zaa;have o3:¬ own A S p3:=(D.ext x2).two.R1.free hp3;generalize updG G2 p3 (.lst (vsI (ol.take a++[x,y])))=G3 at x3 h3 ⊢;have D3:=D.ext x3;have hvs:∀ v∈ol.take a++[x,y],v < m:=λv hv'=>by
  rcases List.mem_append.mp hv' with q | q
  ·exact hv v (List.mem_of_mem_take q)
  ·simp at q;rcases q with rfl | rfl
   ·exact hv _ (List.mem_of_getElem? hx)
   ·exact hv _ (List.mem_of_getElem? hy)
 refine⟨n,A,S,kd,b,p3,ol.take a++[x,y],by rw[D.e1],D3.two.R1,D.k1,hn,hkd,h3,o3,λv hv'=>by rw[D.m1]; exact hvs v hv',D3.t2,λG4 R4 F4=>?_⟩;exact h G4 (D3.come (λx hx=>(zhC hx).1) hvs R4 F4) (F4 _ _ o1 (x3 _ _ g)).1
theorem Lr.prom{W:List Int}{m n:Nat}{p r1 r2:Addr}{ls:List T}{G:Gp}{A B:Adr}{S U:P.R}{kd:Str}{b:Int}{K:VK3}(D:Lr Z W m p ls r1 r2 n G A S B U)(hn:n<=60)(hm:0 < m)(hkd:PyData.strOk kd=true){q:Addr}(hq:G q=none)
  (h:∀ G',Lr Z W m p ls r1 r2 n G' A (S.come (srtL (S.letters.filter (isK kd b))) [0]) B U->K .non G'):zb5 Z [.ref r1,.str kd,.int b,.ref q] (updG G q (.lst [T.int 0])) K:=by
 have D1:=D.ext (Ext.new (o:=.lst [T.int 0]) hq);have hvs:∀ v∈[0],v < m:=λv hv=>by simp at hv; lia
 refine⟨n,A,S,kd,b,q,[0],by rw[D.e1],D1.two.R1,D.k1,hn,hkd,zaa,D.two.R1.free hq,λv hv=>by rw[D.m1]; exact hvs v hv,D1.t2,λG4 R4 F4=>?_⟩;exact h G4 (D1.come (λx hx=>(zhC hx).1) hvs R4 F4)
def zqg(Z:Cz):Sp3:=zhV [(Z.T,zoo,zpv),(Z.xA,zio,zjj)]
abbrev zlx:Stmt:=top 39
theorem zbt:FnScope ["_law_script","_law_wishes_here","_law_many_here","_law_rooms","_law_k","_law_room","_law_turn","_law_cell_here","_law_asker","_law_least","_law_ballot","_law_kind","_law_order","_law_ahead","_law_first"] ["_law_script"] (zac zlx):=by walk_at "s"
theorem zra{f:Addr}{fd:FuncData}(F:Fun K "law" "law" zlx f fd) (aT:At K Z) (b_len:mg "len"=none) (b_max:mg "max"=none) (b_range:mg "range"=none) (b_zip:mg "zip"=none) (F__law_cell:zcH Pg w K mg base Z) (F__law_come:zgo Pg w K mg base Z) (F__law_many:zgm Pg w K mg base Z) (F__law_mix:zbT Pg w K mg base Z) (F__law_play:zgl Pg w K mg base Z) (F__law_shown:zfd Pg w K mg base Z) (F__law_some:zdV Pg w K mg base Z) (F__law_wishes:zer Pg w K mg base Z) (M_Room_begin:zdl Pg w K mg base Z) (M_Room_letters:zaX Pg w K mg base Z) (N_Room:zdm Pg w K mg base Z):FOk Pg w K mg base 9 f fd ["_law_script"] (zqg Z):=by
 refine ok3 F zbt (λts G Q h=>?_) (λcdv A outer s H E hr=>?_)
 ·obtain⟨ns,rfl,_⟩:=h; rfl
 ·refine⟨_,(qss (zev 1 zbt.nd (zaE (F__law_wishes.mono (by decide:2<=8)) hr (qa (qv 0) qa0)))
   (qss (zev 2 zbt.nd (zaE (F__law_many.mono (by decide:2<=8)) hr (qa (qv 0) qa0)))
   (qss (zev 3 zbt.nd (znj (qa (zn5 (N_Room.mono (by decide:3<=7)) hr (qa (qv 1) (qa (qv 2) qa0))) (qa (zn5 (N_Room.mono (by decide:3<=7)) hr (qa (qv 1) (qa (qv 2) qa0))) qa0))))
   (qss (zkF (zi8 b_range (qa zax qa0)) (zaT 4 zbt.nd) (zaG (zkF (zdd (qv 3)) (zaT 5 zbt.nd) (zaG (zb2 (zaE F__law_play hr (qa (qv 5) (qa (zgr (zaE (F__law_cell.mono (by decide:1<=8)) hr (qa (qv 0) (qa (zgr zax (qv 4)) qa0))) (zoh zax (qv 4))) (qa (zdA b_len (qa (qv 1) qa0)) (qa (qv 2) (qa (znj qa0) qa0)))))))))))
   (qss (ze6 (PW.pt (zqr (zqu hr (zbb (zbP hr (qv 3) zax) (M_Room_letters.mono (by decide:2<=8)) hr) (zbb (zbP hr (qv 3) zax) (M_Room_letters.mono (by decide:2<=8)) hr)) (zqs (zjO hr (qv 2) zax)))) (zaG (zbY (qeq hr (zbb (zbP hr (qv 3) zax) (M_Room_letters.mono (by decide:2<=8)) hr) (zbb (zbP hr (qv 3) zax) (M_Room_letters.mono (by decide:2<=8)) hr)))) zaL)
   (qss (zkF (zi8 b_range (qa zax qa0)) (zaT 6 zbt.nd) (qss (zev 7 zbt.nd (zgr (zaE (F__law_cell.mono (by decide:1<=8)) hr (qa (qv 0) (qa (zgr zax (qv 6)) qa0))) (qv 6)))
   (qss (zev 8 zbt.nd (zaE (F__law_mix.mono (by decide:1<=8)) hr (qa (qv 7) (qa zax (qa (zdA b_len (qa (qv 1) qa0)) qa0)))))
   (qss (zev 9 zbt.nd (zoW hr b_max (qa (zsC (znj (qa zax qa0)) (zh6 ["_law_letter"] [none] (zgG (oN:=["_law_script","_law_wishes_here","_law_many_here","_law_rooms","_law_k","_law_room","_law_turn","_law_cell_here","_law_asker","_law_least","_law_ballot","_law_kind","_law_order","_law_ahead","_law_first"]) (osc:=zac zlx) rfl rfl (by decide +kernel)) (zdd (zbb (zbP hr (qv 3) zax) (M_Room_letters.mono (by decide:2<=8)) hr)) (λ_ _ _ _=>(zaT 0 (show List.Nodup (["_law_letter"]:List Str)by decide +kernel))) (λ_ _ _ _=>zi7) (λ_ _ _ _=>(zgr (zbP hr (qv 0) zax) zax)))) qa0)))
   (qss (zev 10 zbt.nd (zbD (zbP hr (qv 3) zax) (M_Room_begin.mono (by decide:3<=8)) hr (qa (qv 8) (qa (qv 9) qa0))))
   (qss (ze6 (zqu hr (zbD (zbP hr (qv 3) zax) (M_Room_begin.mono (by decide:3<=8)) hr (qa (qv 8) (qa (qv 9) qa0))) (qv 10)) (zaG (zbY qbl)) zaL)
   (zaG (zkF (zdd (ziT (qa zk4 (qa zk4 qa0)))) (zaT 11 zbt.nd) (qss (zev 12 zbt.nd (zaE (F__law_some.mono (by decide:2<=8)) hr (qa (zgr (qv 7) (zqB b_len (qa (qv 11) qa0))) (qa (qv 2) (qa (qv 2) qa0)))))
   (qss (zev 13 zbt.nd (zaE (F__law_mix.mono (by decide:1<=8)) hr (qa (zgr (qv 7) (zqB b_len (qa (qv 11) qa0))) (qa zax (qa (zpX (qv 2) zax) qa0)))))
   (qss (zkF (zoY b_zip (qa (qv 3) (qa (ziT (qa (qv 13) (qa (zgr (qv 13) zax) qa0))) qa0))) (zo0 (n:=2) (qgs (zaT 5 zbt.nd) (qgs (zaT 14 zbt.nd) zsz))) (zaG (zb2 (zaE (F__law_come.mono (by decide:6<=8)) hr (qa (qv 5) (qa (qv 11) (qa (qv 10) (qa (zsC (zlD (qv 12) qp0 (qp1 (qv 13))) (znj (qa (zbP hr (qv 12) (qv 14)) (qa (zbP hr (qv 12) (zpX (zgr (zoh zax (qv 13)) zax) (qv 14))) qa0)))) qa0))))))))
   (qss (ze6 (zqu hr (zaE (F__law_shown.mono (by decide:5<=8)) hr (qa (zbP hr (qv 3) zax) (qa (zdA b_len (qa (qv 1) qa0)) (qa (qv 2) qa0)))) (zaE (F__law_shown.mono (by decide:5<=8)) hr (qa (zbP hr (qv 3) zax) (qa (zdA b_len (qa (qv 1) qa0)) (qa (qv 2) qa0))))) (zaG (zbY qbl)) zaL)
   (zaG (zkF (zdd (qv 3)) (zaT 5 zbt.nd) (zaG (zb2 (zaE (F__law_come.mono (by decide:6<=8)) hr (qa (qv 5) (qa zk4 (qa (qv 10) (qa (znj (qa zax qa0)) qa0)))))))))))))))))))))
   (zaG (zbY (qeq hr (zaE (F__law_shown.mono (by decide:5<=8)) hr (qa (zbP hr (qv 3) zax) (qa (zdA b_len (qa (qv 1) qa0)) (qa (qv 2) qa0)))) (zaE (F__law_shown.mono (by decide:5<=8)) hr (qa (zbP hr (qv 3) zax) (qa (zdA b_len (qa (qv 1) qa0)) (qa (qv 2) qa0))))))))))))),λts G Q h=>?_⟩
  obtain⟨ns,rfl,hlen,hG,h⟩:=h;have hwl:=zla ns;have hmn:=(zl3 ns).2;have gT:=hG (Z.T,zoo,zpv) (by simp);have gU:=hG (Z.xA,zio,zjj) (by simp);dsimp only at gT gU;clear hG;simp[zaH,zaS,zam,zaO,wOp,zas,wC,iI,iI0,zad,wCB,zaf,zat,zaj,zaV,zar,zbn,zbN,wOr,zay,zaq,zbe,zaI,zav,iR1,zah,zaN,wP0,wP1,zaC,zbu,zce,zeS,zbf,zeT,zaW,zk3];refine⟨ns,rfl,λG1 x1=>?_⟩;refine⟨ns,rfl,?_⟩;intro r1 hr1;refine⟨r1,zbq ns,manyOf ns,rfl,zaa,by lia,by lia,λA G3 er1 R1 F1=>?_⟩;have gT1:=x1 _ _ gT;have gU1:=x1 _ _ gU;have T1:=F1 Z.T _ (neG gT1 hr1) (by rw[zab (neG gT1 hr1)]; exact gT1);have U1:=F1 Z.xA _ (neG gU1 hr1) (by rw[zab (neG gU1 hr1)]; exact gU1);simp only[];intro r2 hr2;refine⟨r2,zbq ns,manyOf ns,rfl,zaa,by lia,by lia,λB G4 er2 R2 F2=>?_⟩;have fA:∀ s,zeQ (P.new (zbq ns) (manyOf ns)) s->G4 (A s)=some (obj Z (P.new (zbq ns) (manyOf ns)) A s)/\¬ own B (P.new (zbq ns) (manyOf ns)) (A s):=λs hs =>
   F2 (A s) _ (neG (R1.at' s hs) hr2) (by rw[zab (neG (R1.at' s hs) hr2)]; exact R1.at' s hs)
  have T2:=F2 Z.T _ (neG T1.1 hr2) (by rw[zab (neG T1.1 hr2)]; exact T1.1);have U2:=F2 Z.xA _ (neG U1.1 hr2) (by rw[zab (neG U1.1 hr2)]; exact U1.1);have tw:Two Z G4 A (P.new (zbq ns) (manyOf ns)) B (P.new (zbq ns) (manyOf ns)):=⟨⟨λs hs=>(fA s hs).1,R1.inj⟩,R2,λs t hs ht e=>(fA s hs).2 ⟨t,ht,e.symm⟩⟩;simp only[];intro p hp;have D0:Lr Z (zbq ns) (manyOf ns) p [.ref r1,.ref r2] r1 r2 0 (updG G4 p (.lst [.ref r1,.ref r2])) A (P.new (zbq ns) (manyOf ns)) B (P.new (zbq ns) (manyOf ns)) :=
   ⟨tw.ext (Ext.new hp),er1,er2,P.Ok.new hwl.1 hmn.2,P.Ok.new hwl.1 hmn.2,rfl,rfl,rfl,rfl,zaa,tw.R1.free hp,tw.R2.free hp,Ext.new hp _ _ T2.1,Ext.new hp _ _ U2.1⟩
  generalize updG G4 p (.lst [.ref r1,.ref r2])=G5 at D0;generalize P.new (zbq ns) (manyOf ns)=S0 at D0;clear tw T1 U1 T2 U2 fA R1 R2 F1 F2 gT gU gT1 gU1;refine zba (J:=λq τ G6=>∃ (j:Nat) (A6:Adr) (S6:P.R) (B6:Adr) (o4 o5:Option T),q=(zcs 0 6).drop j/\j<=6/\τ=[some (.fro (ns.map T.int)),some (.tup ((zbq ns).map T.int)),some (.int (manyOf ns)),some (.ref p),o4,o5,none,none,none,none,none,none,none,none,none]/\Lr Z (zbq ns) (manyOf ns) p [.ref r1,.ref r2] r1 r2 j G6 A6 S6 B6 S6)
   (λ_ _ _ _=>trivial) (λτ G6 j=>?_) (λx q τ G6 N hN j=>?_) _ _ _ ⟨0,_,_,_,_,_,rfl,by lia,rfl,D0⟩
  ·revert j;refine λx_0=>ex6 x_0 λj A6 S6 B6 o4 o5 h_0=>?_;clear x_0;have hj:=h_0.2.1;have D:=h_0.2.2.2;obtain rfl:=h_0.2.2.1;clear h_0;have D:Lr Z (zbq ns) (manyOf ns) p [.ref r1,.ref r2] r1 r2 6 G6 A6 S6 B6 S6:={ D with k1:=D.k1.mono hj,k2:=D.k2.mono hj };clear D0;simp only[zaH,zaS];have R1:=D.two.R1;have R2:=D.two.R2;simp[zaH,zaS,zam,zaO,wOp,zas,wC,iI,iI0,zad,wCB,zaf,zat,zaj,zaV,zar,zbn,zbN,wOr,zay,zaq,zbe,zaI,zav,iR1,zah,zaN,wP0,wP1,zaC,zbu,zce,zeS,zbf,zeT,zaW];refine zbC (i:=0) D.gp rfl ?_;refine zai (D.e1 ▸ R1.at' .r trivial) rfl ?_;refine⟨A6,S6,by rw[D.e1],R1,?_⟩;refine zbC (i:=1) D.gp rfl ?_;refine zai (D.e2 ▸ R2.at' .r trivial) rfl ?_;refine⟨B6,S6,by rw[D.e2],R2,?_⟩;refine zjb (zct G6 17 S6.letters) (zct G6 17 S6.letters) ?_;simp only[Bool.false_eq_true,if_false];simp only[wD,toD,zn1];by_cases hm1:(manyOf ns:Int)=1
   ·simp[hm1];refine zbC (i:=0) D.gp rfl ?_;refine zai (D.e1 ▸ R1.at' .r trivial) rfl ?_;refine⟨A6,S6,by rw[D.e1],R1,?_⟩;refine zbC (i:=1) D.gp rfl ?_;refine zai (D.e2 ▸ R2.at' .r trivial) rfl ?_;refine⟨B6,S6,by rw[D.e2],R2,?_⟩;refine zke (zct G6 17 S6.letters) (zct G6 17 S6.letters) ?_;exact h _
   ·simp[hm1];have hm2:2<=manyOf ns:=by lia
    simp only[zk3,iR1,zaf,wC,zat];refine⟨⟨by decide,by decide⟩,?_⟩;refine zba (J:=λq τ G7=>∃ (j:Nat) (A7:Adr) (S7:P.R) (B7:Adr) (U7:P.R) (o5 o6 o7 o8 o9 o10 o11 o12 o13 o14:Option T),q=(zcs 0 3).drop j/\j<=3/\τ=[some (.fro (ns.map T.int)),some (.tup ((zbq ns).map T.int)),some (.int (manyOf ns)),some (.ref p),o4,o5,o6,o7,o8,o9,o10,o11,o12,o13,o14]/\Lr Z (zbq ns) (manyOf ns) p [.ref r1,.ref r2] r1 r2 (6+j) G7 A7 S7 B7 U7/\P.Al S7 U7)
     (λ_ _ _ _=>trivial) (λτ G7 j=>?_) (λx q τ G7 N hN j=>?_) _ _ _ ⟨0,_,_,_,_,_,_,_,_,_,_,_,_,_,_,rfl,by lia,rfl,D,P.Al.refl _⟩
    ·revert j;refine λx_1=>zsU x_1 λj A7 S7 B7 U7 o5 o6 o7 o8 o9 o10 o11 o12 o13 o14 h_1=>?_;clear x_1;have hj:=h_1.2.1;have D:=h_1.2.2.2.1;have al:=h_1.2.2.2.2;obtain rfl:=h_1.2.2.1;clear h_1;simp[zaH,zaS,zam,zaO,wOp,zas,wC,iI,iI0,zad,wCB,zaf,zat,zaj,zaV,zar,zbn,zbN,wOr,zay,zaq,zbe,zaI,zav,iR1,zah,zaN,wP0,wP1,zaC,zbu,zce,zeS,zbf,zeT,zaW];refine D.shown al (by lia) (by lia) λx y G' d x' e1 e2=>?_;exact zke e1 e2 (h _)
    ·revert j;refine λx_2=>zsU x_2 λj A7 S7 B7 U7 o5 o6 o7 o8 o9 o10 o11 o12 o13 o14 h_2=>?_;clear x_2;have eq:=h_2.1;have hj:=h_2.2.1;have D:=h_2.2.2.2.1;have al:=h_2.2.2.2.2;obtain rfl:=h_2.2.2.1;clear h_2;have hj3:j < 3:=by
      have:=congrArg List.length eq;simp[zcs]at this;lia
     have ed:=zfC (m:=3) hj3;rw[show(((3:Nat):Int))=3 from rfl]at ed;rw[ed]at eq;cases eq
     simp[zaH,zaS,zam,zaO,wOp,zas,wC,iI,iI0,zad,wCB,zaf,zat,zaj,zaV,zar,zbn,zbN,wOr,zay,zaq,zbe,zaI,zav,iR1,zah,zaN,wP0,wP1,zaC,zbu,zce,zeS,zbf,zeT,zaW];have ec:(8+(j:Int))=((8+j:Nat):Int):=by lia
     rw[ec];refine⟨ns,8+j,rfl,?_⟩;dsimp only;generalize cellI ns (8+j)+(j:Int)=c;refine zeg ?_;rw[List.length_map];refine⟨c,9941,_,rfl,by decide,by lia,?_⟩;have ha:=zbk c 9941 (zbq ns).length (by lia);obtain⟨i,hi⟩:=Int.eq_ofNat_of_zero_le ha.1;have hin:i < (zbq ns).length:=by lia
     rw[hi];have hln:=D.k1.ln;have hln2:=D.k2.ln;intro p1 hp1;have D1:=D.ext (Ext.new (o:=.lst [T.int 0]) hp1);refine zbC (i:=0) D1.gp rfl ?_;refine zai (D1.e1 ▸ D1.two.R1.at' .r trivial) rfl ?_;refine⟨A7,S7,by rw[D1.e1],D1.two.R1,?_⟩;refine⟨by simp; lia,?_⟩;refine zem zs1 trivial _ (λx hx R r=>?_) ?_
     ·obtain⟨y,hy,rfl⟩:=List.mem_map.mp hx;rw[zkj]at r;simp[zaH,zaS,zam,zaO,wOp,zas,wC,iI,iI0,zad,wCB,zaf,zat,zaj,zaV,zar,zbn,zbN,wOr,zay,zaq,zbe,zaI,zav,iR1,zah,zaN,wP0,wP1,zaC,zbu,zce,zeS,zbf,zeT,zaW,zf5];refine zaw (i:=1) (zmb y) ?_;exact r
     ·rw[zn7];clear D1;intro p2 hp2;have n21:p2≠p1:=by rintro rfl; rw[zaa]at hp2; cases hp2
      rw[zab n21]at hp2;have gg1:updG (updG G7 p1 (.lst [T.int 0])) p2 (.lst ((zeZ S7.letters).map T.int)) p1=some (.lst [T.int 0]):=by rw[zab (Ne.symm n21)]; exact zaa
      have gg2:updG (updG G7 p1 (.lst [T.int 0])) p2 (.lst ((zeZ S7.letters).map T.int)) p2=some (.lst ((zeZ S7.letters).map T.int)):=zaa;have x2:Ext G7 (updG (updG G7 p1 (.lst [T.int 0])) p2 (.lst ((zeZ S7.letters).map T.int))):=(Ext.new hp1).trans (Ext.new (by rw[zab n21]; exact hp2));generalize updG (updG G7 p1 (.lst [T.int 0])) p2 (.lst ((zeZ S7.letters).map T.int))=G8 at gg1 gg2 x2 ⊢;simp only[zpZ,gg1,gg2];refine⟨by simp[zeZ]; lia,λp3 hp3=>?_⟩;have D3:=D.ext (x2.trans (Ext.new (o:=.lst ([T.int 0]++(zeZ S7.letters).map T.int)) hp3));simp only[zrd,zaa];refine .inr ⟨0,zeZ S7.letters,rfl,?_⟩;have hl0:0<=bestL (λa b=>decide (a < b)) 0 (zeZ S7.letters):=zhL (λa b hab=>by have:=of_decide_eq_true hab; lia) _ _;generalize bestL (λa b=>decide (a < b)) 0 (zeZ S7.letters)=l at hl0 ⊢;generalize updG G8 p3 (.lst ([T.int 0]++(zeZ S7.letters).map T.int))=G9 at D3 ⊢;refine zbC (i:=0) D3.gp rfl ?_;refine zai (D3.e1 ▸ D3.two.R1.at' .r trivial) rfl ?_;refine⟨A7,S7,l,i,by rw[D3.e1],D3.two.R1,by rw[D3.w1]; exact hin,by lia,λA8 G10 eA R8 F8=>?_⟩;have D4:=D3.move F8 R8 eA (P.Grow.begin S7 i l) (n':=6+j+1) (by lia) (D3.k1.begin (by rw[D3.w1]; exact hin) hl0);refine zbC (i:=1) D4.gp rfl ?_;refine zai (D4.e2 ▸ D4.two.R2.at' .r trivial) rfl ?_;refine⟨B7,U7,l,i,by rw[D4.e2],D4.two.R2,by rw[D4.w2]; exact hin,by lia,λB8 G11 eB R9 F9=>?_⟩;have D5:=(D4.swap.move F9 R9 eB (P.Grow.begin U7 i l) (n':=6+j+1) (by lia) (D3.k2.begin (by rw[D3.w2]; exact hin) hl0)).swap;have al5:=al.begin i l;have ed:(U7.askers i).due i U7.wishes.length l=(S7.askers i).due i S7.wishes.length l:=by rw[al.a,al.w]
      rw[ed];generalize (S7.askers i).due i S7.wishes.length l=b;refine zjb (d:=.int b) (by simp[toD]) (by simp[toD]) ?_;simp only[Bool.false_eq_true,if_false];generalize S7.begin i l=S8 at D5 al5;generalize U7.begin i l=U8 at D5 al5;clear D3 D4 D F8 F9 R8 R9 al gg1 gg2 x2 hp1 hp2 hp3 n21 hln hln2;simp only[zk3,zce,zbn,zaf,wC,zat];refine⟨by simp,?_⟩;refine zba (J:=λq τ G12=>∃ (ks:List Str) (A9:Adr) (S9:P.R) (B9:Adr) (U9:P.R) (o5 o11 o12 o13 o14:Option T),q=ks.map T.str/\(∀ kd∈ks,kd="prepare"∨kd="ask")/\τ=[some (.fro (ns.map T.int)),some (.tup ((zbq ns).map T.int)),some (.int (manyOf ns)),some (.ref p),o4,o5,some (.int j),some (.int c),some (.int i),some (.int l),some (.int b),o11,o12,o13,o14]/\Lr Z (zbq ns) (manyOf ns) p [.ref r1,.ref r2] r1 r2 (6+j+1) G12 A9 S9 B9 U9/\P.Al S9 U9)
       (λ_ _ _ _=>trivial) (λτ G12 jj=>?_) (λx q τ G12 N2 hN2 jj=>?_) _ _ _ ⟨["prepare","ask"],_,_,_,_,_,_,_,_,_,rfl,by simp,rfl,D5,al5⟩
      ·revert jj;refine λx_3=>zrA x_3 λks A9 S9 B9 U9 o5 o11 o12 o13 o14 h_3=>?_;clear x_3;have D9:=h_3.2.2.2.1;have al9:=h_3.2.2.2.2;obtain rfl:=h_3.2.2.1;clear h_3;exact hN _ _ ⟨j+1,A9,S9,B9,U9,_,_,_,_,_,_,_,_,_,_,rfl,by lia,rfl,D9,al9⟩
      ·revert jj;refine λx_4=>zrA x_4 λks A9 S9 B9 U9 o5 o11 o12 o13 o14 h_4=>?_;clear x_4;have eq:=h_4.1;have hks:=h_4.2.1;have D:=h_4.2.2.2.1;have al:=h_4.2.2.2.2;obtain rfl:=h_4.2.2.1;clear h_4;cases ks with
       | nil=>simp at eq
       | cons kd ks =>
        simp only[List.map_cons,List.cons.injEq]at eq;obtain⟨rfl,rfl⟩:=eq;have hkd:=hks kd List.mem_cons_self;have hks':∀ k∈ks,k="prepare"∨k="ask":=λk hk=>hks k (List.mem_cons_of_mem _ hk);have okd:PyData.strOk kd=true:=by rcases hkd with rfl | rfl; exact ok1; exact zgT
        have lkd:kd.length<=1000:=by rcases hkd with rfl | rfl<;>decide +kernel
        clear D5 al5 hN hks;simp[zaH,zaS,zam,zaO,wOp,zas,wC,iI,iI0,zad,wCB,zaf,zat,zaj,zaV,zar,zbn,zbN,wOr,zay,zaq,zbe,zaI,zav,iR1,zah,zaN,wP0,wP1,zaC,zbu,zce,zeS,zbf,zeT,zaW];refine⟨lkd,?_⟩;refine⟨c+kd.length,manyOf ns,manyOf ns,rfl,nLr _,by lia,λG13 lo x13 hlo hv13=>?_⟩;refine⟨lkd,?_⟩;refine⟨c+kd.length,9901,_,rfl,by decide,by lia,?_⟩;have hah:=zbk (c+kd.length) 9901 ((manyOf ns:Int) - 1) (by lia);obtain⟨a,ha⟩:=Int.eq_ofNat_of_zero_le hah.1;rw[ha]at hah ⊢;have ham:a+1 < manyOf ns:=by lia
        have hol:=zd5 (c:=c+kd.length) (m:=manyOf ns) (k:=manyOf ns) (nLr _);have hov:=λv hv=>zfB (c:=c+kd.length) (m:=manyOf ns) (k:=manyOf ns) (nLr _) v hv;generalize someL (c+kd.length) (manyOf ns) (manyOf ns)=ol at hv13 hol hov;have D1:=D.ext x13;have nlo1:=D.two.R1.free hlo;have nlo2:=D.two.R2.free hlo;clear ha hah D x13 hlo;simp[zaH,zaS,zam,zaO,wOp,zas,wC,iI,iI0,zad,wCB,zaf,zat,zaj,zaV,zar,zbn,zbN,wOr,zay,zaq,zbe,zaI,zav,iR1,zah,zaN,wP0,wP1,zaC,zbu,zce,zeS,zbf,zeT,zaW,zk3,zrt,D1.gp];have ez:zoy [T.ref r1,T.ref r2] [T.int (a:Int),T.int ((a:Int)+1)]=[.tup [.ref r1,.int a],.tup [.ref r2,.int (a+1)]]:=rfl;rw[ez];have h0:ol[a]?=some ol[a]:=lGe (by lia);have h1:ol[a+1]?=some ol[a+1]:=lGe (by lia);refine zkb λEn hE=>?_;simp only[zms];refine⟨D1.gp,?_⟩;simp[zaH,zaS,zam,zaO,wOp,zas,wC,iI,iI0,zad,wCB,zaf,zat,zaj,zaV,zar,zbn,zbN,wOr,zay,zaq,zbe,zaI,zav,iR1,zah,zaN,wP0,wP1,zaC,zbu,zce,zeS,zbf,zeT,zaW];refine D1.comes (fi:=a) (se:=a+1) (by lia) okd hv13 nlo1 (by lia) hov rfl (by lia) h0 h1 λG14 D2 lo2=>?_;refine⟨D2.gp,?_⟩;refine D2.swap.comes (fi:=a+1) (se:=a) (by lia) okd lo2 nlo2 (by lia) hov (by lia) (by lia) h1 h0 λG15 D3 lo3=>?_;have D3:=D3.swap;refine⟨D3.gp,?_⟩;have al2:=al.comeX (vs:=ol.take a) (u:=ol[a]) (v:=ol[a+1]) (xs:=srtL (S9.letters.filter (isK kd b))) λx hx=>zpB (zhC hx).2 hkd;rw[zlq al D1.k1.good]at D3;generalize S9.come _ _=S10 at D3 al2;generalize U9.come _ _=U10 at D3 al2;clear D2 D1 lo2 lo3 hv13;subst hE;simp[zaH,zaS,zam,zaO,wOp,zas,wC,iI,iI0,zad,wCB,zaf,zat,zaj,zaV,zar,zbn,zbN,wOr,zay,zaq,zbe,zaI,zav,iR1,zah,zaN,wP0,wP1,zaC,zbu,zce,zeS,zbf,zeT,zaW,zk3];refine D3.shown al2 (by lia) (by lia) λx y G16 d x16 e1 e2=>?_;refine zjb e1 e2 ?_;simp only[Bool.false_eq_true,if_false];have D4:=D3.ext x16;simp only[D4.gp];refine zkb λEn hE=>?_;simp only[zms];refine⟨D4.gp,?_⟩;simp[zaH,zaS,zam,zaO,wOp,zas,wC,iI,iI0,zad,wCB,zaf,zat,zaj,zaV,zar,zbn,zbN,wOr,zay,zaq,zbe,zaI,zav,iR1,zah,zaN,wP0,wP1,zaC,zbu,zce,zeS,zbf,zeT,zaW];intro q1 hq1;refine D4.prom (by lia) (by lia) ok2 hq1 λG17 D5=>?_;refine⟨D5.gp,?_⟩;intro q2 hq2;refine D5.swap.prom (by lia) (by lia) ok2 hq2 λG18 D6=>?_;have D6:=D6.swap;refine⟨D6.gp,?_⟩;rw[zlq al2 D4.k1.good]at D6;subst hE;exact hN2 _ _ ⟨ks,A9,_,B9,_,_,_,_,_,_,rfl,hks',rfl,D6,al2.come⟩
  ·revert j;refine λx_5=>ex6 x_5 λj A6 S6 B6 o4 o5 h_5=>?_;clear x_5;have eq:=h_5.1;have hj:=h_5.2.1;have D:=h_5.2.2.2;obtain rfl:=h_5.2.2.1;clear h_5;have hj6:j < 6:=by
    have:=congrArg List.length eq;simp[zcs]at this;lia
   have ed:=zfC (m:=6) hj6;rw[show(((6:Nat):Int))=6 from rfl]at ed;rw[ed]at eq;cases eq
   simp[zaH,zaS,zam,zaO,wOp,zas,wC,iI,iI0,zad,wCB,zaf,zat,zaj,zaV,zar,zbn,zbN,wOr,zay,zaq,zbe,zaI,zav,iR1,zah,zaN,wP0,wP1,zaC,zbu,zce,zeS,zbf,zeT,zaW];simp only[zk3,zce,zas,List.getElem?_cons_succ,List.getElem?_cons_zero,D.gp,zms];refine⟨trivial,?_⟩;simp[zaH,zaS,zam,zaO,wOp,zas,wC,iI,iI0,zad,wCB,zaf,zat,zaj,zaV,zar,zbn,zbN,wOr,zay,zaq,zbe,zaI,zav,iR1,zah,zaN,wP0,wP1,zaC,zbu,zce,zeS,zbf,zeT,zaW];have ec:(2+(j:Int))=((2+j:Nat):Int):=by lia
   rw[ec];refine⟨ns,2+j,rfl,.inl ⟨by decide,by decide⟩,?_⟩;refine zeg ?_;intro dn hdn;refine⟨j,r1,dn,A6,S6,_,by rw[D.w1,D.m1,List.length_map],D.hs hdn,by lia,by rw[D.m1]; lia,λG7 A7 S7 H7 M7=>?_⟩;have D7:=D.play hdn (n':=j+1) (by lia) H7 M7;have e7:=zhj M7.ex;refine⟨D7.gp,?_⟩;refine⟨ns,2+j,rfl,.inl ⟨by decide,by decide⟩,?_⟩;refine zeg ?_;intro dn2 hdn2;refine⟨j,r2,dn2,B6,S6,_,by rw[D.w1,D.m1,List.length_map],{ D7.swap.hs hdn2 with ok:=D.k2 },by lia,by rw[D.m1]; lia,λG8 B8 S8 H8 M8=>?_⟩;have D8:=(D7.swap.play hdn2 (n':=j+1) (by lia) H8 M8).swap;have e8:S8=S7:=by rw[e7]; exact zhj M8.ex
   subst e8;refine⟨D8.gp,?_⟩;exact hN _ _ ⟨j+1,A7,S8,B8,_,_,rfl,by lia,rfl,D8⟩
end
noncomputable abbrev fnS(a b:Str)(s:Stmt)(q r s':Value)(e:Option Addr)(t u:Value):FuncData:=W.fnOf a b (zeX s) (zcG s) (zac s) .none q r s' e t u
theorem all_mk{l:W.OpenLaw}{w:World}{K:W.Frag}{h:Heap}{mg:Str->Option Value}{cL0 tL0 cL1 tL1 fa cP cA cV cR:Addr}(X:K.In h)(G:h.Ns mainGlobals mg)(hfa:mg "law"=some (.ref fa))
  {f0 f1 f2 f3 f4 f5 f6 f7 f8 f9 f10 f11 f12 f13 f14 f15 f16 f17 f18 f19 f20 f21 f22 f23 f24 f25 f26 f27 f28 f29 f30 f31 f32 f33 f34 f35 f36 f37 f38 f39 f40 f41 f42 f43 f44 f45 f46 f47:Addr}
  {d43 e43 d46 e46 d47 e47:Option Addr}
  {g43 g46 g47:Array (Option Value)}
  {o43 q43 r43 s43 u43 o46 q46 r46 s46 u46 o47 q47 r47 s47 t47 u47:Value}
  {t_ASK:Tok}
  {t_PREPARE:Tok}
  {t_PROMISE:Tok}
  {t_VOTE:Tok}
  (CP:W.nsIn K mainGlobals "Pile"=some (some (.ref cP)))
  (pP:W.plainGet K cP Str.empty=true)
  (hP:W.hasDictIn K cP=true)
  (oP:W.plainOver K cP=true)
  (sP:W.findIn K (.ref cP) "__setattr__"=some (some (.builtin "object.__setattr__")))
  (mP:W.makesIn K cP=true)
  (kP:W.keepIn K (.ref cP)=true)
  (nP0:W.findIn K (.ref cP) "row"=some none)
  (nP1:W.findIn K (.ref cP) "written"=some none)
  (CA:W.nsIn K mainGlobals "Asker"=some (some (.ref cA)))
  (pA:W.plainGet K cA Str.empty=true)
  (hA:W.hasDictIn K cA=true)
  (oA:W.plainOver K cA=true)
  (sA:W.findIn K (.ref cA) "__setattr__"=some (some (.builtin "object.__setattr__")))
  (mA:W.makesIn K cA=true)
  (kA:W.keepIn K (.ref cA)=true)
  (nA0:W.findIn K (.ref cA) "number"=some none)
  (nA1:W.findIn K (.ref cA) "step"=some none)
  (nA2:W.findIn K (.ref cA) "wish"=some none)
  (nA3:W.findIn K (.ref cA) "many"=some none)
  (nA4:W.findIn K (.ref cA) "ballot"=some none)
  (nA5:W.findIn K (.ref cA) "fresh"=some none)
  (nA6:W.findIn K (.ref cA) "noted"=some none)
  (nA7:W.findIn K (.ref cA) "asked"=some none)
  (CV:W.nsIn K mainGlobals "Voter"=some (some (.ref cV)))
  (pV:W.plainGet K cV Str.empty=true)
  (hV:W.hasDictIn K cV=true)
  (oV:W.plainOver K cV=true)
  (sV:W.findIn K (.ref cV) "__setattr__"=some (some (.builtin "object.__setattr__")))
  (mV:W.makesIn K cV=true)
  (kV:W.keepIn K (.ref cV)=true)
  (nV0:W.findIn K (.ref cV) "number"=some none)
  (nV1:W.findIn K (.ref cV) "bound"=some none)
  (nV2:W.findIn K (.ref cV) "last"=some none)
  (CR:W.nsIn K mainGlobals "Room"=some (some (.ref cR)))
  (pR:W.plainGet K cR Str.empty=true)
  (hR:W.hasDictIn K cR=true)
  (oR:W.plainOver K cR=true)
  (sR:W.findIn K (.ref cR) "__setattr__"=some (some (.builtin "object.__setattr__")))
  (mR:W.makesIn K cR=true)
  (kR:W.keepIn K (.ref cR)=true)
  (nR0:W.findIn K (.ref cR) "many"=some none)
  (nR1:W.findIn K (.ref cR) "pile"=some none)
  (nR2:W.findIn K (.ref cR) "askers"=some none)
  (nR3:W.findIn K (.ref cR) "voters"=some none)
  (D0:Tp K "prepare" zfQ f0)
  (D1:Md K cP "__init__" "Pile.__init__" zbX f1)
  (D2:Md K cP "write" "Pile.write" zda f2)
  (D3:Md K cP "letters" "Pile.letters" zcd f3)
  (D4:Tp K "own_ballot" zc4 f4)
  (D5:Md K cA "__init__" "Asker.__init__" zbB f5)
  (D6:Md K cA "begin" "Asker.begin" zcD f6)
  (D7:Md K cA "fall" "Asker.fall" zdc f7)
  (D8:Md K cV "__init__" "Voter.__init__" zby f8)
  (D9:Md K cV "promised" "Voter.promised" zbw f9)
  (D10:Md K cV "voted" "Voter.voted" zcA f10)
  (D11:Md K cR "asker_at" "Room.asker_at" zbW f11)
  (D12:Md K cR "voter_at" "Room.voter_at" zbU f12)
  (D13:Md K cR "letters" "Room.letters" zcc f13)
  (D14:Md K cR "begin" "Room.begin" zc9 f14)
  (D15:Md K cR "fall" "Room.fall" zdP f15)
  (D16:Md K cR "promised" "Room.promised" zbV f16)
  (D17:Md K cR "voted" "Room.voted" zc7 f17)
  (D18:Md K cR "ballot_of" "Room.ballot_of" zbz f18)
  (D19:Tp K "more_than_half" zbv f19)
  (D20:Md K cR "__init__" "Room.__init__" zaZ f20)
  (D21:Tp K "promise" zfP f21)
  (D22:Tp K "ask" zoQ f22)
  (D23:Tp K "vote" zlw f23)
  (D24:Tp K "owner" zi3 f24)
  (D25:Md K cP "letter_at" "Pile.letter_at" zbA f25)
  (D26:Md K cV "hear_prepare" "Voter.hear_prepare" za2 f26)
  (D27:Md K cV "hear_ask" "Voter.hear_ask" zbx f27)
  (D28:Md K cV "hear" "Voter.hear" zc6 f28)
  (D29:Md K cA "wish_to_ask" "Asker.wish_to_ask" zaU f29)
  (D30:Md K cA "hear" "Asker.hear" zdb f30)
  (D31:Md K cR "come" "Room.come" zdQ f31)
  (D32:Md K cR "bring" "Room.bring" zc8 f32)
  (D33:Tp K "chosen_pairs" zbp f33)
  (D34:Md K cR "chosen" "Room.chosen" zcB f34)
  (D35:Tp K "_law_cell" zdO f35)
  (D36:Tp K "_law_mix" zeG f36)
  (D37:Tp K "_law_wishes" zbM f37)
  (D38:Tp K "_law_many" zdN f38)
  (D39:Tp K "_law_some" zcx f39)
  (D40:Tp K "_law_do" zfR f40)
  (D41:Tp K "_law_bring" zc5 f41)
  (D42:Tp K "_law_play" zcy f42)
  (a43:W.nsIn K mainGlobals "_law_come"=some (some (.ref f43)))
  (l43:K.lookup f43=some ⟨o43,d43,.func (fnS "_law_come" "_law_come" zcz q43 r43 s43 e43 (.ref cL1) u43),g43⟩)
  (hdL1:W.codeHdIn K cL1 tL1=true)
  (ktL1:K.lookup tL1=none)
  (c43:W.codeIn K (.ref cL1) "_law_come"=true)
  (k43:W.keepIn K (.ref f43)=true)
  (D44:Tp K "chosen_wish" zcw f44)
  (D45:Md K cR "choice" "Room.choice" zcC f45)
  (a46:W.nsIn K mainGlobals "_law_shown"=some (some (.ref f46)))
  (l46:K.lookup f46=some ⟨o46,d46,.func (fnS "_law_shown" "_law_shown" zb8 q46 r46 s46 e46 (.ref cL0) u46),g46⟩)
  (hdL0:W.codeHdIn K cL0 tL0=true)
  (ktL0:K.lookup tL0=none)
  (c46:W.codeIn K (.ref cL0) "_law_shown"=true)
  (k46:W.keepIn K (.ref f46)=true)
  (a47:W.nsIn K mainGlobals "law"=some (some (.ref f47)))
  (l47:K.lookup f47=some ⟨o47,d47,.func (fnS "law" "law" zlx q47 r47 s47 e47 t47 u47),g47⟩)
  (c47:W.codeIn K t47 "law"=true)
  (k47:W.keepIn K (.ref f47)=true)
  (z_enumerate:W.nsIn K mainGlobals "enumerate"=some none)
  (z_int:W.nsIn K mainGlobals "int"=some none)
  (z_len:W.nsIn K mainGlobals "len"=some none)
  (z_list:W.nsIn K mainGlobals "list"=some none)
  (z_max:W.nsIn K mainGlobals "max"=some none)
  (z_range:W.nsIn K mainGlobals "range"=some none)
  (z_sorted:W.nsIn K mainGlobals "sorted"=some none)
  (z_tuple:W.nsIn K mainGlobals "tuple"=some none)
  (z_zip:W.nsIn K mainGlobals "zip"=some none)
  (y_ASK:W.nsIn K mainGlobals "ASK"=some (some (.str "ask" t_ASK)))
  (y_PREPARE:W.nsIn K mainGlobals "PREPARE"=some (some (.str "prepare" t_PREPARE)))
  (y_PROMISE:W.nsIn K mainGlobals "PROMISE"=some (some (.str "promise" t_PROMISE)))
  (y_VOTE:W.nsIn K mainGlobals "VOTE"=some (some (.str "vote" t_VOTE))) :
  (∀ t∈[tL0,tL1],(∃ c,W.codeHdIn K c t=true)/\K.lookup t=none)/\∃ fd:FuncData,(∀ (s:Shared) (v:Value),BindsTo s fd ⟨[v],[]⟩ [("_law_script",v)])/\∀ base:Heap,K.In base->base.Ns mainGlobals mg->(∀ t∈[tL0,tL1],base.BuiltinsAt mg t)->FOk l.prog w K mg base 9 fa fd ["_law_script"] (zhV [(tL0,zoo,zpv),(tL1,zio,zjj)]):=by
 have e:=hfa.symm.trans (W.mg_of X G a47);cases e
 have KP:Cls K cP:=⟨pP,hP,oP,sP⟩;have KA:Cls K cA:=⟨pA,hA,oA,sA⟩;have KV:Cls K cV:=⟨pV,hV,oV,sV⟩;have KR:Cls K cR:=⟨pR,hR,oR,sR⟩;have aT:At K (zbQ cP cA cV cR tL0 tL1):=⟨⟨KP,nP0⟩,⟨KP,nP1⟩,⟨KA,nA0⟩,⟨KA,nA1⟩,⟨KA,nA2⟩,⟨KA,nA3⟩,⟨KA,nA4⟩,⟨KA,nA5⟩,⟨KA,nA6⟩,⟨KA,nA7⟩,⟨KV,nV0⟩,⟨KV,nV1⟩,⟨KV,nV2⟩,⟨KR,nR0⟩,⟨KR,nR1⟩,⟨KR,nR2⟩,⟨KR,nR3⟩⟩;refine⟨λt ht=>by simp at ht; rcases ht with rfl | rfl; exact⟨⟨cL0,hdL0⟩,ktL0⟩; exact⟨⟨cL1,hdL1⟩,ktL1⟩,fnS "law" "law" zlx q47 r47 s47 e47 t47 u47,λs v=>.of_eq rfl,λbase kb _ hBL=>?_⟩;have F0:ziQ l.prog w K mg base (zbQ cP cA cV cR tL0 tL1):=D0.at X G (λ_ _ _ _ _ _=>bl1 λ_=>rfl) λ_ T=>zkJ T aT ⟨_,W.mg_of X G y_PREPARE⟩;have F1:zdo l.prog w K mg base (zbQ cP cA cV cR tL0 tL1):=D1.mk (W.mg_of X G CP) mP kP (λ_ _ _ _ _ _=>bl1 λ_=>rfl) λ_ T=>zft T aT;have F2:zdn l.prog w K mg base (zbQ cP cA cV cR tL0 tL1):=D2.at KP (λ_ _ _ _ _ _=>bl2 λ_ _=>rfl) λ_ T=>zhx T aT;have F3:zcj l.prog w K mg base (zbQ cP cA cV cR tL0 tL1):=D3.at KP (λ_ _ _ _ _ _=>bl1 λ_=>rfl) λ_ T=>zfX T aT (W.mg_none_of X G z_tuple);have F4:zfc l.prog w K mg base (zbQ cP cA cV cR tL0 tL1):=D4.at X G (λ_ _ _ _ _ _=>bl3 λ_ _ _=>rfl) λ_ T=>zhq T aT (W.mg_none_of X G z_max);have F5:zcT l.prog w K mg base (zbQ cP cA cV cR tL0 tL1):=D5.mk (W.mg_of X G CA) mA kA (λ_ _ _ _ _ _=>bl5 λ_ _ _ _ _=>rfl) λ_ T=>zeP T aT;have F6:zeu l.prog w K mg base (zbQ cP cA cV cR tL0 tL1):=D6.at KA (λ_ _ _ _ _ _=>bl2 λ_ _=>rfl) λ_ T=>zgE T aT (W.mg_none_of X G z_max) F4 F0;have F7:zfi l.prog w K mg base (zbQ cP cA cV cR tL0 tL1):=D7.at KA (λ_ _ _ _ _ _=>bl1 λ_=>rfl) λ_ T=>zhz T aT;have F8:zcR l.prog w K mg base (zbQ cP cA cV cR tL0 tL1):=D8.mk (W.mg_of X G CV) mV kV (λ_ _ _ _ _ _=>bl2 λ_ _=>rfl) λ_ T=>zeM T aT;have F9:zcP l.prog w K mg base (zbQ cP cA cV cR tL0 tL1):=D9.at KV (λ_ _ _ _ _ _=>bl1 λ_=>rfl) λ_ T=>zeK T aT;have F10:zes l.prog w K mg base (zbQ cP cA cV cR tL0 tL1):=D10.at KV (λ_ _ _ _ _ _=>bl1 λ_=>rfl) λ_ T=>zgB T aT;have F11:zbd l.prog w K mg base (zbQ cP cA cV cR tL0 tL1):=D11.at KR (λ_ _ _ _ _ _=>bl2 λ_ _=>rfl) λ_ T=>zfr T aT (W.mg_none_of X G z_len);have F12:zbc l.prog w K mg base (zbQ cP cA cV cR tL0 tL1):=D12.at KR (λ_ _ _ _ _ _=>bl2 λ_ _=>rfl) λ_ T=>zfp T aT (W.mg_none_of X G z_len);have F13:zaX l.prog w K mg base (zbQ cP cA cV cR tL0 tL1):=D13.at KR (λ_ _ _ _ _ _=>bl1 λ_=>rfl) λ_ T=>zfW T aT F3;have F14:zdl l.prog w K mg base (zbQ cP cA cV cR tL0 tL1):=D14.at KR (λ_ _ _ _ _ _=>bl3 λ_ _ _=>rfl) λ_ T=>zhw T aT F6 F2 F11;have F15:zgp l.prog w K mg base (zbQ cP cA cV cR tL0 tL1):=D15.at KR (λ_ _ _ _ _ _=>bl2 λ_ _=>rfl) λ_ T=>zig T aT F7 F11;have F16:zdj l.prog w K mg base (zbQ cP cA cV cR tL0 tL1):=D16.at KR (λ_ _ _ _ _ _=>bl2 λ_ _=>rfl) λ_ T=>zfq T aT F12 F9;have F17:zfg l.prog w K mg base (zbQ cP cA cV cR tL0 tL1):=D17.at KR (λ_ _ _ _ _ _=>bl2 λ_ _=>rfl) λ_ T=>zhu T aT F12 F10;have F18:zbF l.prog w K mg base (zbQ cP cA cV cR tL0 tL1):=D18.at KR (λ_ _ _ _ _ _=>bl2 λ_ _=>rfl) λ_ T=>zeN T aT F11;have F19:zbE l.prog w K mg base (zbQ cP cA cV cR tL0 tL1):=D19.at X G (λ_ _ _ _ _ _=>bl2 λ_ _=>rfl) λ_ T=>zeJ T aT;have F20:zdm l.prog w K mg base (zbQ cP cA cV cR tL0 tL1):=D20.mk (W.mg_of X G CR) mR kR (λ_ _ _ _ _ _=>bl3 λ_ _ _=>rfl) λ_ T=>zfs T aT (W.mg_none_of X G z_enumerate) (W.mg_none_of X G z_len) (W.mg_none_of X G z_range) F5 F1 F8;have F21:ziP l.prog w K mg base (zbQ cP cA cV cR tL0 tL1):=D21.at X G (λ_ _ _ _ _ _=>bl3 λ_ _ _=>rfl) λ_ T=>zkI T aT ⟨_,W.mg_of X G y_PROMISE⟩;have F22:zrV l.prog w K mg base (zbQ cP cA cV cR tL0 tL1):=D22.at X G (λ_ _ _ _ _ _=>bl2 λ_ _=>rfl) λ_ T=>zrb T aT ⟨_,W.mg_of X G y_ASK⟩;have F23:zox l.prog w K mg base (zbQ cP cA cV cR tL0 tL1):=D23.at X G (λ_ _ _ _ _ _=>bl3 λ_ _ _=>rfl) λ_ T=>zpl T aT ⟨_,W.mg_of X G y_VOTE⟩;have F24:zmZ l.prog w K mg base (zbQ cP cA cV cR tL0 tL1):=D24.at X G (λ_ _ _ _ _ _=>bl2 λ_ _=>rfl) λ_ T=>znA T aT;have F25:zcS l.prog w K mg base (zbQ cP cA cV cR tL0 tL1):=D25.at KP (λ_ _ _ _ _ _=>bl2 λ_ _=>rfl) λ_ T=>zeO T aT (W.mg_none_of X G z_len);have F26:zbI l.prog w K mg base (zbQ cP cA cV cR tL0 tL1):=D26.at KV (λ_ _ _ _ _ _=>bl2 λ_ _=>rfl) λ_ T=>zde T aT F21;have F27:zcQ l.prog w K mg base (zbQ cP cA cV cR tL0 tL1):=D27.at KV (λ_ _ _ _ _ _=>bl3 λ_ _ _=>rfl) λ_ T=>zeL T aT F23;have F28:zff l.prog w K mg base (zbQ cP cA cV cR tL0 tL1):=D28.at KV (λ_ _ _ _ _ _=>bl2 λ_ _=>rfl) λ_ T=>zht T aT ⟨_,W.mg_of X G y_ASK⟩ ⟨_,W.mg_of X G y_PREPARE⟩ F27 F26;have F29:zb1 l.prog w K mg base (zbQ cP cA cV cR tL0 tL1):=D29.at KA (λ_ _ _ _ _ _=>bl1 λ_=>rfl) λ_ T=>zdB T aT (W.mg_none_of X G z_len) (W.mg_none_of X G z_max);have F30:zfh l.prog w K mg base (zbQ cP cA cV cR tL0 tL1):=D30.at KA (λ_ _ _ _ _ _=>bl2 λ_ _=>rfl) λ_ T=>zhy T aT (W.mg_none_of X G z_len) (W.mg_none_of X G z_sorted) (W.mg_none_of X G z_tuple) F22 F19 F29;have F31:zgq l.prog w K mg base (zbQ cP cA cV cR tL0 tL1):=D31.at KR (λ_ _ _ _ _ _=>bl3 λ_ _ _=>rfl) λ_ T=>zih T aT (W.mg_none_of X G z_len) ⟨_,W.mg_of X G y_PROMISE⟩ ⟨_,W.mg_of X G y_VOTE⟩ F24 F30 F2 F28;have F32:zdk l.prog w K mg base (zbQ cP cA cV cR tL0 tL1):=D32.at KR (λ_ _ _ _ _ _=>bl3 λ_ _ _=>rfl) λ_ T=>zhv T aT F25 F31 F12;have F33:zdK l.prog w K mg base (zbQ cP cA cV cR tL0 tL1):=D33.at X G (λ_ _ _ _ _ _=>bl2 λ_ _=>rfl) λ_ T=>zfV T aT (W.mg_none_of X G z_sorted) (W.mg_none_of X G z_tuple) ⟨_,W.mg_of X G y_VOTE⟩ F19;have F34:zcI l.prog w K mg base (zbQ cP cA cV cR tL0 tL1):=D34.at KR (λ_ _ _ _ _ _=>bl1 λ_=>rfl) λ_ T=>zgC T aT F33 F3;have F35:zcH l.prog w K mg base (zbQ cP cA cV cR tL0 tL1):=D35.at X G (λ_ _ _ _ _ _=>bl2 λ_ _=>rfl) λ_ T=>zif T aT (W.mg_none_of X G z_len);have F36:zbT l.prog w K mg base (zbQ cP cA cV cR tL0 tL1):=D36.at X G (λ_ _ _ _ _ _=>bl3 λ_ _ _=>rfl) λ_ T=>zja T aT;have F37:zer l.prog w K mg base (zbQ cP cA cV cR tL0 tL1):=D37.at X G (λ_ _ _ _ _ _=>bl1 λ_=>rfl) λ_ T=>zgA T aT (W.mg_none_of X G z_range) (W.mg_none_of X G z_tuple) F35 F36;have F38:zgm l.prog w K mg base (zbQ cP cA cV cR tL0 tL1):=D38.at X G (λ_ _ _ _ _ _=>bl1 λ_=>rfl) λ_ T=>zid T aT F35 F36;have F39:zdV l.prog w K mg base (zbQ cP cA cV cR tL0 tL1):=D39.at X G (λ_ _ _ _ _ _=>bl3 λ_ _ _=>rfl) λ_ T=>zib T aT (W.mg_none_of X G z_list) (W.mg_none_of X G z_range) F36;have F40:zgn l.prog w K mg base (zbQ cP cA cV cR tL0 tL1):=D40.at X G (λ_ _ _ _ _ _=>bl3 λ_ _ _=>rfl) λ_ T=>zkK T aT F14 F32 F15;have F41:zfe l.prog w K mg base (zbQ cP cA cV cR tL0 tL1):=D41.at X G (λ_ _ _ _ _ _=>bl5 λ_ _ _ _ _=>rfl) λ_ T=>zhs T aT (W.mg_none_of X G z_enumerate) F40 F13;have F42:zgl l.prog w K mg base (zbQ cP cA cV cR tL0 tL1):=D42.at X G (λ_ _ _ _ _ _=>bl5 λ_ _ _ _ _=>rfl) λ_ T=>zic T aT (W.mg_none_of X G z_int) (W.mg_none_of X G z_len) (W.mg_none_of X G z_max) F41 F40 F36 F39 F18 F13;have F43:zgo l.prog w K mg base (zbQ cP cA cV cR tL0 tL1):=⟨_,_,zie (fun_mk l43 c43 k43) rfl (W.codeHd_of_K kb hdL1) (hBL _ (by simp)) aT (W.mg_none_of X G z_sorted) F32 F13,W.mg_of X G a43,k43,(fun_mk l43 c43 k43).binds (λ_ _ _ _ _ _=>bl4 λ_ _ _ _=>rfl)⟩;have F44:zeq l.prog w K mg base (zbQ cP cA cV cR tL0 tL1):=D44.at X G (λ_ _ _ _ _ _=>bl1 λ_=>rfl) λ_ T=>zgz T aT (W.mg_none_of X G z_len);have F45:zet l.prog w K mg base (zbQ cP cA cV cR tL0 tL1):=D45.at KR (λ_ _ _ _ _ _=>bl1 λ_=>rfl) λ_ T=>zgD T aT F44 F34;have F46:zfd l.prog w K mg base (zbQ cP cA cV cR tL0 tL1):=⟨_,_,zhr (fun_mk l46 c46 k46) rfl (W.codeHd_of_K kb hdL0) (hBL _ (by simp)) aT (W.mg_none_of X G z_range) (W.mg_none_of X G z_sorted) F18 F45 F34 F13 F16 F17,W.mg_of X G a46,k46,(fun_mk l46 c46 k46).binds (λ_ _ _ _ _ _=>bl3 λ_ _ _=>rfl)⟩;exact zra (fun_mk l47 c47 k47) aT (W.mg_none_of X G z_len) (W.mg_none_of X G z_max) (W.mg_none_of X G z_range) (W.mg_none_of X G z_zip) F35 F43 F38 F36 F42 F46 F39 F37 F14 F13 F20
theorem walk{l:W.OpenLaw}{q:Program}{loose:List Str}{XP:(Str->Option Value)->Heap->Prop}{YP:World->Heap->Prop}{d:DefRec}{K:Params->W.Frag}{tL0 tL1:Addr}(nd:[tL0,tL1].Nodup)(hn:l.most=some 63)(hdf:d.params.defaults=[])
  (hY:∀ (w:World) (h:Heap),YP w h->(K w.params).In h) (hT0:∀ (w:World) (h:Heap),YP w h->h.get? tL0=some (W.tabObj #[])) (hT1:∀ (w:World) (h:Heap),YP w h->h.get? tL1=some (W.tabObj #[]))
  (F:∀ (w:World) (mg:Str->Option Value) (fa:Addr) (h:Heap),(K w.params).In h->h.Ns mainGlobals mg->mg d.name=some (.ref fa) ->
   (∀ t∈[tL0,tL1],(∃ c,W.codeHdIn (K w.params) c t=true)/\(K w.params).lookup t=none)/\∃ fd:FuncData,(∀ (s:Shared) (u:Value),BindsTo s fd ⟨[u],[]⟩ [("_law_script",u)])/\∀ base:Heap,(K w.params).In base->base.Ns mainGlobals mg->(∀ t∈[tL0,tL1],base.BuiltinsAt mg t)->FOk l.prog w (K w.params) mg base 9 fa fd ["_law_script"] (zhV [(tL0,zoo,zpv),(tL1,zio,zjj)])) :
  W.WalkO q loose XP YP l.row.toRowW d [] (λf vs=>PySem.call f vs) :=
 L2.walk_ofT (Ts:=[tL0,tL1]) (n:=63) (k:=9) (x:="_law_script") (CX:=λ_=>CX0) (sp:=λw=>lSp ⟨K w.params,w,l.prog⟩ (zhV [(tL0,zoo,zpv),(tL1,zio,zjj)])) hn (by rw[sizeLine_eq]; decide) hdf ⟨rfl,by decide,by decide⟩ hY (λw h Y t ht=>by simp at ht; rcases ht with rfl | rfl; exact hT0 w h Y; exact hT1 w h Y) F (λw H a ns hl hO hS=>zkO nd hl hO hS) λ_ _ _ _ _ z=>z
end My
namespace PySem.W.Fast
def tw4054508440014745285:=0
def tw11443175688597356041:=0
def tw14225980305330761536:=0
def tw5234564866133588603:=0
def tw13973731740364307436:=0
def tw15672235322003610660:=0
def tw17805380470576874243:=0
def tw5133536284880499185:=0
def tw7679346687684504419:=0
def tw2919297810587333280:=0
def tw9072732190623651943:=0
def tw11975714990501302747:=0
def tw17701071058459599727:=0
def tw18066518665425876265:=0
def tw10499362026475965179:=0
def tw8253009545182919718:=0
def tw17317868803182899235:=0
def tw4567515667318615543:=0
def tw14970627543518773833:=0
def tw17921511744526771739:=0
def tw11490785224414251321:=0
def tw10963704309307487893:=0
def tw13247703224678198106:=0
def tw14336949409036907587:=0
def tw17473792634410299997:=0
def tw9024262995271961968:=0
def tw12264490339141717977:=0
def tw13138746652183731264:=0
def tw12664579289516959820:=0
def tw9316773787571783107:=0
def tw432510545822429955:=0
def tw16261478445235210295:=0
def tw11910396520476407249:=0
def tw3526519656011109200:=0
def tw12933594204224033922:=0
def tw3215226321369158617:=0
def tw4377875901085717046:=0
def tw14857033718236075719:=0
def tw13508210458625235371:=0
def tw8684049441724597500:=0
def tw5230647276899261149:=0
def tw13233776403154820993:=0
def tw9820778034443149098:=0
def tw14395318899962423974:=0
def tw9021915413904594636:=0
def tw15801025421406503964:=0
def tw5390136989609633086:=0
def tw14962009905769598376:=0
def tw2274085918304168912:=0
def tw13801378287412266821:=0
def tw2644542881204089233:=0
def tw4449902399489457248:=0
def tw15961605738592658356:=0
def tw14903933104270858455:=0
def tw735806902234877179:=0
def tw12994583222685851030:=0
def tw7100454729466791738:=0
def tw2078388463052144951:=0
def tw10358870146346074240:=0
def tw14023419810225737670:=0
def tw8102693921698291610:=0
def tw6028891290402477679:=0
def tw11610052639673018223:=0
def tw5906639347238314101:=0
def tw12533875537190103383:=0
def tw6441794539146305368:=0
def tw16707979944474954765:=0
def tw9274054195060178274:=0
def tw11354154244682156968:=0
def tw17036443175685021283:=0
def tw5515488809087919383:=0
def tw9299151317540718553:=0
def tw1952794417551578782:=0
def tw11286783785039138406:=0
def tw13215982846348172619:=0
def tw8622131169046408052:=0
def tw5559922885771346315:=0
def tw11930519078384668037:=0
def tw9162768271746898269:=0
def tw13392610348062473747:=0
def tw8245109294898708826:=0
def tw5540239133584419749:=0
def tw5511404522059490432:=0
def tw13461526087039413418:=0
def tw8823497024021423392:=0
def tw11240819841644262098:=0
def tw2634417065241635108:=0
def tw15283264808821479135:=0
def tw18157966523464071202:=0
def tw9224281073913209877:=0
def tw3559398805558418916:=0
def tw16338625596085535051:=0
def tw9325748975451883437:=0
def tw17690031205390137485:=0
def tw5572345695565974751:=0
def tw13405064080128062206:=0
def tw13459806903489864584:=0
def tw8162335827337891099:=0
def tw5197207324300593064:=0
def tw9311326222399824732:=0
def tw6872488518294997799:=0
def tw10102925636606815647:=0
def tw3068131108025479545:=0
def tw14708248642577064206:=0
def tw3976921401262167675:=0
def tw14656753230127738051:=0
def tw18074717104483012136:=0
def tw11937831091058032736:=0
def tw3377125346841455816:=0
def tw9724625477479013157:=0
def tw4196823965686742208:=0
def tw10871465232081380405:=0
def tw11265087865499599099:=0
def tw18270453361348295599:=0
def tw2612095778065749696:=0
def tw14749484389692741924:=0
def tw1499191502408115539:=0
def tw5670649339018463617:=0
def tw9066181565834181622:=0
def tw12282048480209702496:=0
def tw11840486430206596177:=0
def tw2522684010605178737:=0
def tw12498288179465716108:=0
def tw16922411598475098672:=0
def tw1190007861620705844:=0
def tw15612668628008234109:=0
def tw1847040260315530260:=0
def tw5559148092263277916:=0
def tw11994283869657131899:=0
def tw10941893373544531039:=0
def tw1002630289265720352:=0
def tw11257280600110800444:=0
def tw7342594171752288750:=0
def tw5797708057019247426:=0
def tw7776243554570005773:=0
def tw5751271372596576663:=0
def tw17740621350824625035:=0
def tw7695278382321723802:=0
def tw12575048575217704940:=0
def tw4031989298337606028:=0
def tw10733714544333847858:=0
def tw5373190850947505265:=0
def tw9249287064814778300:=0
def tw13112469487767831245:=0
def tw6387445237086964286:=0
def tw14819195063031046773:=0
def tw17025038891731022355:=0
def tw1502643741070424169:=0
def tw17352480065756028871:=0
def tw1001374195691576608:=0
def tw2748029290486872088:=0
def tw9674471897186521588:=0
def tw19619168918158788:=0
def tw9181893803298533850:=0
def tw16026691845593404230:=0
def tw7388653669175476620:=0
def tw8040606942235691673:=0
def tw13400216968938961008:=0
def tw16164174290298447754:=0
def tw6924757560693556185:=0
def tw8752556977083239880:=0
def tw5513199618312208669:=0
def tw1473819962473904842:=0
def tw16614403308735056041:=0
def tw18198403652759888719:=0
def tw13235854877213179747:=0
def tw5912602423644649705:=0
def tw9426084663994483212:=0
def tw10757212939053934859:=0
def tw17632415565694214949:=0
def tw11163611428370403740:=0
def tw9941358806515517910:=0
def tw10374645486709356972:=0
def tw2623416838475953586:=0
def tw3133201613772401578:=0
def tw10801927420094748329:=0
def tw7970318543424097164:=0
def tw1062729007538250050:=0
def tw12750943977736769871:=0
def tw3628985569485799106:=0
def tw3227958667622145716:=0
def tw496743981737446162:=0
def tw6737888895007638965:=0
def tw8555416758556498773:=0
def tw10352374457047434691:=0
def tw11483062190008706587:=0
def tw16564380070509495199:=0
def tw16912852073004948181:=0
def tw5131985032060844949:=0
def tw13962133354050882333:=0
def tw13429085304189728942:=0
def tw8749799375490792748:=0
def tw7731646030884598644:=0
def tw4458228177544539744:=0
def tw14120441727513826629:=0
def tw2360307268399944845:=0
def tw14338978199025194612:=0
def tw14630119241326703710:=0
def tw8451196166136745142:=0
def tw10478309859164660797:=0
def tw16243437235956637333:=0
def tw13816304779259545876:=0
def tw8742216005387858573:=0
def tw3962100804268930506:=0
def tw13142937306981647373:=0
def tw7563963960194242504:=0
def tw3777710965993404147:=0
def tw16198805482800540019:=0
def tw10179150207645478167:=0
def tw4702691444203438158:=0
def tw4493665098144825087:=0
def tw8781365050988816690:=0
def tw14373262736782275893:=0
def tw2451919128645068346:=0
def tw6869801929840581248:=0
def tw12152598064700298786:=0
def tw4537468687118718461:=0
def tw14505229767804375540:=0
def tw4985877215532608972:=0
def tw14534813036464696877:=0
def tw11342303368083555722:=0
def tw16756629665142699606:=0
def tw15511657164253395703:=0
def tw11308535675931159067:=0
def tw2120040261477746311:=0
def tw4094568673722781837:=0
def tw18056613222964530863:=0
def tw2236742787360693864:=0
def tw1045130508416791115:=0
def tw8510554113994246625:=0
def tw17284341493717393365:=0
def tw8524843060784597174:=0
def tw985089834266801635:=0
def tw662853229408305098:=0
def tw3907866430470458017:=0
def tw18263488188346184453:=0
def tw4160004064066060034:=0
def tw8108349013344152277:=0
def tw16235151516456974859:=0
def tw16051510669217554565:=0
def tw9084859882484199011:=0
def tw2134304530070940414:=0
def tw7827084258961676778:=0
def tw11253944458005077518:=0
def tw2626667083221213519:=0
def tw9367549005783316950:=0
def tw14913306347729017310:=0
def tw12197319344756012210:=0
def tw13368320839966460065:=0
def tw2222418486065312645:=0
def tw11083298086857207624:=0
def tw13442343090853955451:=0
def tw82394025410335595:=0
def tw16098258818577468372:=0
def tw3220526339005655313:=0
def tw10855964375657928436:=0
def tw12376895215254771394:=0
def tw15042306109111975865:=0
def tw12819602691244433329:=0
def tw4178844839682227081:=0
def tw18398151020850139254:=0
def tw1299727143561118170:=0
def tw16505423450665732996:=0
def tw190487748998491798:=0
def tw13286778012711507062:=0
def tw9791783414248719772:=0
def tw10783688472197409603:=0
def tw2535718071245099669:=0
def tw12130784749827383305:=0
def tw1330031658407903189:=0
def tw7589887420261361973:=0
def tw15685985259629521315:=0
def tw14041114172497204298:=0
def tw13384364018087975644:=0
def tw10451563943732960135:=0
def tw8833329014972077396:=0
def tw10230499572523892772:=0
def tw1827118527849578950:=0
def tw9691964079680050101:=0
def tw164388363810585157:=0
def tw5382152453924806831:=0
def tw2418672057155024001:=0
def tw9986358379383524879:=0
def tw8797120647106007793:=0
def tw7496297062906564731:=0
def tw551081839498927514:=0
def tw11687967614996570832:=0
def tw2832775425339547529:=0
def tw9106647922919084513:=0
def tw3250108400600872769:=0
def tw16088330111290686501:=0
def tw5566355032393339928:=0
def tw11430990329695797166:=0
def tw11613338238721286048:=0
def tw7077349967589199328:=0
def tw2513615400641010498:=0
def tw15747906544617093673:=0
def tw12821961105892724712:=0
def tw7868955198679422995:=0
def tw10655297091027080281:=0
def tw16570144257844549518:=0
def tw790478953974488679:=0
def tw15952037153666260973:=0
def tw17146567500261310401:=0
def tw14019577762962392919:=0
def tw4229598562913364532:=0
def tw429709639045871430:=0
def tw14019274620568687804:=0
def tw17904381180348859245:=0
def tw7924593674187424380:=0
def tw15797978284890056379:=0
def tw16140900344442835041:=0
def tw10514847383908604695:=0
def tw1646789849304323768:=0
def tw12916015049828392233:=0
def tw12863992648407195104:=0
def tw14910131830609395905:=0
def tw6686861624602072045:=0
def tw4658268798281058394:=0
def tw2326725174280836125:=0
def tw1324224250008145614:=0
def tw13558761616733153946:=0
def tw12994300968375188170:=0
def tw10734823451691644468:=0
def tw8433439365348053214:=0
def tw4803024447647832759:=0
def tw17139488172371567739:=0
def tw16598739053660074346:=0
def tw9934876422342744969:=0
def tw13434959527727305942:=0
def tw10908703040903201031:=0
def tw1244933460639105039:=0
def tw12104528322559175634:=0
def tw11314551611098297937:=0
def tw11123571356199577514:=0
def tw5245180768776945126:=0
def tw5188064404803416903:=0
def tw14102656951565067134:=0
def tw9981218332024089556:=0
def tw4006813801008183728:=0
def tw10571109680354560067:=0
end PySem.W.Fast
open PySem PySem.W PyProof.Rows
set_option maxRecDepth 100000 in
set_option maxHeartbeats 0 in
theorem PySem.Challenge.cw_onechoice_k10_whole_either_order_holds : PySem.Challenge.rw_onechoice_k10_whole_either_order.Holds := by
 w_on; o_law; k_head; (case hw=>w_witness2)
 k_fill
 refine My.walk (l:=PySem.Challenge.rw_onechoice_k10_whole_either_order) ?nd rfl rfl (λw h Y=>PySem.W.km_in_of Y) (λw h Y=>PySem.W.km_tabs_of Y _ (.head _)) (λw h Y=>PySem.W.km_tabs_of Y _ (.tail _ (.head _))) ?F
 case nd=>decide
 case F =>
  intro w mg fa h KX G hmg
  refine' My.all_mk KX G hmg ?_ ?_ ?_ ?_ ?_ ?_ ?_ ?_ ?_ ?_ ?_ ?_ ?_ ?_ ?_ ?_ ?_ ?_ ?_ ?_ ?_ ?_ ?_ ?_ ?_ ?_ ?_ ?_ ?_ ?_ ?_ ?_ ?_ ?_ ?_ ?_ ?_ ?_ ?_ ?_ ?_ ?_ ?_ ?_ ?_ ?_ ?_ ?_ ?_ ?_ ?_ ?_ ?_ ?_ ?_ ?_ ?_ ?_ ?_ ?_ ?_ ?_ ?_ ?_ ?_ ?_ ?_ ?_ ?_ ?_ ?_ ?_ ?_ ?_ ?_ ?_ ?_ ?_ ?_ ?_ ?_ ?_ ?_ ?_ ?_ ?_ ?_ ?_ ?_ ?_ ?_ ?_ ?_ ?_ ?_ ?_ ?_ ?_ ?_ ?_ ?_ ?_ ?_ ?_ ?_ ?_ ?_ ?_ ?_ ?_ ?_ ?_ ?_ ?_ ?_ ?_ ?_ ?_ ?_
  all_goals first|exact⟨by k_is,_,L2.fun_mk (by k_is) (by k_is) (by k_is)⟩|exact⟨by k_is,by k_is,_,L2.fun_mk (by k_is) (by k_is) (by k_is)⟩|k_is|kernel_rfl|skip